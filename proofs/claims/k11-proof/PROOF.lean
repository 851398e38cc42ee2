import PyProof.Rows.All
import Wide.All
import OpenK.AllK
import Wide.FinOn
import Lean
import PyProof.EqAt
import PyProof.EqKinds
import PyProof.TupleCall
import PySem.Challenge.RW_leastloss_k11_whole_breaking_walked
open PySem.W renaming Frag->aa, findIn->ff, keepIn->fx, kia_one->gx, emptyDict->g9, fnOf->jk, nsIn->jo, instObj->j1, plainGet->kz, codeIn->la, mg_of->mf, hasDictIn->mn, kla_obj->og, callWith_K->oi, plainOver->ph, codeHdIn->qh, plainGet_of->rm, isFn->se, envX->sj, lookIn->tj, methodObj->uj, kitx_bool->uy, cellsFrom_some->wb, takerIn->wz, makesIn->w4, methodCall_KW->xa, codeHd_of_K->yr, handedIn->Yx, kitx_int->Ze, kitx_str->Zf, kitOne->Aae, tabObj->Aaj
open List renaming length_map->ab, mem_singleton->ah, getElem?_eq_getElem->ai, replicate->ao, nil_append->av, range->ay, length_nil->az, map_cons->bb, size_toArray->be, length_cons->bf, getElem?_map->bg, not_mem_nil->bj, mem_of_getElem?->bp, length_append->bq, getElem?_append_left->bu, mem_cons->bw, cons_append->cg, drop_eq_getElem_cons->cj, mem_cons_of_mem->cq, getElem?_eq_none->cu, getElem?_append_right->cw, mem_cons_self->dh, length_range->dm, lookup_cons->dq, map_append->dw, set_cons_zero->dy, filter_cons->dz, append_nil->d5, set_cons_succ->ey, filterMap_cons->fe, getElem?_cons_zero->fh, all_eq_true->f6, mem_append_right->f7, map_nil->gg, drop_eq_nil_of_le->gj, length_filter_le->gr, getElem?_set_ne->gy, getElem?_cons_succ->gV, range_succ_eq_map->iu, replicate_succ->i9, lookup->jc, foldl_cons->jd, getElem?_replicate->jw, reverse_cons->jy, idxOf_cons->j3, idxOf_lt_length_of_mem->j7, range_succ->ki, mem_append->kj, any_map->ku, any_cons->kx, getElem?_set_self->lx, zip_cons_cons->l8, map_map->md, length_replicate->mh, any_eq_false->mj, flatten_cons->mo, map_congr_left->nu, all_cons->ny, of_mem_zip->oe, contains_cons->om, filter_cons_of_pos->oy, filter_cons_of_neg->oz, append_assoc->p0, all_map->p8, nodup_append->qa, flatMap_cons->qb, length_take->qf, foldl->qg, getElem_mem->qi, prefix_refl->qj, mem_append_left->qr, map->qv, range'->qx, getElem?_of_mem->qy, length_set->rb, forIn_cons->rh, length_reverse->rz, mem_map->sk, drop_zero->tx, getElem?_eq_some_iff->ue, extract_eq_take_drop->uf, isEmpty_cons->uw, length_drop->vn, range'_succ->vw, ext_getElem->vz, isEmpty_nil->v5, length_pos_of_mem->wx, length_zip->w9, length_singleton->xb, dropLast_eq_take->xf, nodup_nil->yg, range_eq_range'->yh, drop_succ_cons->yo, flatMap_append->yt, getElem?_range->yu, map_replicate->zm, lookup_append->zr, ext_getElem?->Ys, foldl_append->Yt, isEmpty_iff->Zc, take_length->Zd, mem_flatMap->Zj, length->Zk, nodup_cons->Zp, forIn_nil->Aad, sum_nil->AaC, any->AaS
open PySem renaming Value->ae, wpAny_bind->af, Shared->ag, starEach->aq, wpAny_pure->ar, Program->b7, Around->cp, mainGlobals->cz, World->c9, bootBuiltins->de, wpAny_ite_split->du, Spec->d7, backTo->eh, builtinLookup_eq_fast->fb, assignEach->fu, wpAny_Call_Name_kw->fw, wpAny_call_entry->gb, foldedSetIterable->gq, attributeBase->gu, wpAny_specialOf->gw, wpAny_holding->g7, rawInt->g8, FuncData->h9, wpAny_newObj_type->ij, mem_of_lookup->i7, typeLookup_type->je, binaryOp->jr, wpAny_callSpecial?_slot->jx, wpAny_isNot_other->jz, wpAny_mono->j8, isSubtype_type->ke, wpAny_passesOwn->kg, sizeLine_eq->kl, keywordEach->km, wpAny_field->kn, holding->ky, wpAny_is_other->lb, wpAny_of_eq->lj, codeAny->lz, codeAny_mono->l0, behindInMarks->me, wpAny_truthy_bool->mi, swapsWith->my, wpAny_isInstance->mz, assign->nj, call_meets->oj, sliceBounds->ow, standAt->pe, backToKw->pj, eqIsQuiet_byValue->p9, sysModules->qe, wpAny_standAt->qk, swapsWithSole->qm, swappedStores->qo, letOwnedTupleGo->qz, wpAny_updateSeq->rg, codeAny_builtin->rj, Keyword->sh, PassesOwn->sv, typeLookup->tq, wpAny_pyIter_tuple->ua, wpAny_binaryOp_repeat_ref->uc, wpAny_sequenceKey->uu, wpAny_mkInt->ux, wpAny_comprehension_free->vb, wpAny_attempt->vd, compareOp->vf, getMethod->vg, NameKind->vh, noFill_tuple_add->vj, wpAny_forIn_list->vq, scanBound->vy, pyNext->v8, wpAny_call->wa, IsPart->wc, getItem->we, wpAny_typeOf->wg, wpAny_Call_method_late->wj, wpAny_rule->wo, wpAny_execs_nil->wy, wpAny_isTrue_Compare1->xj, pyIter->xm, callWith->xo, seqIndex_of->xq, wpAny_newFunctionEnv->yc, cLine->yd, wpAny_setField->yf, callerA->yl, seq_tuple_add->yv, signature?_of->ze, builtinsNs->zh, typeIs_int->zk, wpAny_tupleItemsOf->zl, strKind_is->zo, closureFor->zq, Within->zt, spliced->zu, wpAny_assign_Name->zw, BindsTo->z9, concat_meets->Yj, seqIndex_neg->Yk, slot_dict_getitem->Yo, wpAny_pyIter_list->Yp, wpAny_pyIter_enum->Yq, isTrue->Yw, beq_builtin_none->Zb, entryFor_of_tree->Zg, wpAny_pyIter_zip->Zi, codeAny_of_tree->Zo, ItemsOf->Zq, GenState->Zr, wpAny_Name->Zs, bindArgs->Zu, fitsIndex_both->Zw, reduceHash->Zx, PyData->Zy, argsOk->Aag, defaultsOf->Aai, cellsFrom->Aau, updateSeq->Aav, Paired->Aax, setItem->Aay, Result->Aaz
open PySem.Heap renaming get?_push_of_some->aj, lt_size->bh, get?_push_size->br, get?_update_other->gf, get?_update_self->jj, size_push->ju, SameBut->ll, ExtBut->AaO
open Bool renaming false_eq_true->ak, and_eq_true->bc, and_false->cx, not_true->e8, false_ne_true->fv, and_self->fz, not_false->iq, true_and->jm, false_and->jq, or_eq_true->rf, or_false->yx, and_true->zg, eq_iff_iff->Zn, and_assoc->Aaa, or_self->AaD
open Nat renaming le_refl->aw, lt_of_lt_of_le->bz, ne_of_lt->b9, le_trans->dg, zero_le->dt, pow_le_pow_right->fk, lt_irrefl->fy, lt_succ_self->gz, lt_succ_of_lt->kr, ne_of_gt->ly, blt->mx, lt_of_not_le->nh, add_assoc->qp, le_of_lt->r8, zero_add->si, lt_of_le_of_lt->tu, le_succ->ur, add_sub_cancel_left->vt, le_max_right->v7, le_max_left->w8, add_min_add_right->xi, pow_succ->Yr, le_of_not_lt->Yz, mul_le_mul->Zz, le_of_eq->AaA, lt_trans->AaB
open True renaming intro->cy
open Option.some renaming inj->c7, injEq->Yu
open Option renaming map_eq_some_iff->di, map_some->jf, getD_some->lh, isNone_none->ub, getD_none->Yy
open False renaming elim->ek
open PySem.Builtin.List renaming listTooLong->eu, listExtendWith->j6, listLengthHint->mr, listSameRef->vc, listItems->wt
open PyProof.Rows renaming callWith_type1->e9, slot_tuple_getitem->jh, envOfC->nk, subscriptTail_builtinR->px, AllBare->uq, IntsAre->wm, foldl_rep->yk, entry_tuple_getitem->ym, tupleItemsOf_->yw, args_tuple_getitem->zi, slicePart_none->Zv, len_tuple->Aas
open Ne renaming symm->fj
open PySem.Around renaming in1_units->gh, under_plainId->qw, frames_deeper->xp, under->zx
open PySem.Builtin.Tuple renaming tupleHashOf->gk, tupleExact->gv, tupleItemsOf->ig, tupleTooMany->tw, tupleIsExact->tz
open PySem.Value renaming type->gp, ref->i5, none->j0, bool->sy, str->Yv, int->Aar, bytes->AaE, float->AaF
open Array renaming length_toList->j4, getElem?_eq_getElem->ug, toList_extract->xy, forIn_toList->zp, toList->zv
open PyProof.Rows.F renaming plain_set_update_loop->j5, entry_set_update_loop->nq
open PySem.Calls renaming spliced_cons->j9, callWith_builtin->l4, spliced_nil->pk, evalArgs_plain->qs, Name_function_global->td
open PySem.Obj renaming mapSeq->kc, data_mapFields->oo, isFreed_of_fields->xk, mapFields->zf
open PySem.Builtin.Slice renaming slicePlaces->kf, sliceAdjust->ni, sliceApplied->tm
open ForInStep renaming yield->kh
open PySem.Str renaming ofString->kq, length->kv, empty->Aat, cps->Aa2
open Function renaming comp_def->mq, comp->Aaq
open Int renaming natCast_zero->ng, emod_nonneg->oh, emod_lt_of_pos->oq, toNat_of_nonneg->rq, toNat->Aaw, le_refl->AaT
open PySem.F renaming args_tuple_add_2->nv, entry_tuple_add->ou, plainAttrs_list->ox, slot_tuple_add->pw, slot_tuple_index->ve, slot_tuple_hash->vp, slot_list_index->vx, slot_int_rmul->xg, args_list_extend_2->xr, plain_reversed_new->ye, entry_list_extend->yn, plain_extend_loop->yp, slot_list_extend->zj, slot_int_rmul->Zl
open PySem.NameKind renaming free->n5, cell->zd
open PySem.Builtin.Str renaming occurrences->ot, subAt->Yn
open PyProof.Rows.KTD renaming datumAt->qt, flatLooks->uz, tabLook->xt
open List.cons renaming injEq->rl
open Classical renaming byContradiction->uh
open PySem.AutoSeq1 renaming wpAny_loadPart'->va
open PyProof.Rows.KTD.Dat renaming flat->wq
open PySem.SeqAt.EqAt renaming bool_tuple->w5, bool_bool->xv, str_tuple->xw, bool_str->yz, str_bool->zc, str_str->Yl, of_refs->Ym, same->Za, tuple_bool->Zm, tuple_str->Aab
open PySem.PassesOwn renaming never->w6
open Sum renaming inl->yi, inr->yj
open PySem.Heap.SameBut renaming update->yq
open PySem.Code renaming isFrame->zy, frames->AaI
open Std.Legacy renaming Range->Zh
open PySem.Paired renaming length->Aak
open PySem.Shared renaming TypeIs->Aap
open PySem.SeqAt.RcAt renaming tuples->AaK
open PySem.Walks renaming tuple->AaL
set_option Elab.async false
set_option tactic.hygienic false
set_option genSizeOf false
set_option bootstrap.genMatcherCode false
set_option compiler.extract_closed false
set_option linter.all false
set_option maxRecDepth 100000
set_option maxHeartbeats 4000000
section
namespace L2
open PySem PySem.Spec PyProof.Rows
noncomputable abbrev Key:=Sum Int Str
noncomputable def Bs:Key->ae->Bool|.inl k,v=>Value.isInt k v|.inr x,v=>Value.isStrOf x v
noncomputable def Vg (w:c9):Key->Int|.inl k=>hashInt k|.inr x=>hashStr w x
theorem gJ:∀{k:Key}{v:ae},Bs k v=true->(∃ i t,k=yi i/\v=Aar i t)∨(∃ x t,k=yj x/\v=Yv x t)|.inl i,v,h=>by obtain⟨t,e⟩:=Value.isInt_shape (k:=i) (v:=v) h;exact .inl ⟨i,t,rfl,e⟩|.inr x,v,h=>by obtain⟨t,e⟩:=Value.isStrOf_shape (x:=x) (v:=v) h;exact .inr ⟨x,t,rfl,e⟩
theorem Ii (a b:Int):decide ((yi a:Key)=yi b)=(a==b):=by
 by_cases e:a=b;·subst e;simp
 ·have h:¬(yi a:Key)=yi b:=fun q=>e (Sum.inl.inj q);rw[decide_eq_false h];exact(beq_eq_false_iff_ne.mpr e).symm
theorem Ks (a b:Str):decide ((yj a:Key)=yj b)=decide (a=b):=by
 by_cases e:a=b;·subst e;simp
 ·have h:¬(yj a:Key)=yj b:=fun q=>e (Sum.inr.inj q);rw[decide_eq_false h,decide_eq_false e]
theorem Nq (a:Int)(b:Str):decide ((yi a:Key)=yj b)=false:=decide_eq_false (fun q=>nomatch q)
theorem Mc (a:Str)(b:Int):decide ((yj a:Key)=yi b)=false:=decide_eq_false (fun q=>nomatch q)
noncomputable def GO (prog:b7)(w:c9):PySem.KeyKind prog w Key where
 is:=Bs;hash:=Vg w;inj:=fun v a b ha hb=>by
  rcases gJ ha with⟨i,t,rfl,rfl⟩|⟨x,t,rfl,rfl⟩
  ·rcases gJ hb with⟨j,u,rfl,e⟩|⟨y,u,rfl,e⟩;·injection e with e1 _;rw[e1]
   ·exact nomatch e
  ·rcases gJ hb with⟨j,u,rfl,e⟩|⟨y,u,rfl,e⟩;·exact nomatch e
   ·injection e with e1 _;rw[e1]
 byValue:=fun k v h=>by rcases gJ h with⟨i,t,rfl,rfl⟩|⟨x,t,rfl,rfl⟩<;>rfl
 pyHash:=fun hv h=>by
  rcases gJ hv with⟨i,t,rfl,rfl⟩|⟨x,t,rfl,rfl⟩;·exact wpAny_pyHash_int h
  ·exact wpAny_pyHash_str h
 eqBool:=fun hu hv h=>by
  rcases gJ hu with⟨i,t,rfl,rfl⟩|⟨x,t,rfl,rfl⟩
  ·rcases gJ hv with⟨j,u,rfl,rfl⟩|⟨y,u,rfl,rfl⟩;·rw[Ii]at h;exact wpAny_eqBool_int h
   ·rw[Nq]at h;exact SeqAt.EqAt.int_str i t y u _ _ _ _ h
  ·rcases gJ hv with⟨j,u,rfl,rfl⟩|⟨y,u,rfl,rfl⟩;·rw[Mc]at h;exact SeqAt.EqAt.str_int x t j u _ _ _ _ h
   ·rw[Ks]at h;exact wpAny_eqBool_str h
 «strs»:=fun k x t v h=>by
  rcases gJ h with⟨i,u,rfl,e⟩|⟨y,u,rfl,e⟩;·exact nomatch e
  ·injection e with e1 _;subst e1;cases v<;>rfl
end L2
namespace L2
open PySem PySem.Spec PyProof.Rows
inductive V where|non|bl (b:Bool)|int (i:Int)|str (x:Str)|byt (b:Array UInt8)|flt (b:UInt64)|ref (a:Addr)|ty (n:String)deriving DecidableEq
def RelV:V->ae->Prop|.non,u=>u=j0|.bl b,u=>u=sy b|.int i,u=>∃ t,u=Aar i t|.str x,u=>∃ t,u=Yv x t|.byt b,u=>∃ t,u=AaE b t|.flt b,u=>∃ t,u=AaF b t|.ref a,u=>u=i5 a|.ty n,u=>u=gp n
abbrev aR:List V->List ae->Prop:=Aax RelV
theorem aR.length {xs:List V}{us:List ae}(r:aR xs us):xs.length=us.length:=Aak r
theorem aR.get:∀{xs:List V}{us:List ae}{i:Nat}{x:V},aR xs us->xs[i]? = some x->∃ u,us[i]? = some u/\RelV x u|_,_,_,_,.nil,e=>by simp at e|_,_,0,_,.cons r _,e=>by simp at e;subst e;exact⟨_,rfl,r⟩|_,_,i+1,x,.cons _ t,e=>by obtain⟨u,h1,h2⟩:=aR.get (i:=i) (x:=x) t (by simpa using e);exact⟨u,by simpa using h1,h2⟩
theorem aR.set {x:V}{u:ae}(r:RelV x u):∀{xs:List V}{us:List ae}(i:Nat),aR xs us->aR (xs.set i x) (us.set i u)|_,_,_,.nil=>.nil|_,_,0,.cons _ t=>.cons r t|_,_,i+1,.cons q t=>.cons q (aR.set r i t)
theorem aR.append:∀{xs ys:List V}{us ws:List ae},aR xs us->aR ys ws->aR (xs++ys) (us++ws)|_,_,_,_,.nil,s=>s|_,_,_,_,.cons r t,s=>.cons r (aR.append t s)
theorem aR.take:∀{xs:List V}{us:List ae}(n:Nat),aR xs us->aR (xs.take n) (us.take n)|_,_,0,_=>.nil|_,_,_+1,.nil=>.nil|_,_,n+1,.cons r t=>.cons r (aR.take n t)
theorem aR.drop:∀{xs:List V}{us:List ae}(n:Nat),aR xs us->aR (xs.drop n) (us.drop n)|_,_,0,r=>r|_,_,_+1,.nil=>.nil|_,_,n+1,.cons _ t=>aR.drop n t
def vC:Option V->Option ae->Prop|some v,some u=>RelV v u|none,none=>True|_,_=>False
def KV {κ:Type}:List (κ×V)->List (κ×Value)->Prop:=Aax fun(p:κ×V)(q:κ×Value)=>p.1=q.1/\RelV p.2 q.2
noncomputable def kV:Key->V|.inl i=>.int i|.inr x=>.str x
inductive HO where/-- a list -/|lst (xs:List V)/-- a tuple (never changes) -/|tup (xs:List V)/-- a dict whose keys are ints and texts; one whose keys are tuples of ints and texts (the empty one is both) -/|dK (iW:List (Key×V))|dT (iW:List (List Key×V))/-- a set of ints: aD members, aD size -/|set (S:Int->Bool)(n:Nat)/-- an instance of the class at C, aD dict at dx, aD attributes -/|ins (C dx:Addr)(fs:List (Str×V))/-- the dict of the instance at x -/|own (x:Addr)/-- the dict of an exception -/|xd (fs:List (Str×V))/-- a bound method, f of x -/|met (f x:Addr)/-- a range object lo, lo + 1, .. below hi -/|rng (lo hi:Int)/-- a thing that is known to the object (the script; a dict while a loop walks it): read, never written while it is so -/|frz (o:Obj)(u:HO)/-- a code object's table -/|tbl (ps:Array ae)/-- any other thing, by what is true of aD one object (a def of one's own: SetO a S n := HO.ext fun h => ..) -/|ext (φ:b7->c9->Heap->Prop)
noncomputable abbrev Hp:=Addr->Option HO
noncomputable def upd (H:Hp)(a:Addr)(o:HO):Hp:=fun b=>if b=a then some o else H b
variable {H:Hp}{o:HO}
theorem dE {a:Addr}:upd H a o a=some o:=by unfold upd;rw[if_pos rfl]
variable {b:Addr}
theorem bI {a:Addr}(h:b≠a):upd H a o b=H b:=by unfold upd;rw[if_neg h]
theorem RU {a:Addr}{u:HO}(h:H a=some o)(h':H b=some u)(d:o≠u):a≠b:=by intro e;subst e;rw[h]at h';exact d (c7 h')
theorem jK {a:Addr}(h:H a=some o)(h':H b=none):a≠b:=by intro e;subst e;rw[h]at h';cases h'
def pT (h:Heap)(a:Addr)(aD:Array ae):Prop:=∃ o,h.get? a=some o/\o.cls=.type "tuple" /\ (∃ n,o.data=.seq aD n)/\o.dict=none
variable {aD:Array ae}
theorem pT.tup {h:Heap}{a:Addr}:pT h a aD->IsTup h a aD:=fun⟨o,e,c,d,_⟩=>⟨o,e,c,d⟩
theorem pT.lt {h:Heap}{a:Addr}(x:pT h a aD):a<h.objs.size:=x.tup.lt
theorem pT.new (h:Heap)(items:Array ae):pT (h.push { cls:=.type "tuple", data:=.seq items }) h.objs.size items:=⟨_,br _ rfl,rfl,⟨_,rfl⟩,rfl⟩
section
variable (P:b7)(w:c9)
def kT (H:Hp)(h:Heap)(a:Addr):HO->Prop|.lst xs=>xs.length<=sizeLine/\∃(aD:List ae)(n:Nat),aR xs aD/\h.get? a=some { cls:=.type "list", data:=.seq aD.toArray n }|.tup xs=>xs.length<=sizeLine/\∃ aD:List ae,aR xs aD/\pT h a aD.toArray|.dK iW=>iW.length<=sizeLine/\(a==qe)=false/\∃ vs,KV iW vs/\h.DictOf (GO P w) a vs|.dT iW=>iW.length<=sizeLine/\(a==qe)=false/\∃ xs:List (List Key×Addr×Value),Aax (fun(p:List Key×V)(q:List Key×Addr×Value)=>p.1=q.1/\H q.2.1=some (.tup (p.1.map kV))/\RelV p.2 q.2.2) iW xs /\∃ o es ep,h.get? a=some o/\o.ExactDict/\o.data=.dict es ep/\es.toList=xs.map (entryOfKey (tupleKind (GO P w)))/\(xs.map (·.1)).Nodup|.set S n=>h.SetOf (intKind P w) a S n|.ins C dx fs=>H dx=some (.own a)/\fs.length<=1000/\dx≠a/\h.get? a=some (j1 C dx) /\ ∃ mA,h.Ns1 dx mA/\(∀ f,vC (fs.lookup f) (mA f))/\zt mA (fs.map (·.1))|.own _=>∃ o,h.get? a=some o|.xd fs=>∃ mA,h.Ns1 a mA/\∀ f,vC (fs.lookup f) (mA f)|.rng lo hi=>∃ t u v,h.get? a=some { cls:=.type "range", data:=.fields #[.int lo t,.int hi u,.int 1 v] }|.frz o u=>h.get? a=some o/\kT H h a u|.tbl ps=>h.get? a=some { cls:=.none,data:=.fields ps }|.met f x=>h.get? a=some (uj (.ref f) (.ref x))|.ext φ=>φ P w h/\(∃ o,h.get? a=some o)/\∀ h1 h2:Heap,φ P w h1->(∀ o,h1.get? a=some o->h2.get? a=some o)->φ P w h2
def iN (H:Hp)(h:Heap):Prop:=∀ a o,H a=some o->kT P w H h a o
end
variable {P:b7}{h':Heap}
section
variable {w:c9}{H':Hp}{h:Heap}{a:Addr}
theorem kT.lt (x:kT P w H h a o):a<h.objs.size:=by cases o with|lst xs=>obtain⟨_,_,_,_,e⟩:=x;exact bh e|tup xs=>obtain⟨_,_,_,p⟩:=x;exact p.lt|dK iW=>obtain⟨_,_,_,_,o,_,_,e,_⟩:=x;exact bh e|dT iW=>obtain⟨_,_,_,_,o,_,_,e,_⟩:=x;exact bh e|set S n=>obtain⟨o,_,_,_,e,_⟩:=x;exact bh e|ins C dx fs=>obtain⟨_,_,_,e,_⟩:=x;exact bh e|own y=>obtain⟨_,e⟩:=x;exact bh e|xd fs=>obtain⟨_,⟨_,_,_,e,_⟩,_⟩:=x;exact bh e|rng lo hi=>obtain⟨_,_,_,e⟩:=x;exact bh e|frz ob u=>obtain⟨e,_⟩:=x;exact bh e|tbl ps=>exact bh (show h.get? a=some _ from x)|met f y=>exact bh (show h.get? a=some _ from x)|ext φ=>obtain⟨_,⟨_,e⟩,_⟩:=x;exact bh e
theorem Paired.Ki {α β:Type}{F G:α->β->Prop}:∀{sK:List α}{nw:List β},Aax F sK nw->(∀ a b,F a b->G a b)->Aax G sK nw|_,_,.nil,_=>.nil|_,_,.cons r t,f=>.cons (f _ _ r) (Paired.Ki t f)
theorem kT.pP (x:kT P w H h a o)(k:∀ b u,(b=a∨H b=some (.own a))->h.get? b=some u->h'.get? b=some u)(ho:∀ b,H b=some (.own a)->H' b=some (.own a))(ht:∀ b xs,H b=some (.tup xs)->H' b=some (.tup xs)):kT P w H' h' a o:=by induction o with|lst xs=>obtain⟨z,aD,n,r,e⟩:=x;exact⟨z,aD,n,r,k _ _ (.inl rfl) e⟩|tup xs=>obtain⟨z,aD,r,ob,e,c⟩:=x;exact⟨z,aD,r,ob,k _ _ (.inl rfl) e,c⟩|dK iW=>obtain⟨z,y,vs,r,ob,es,ep,e,c⟩:=x;exact⟨z,y,vs,r,ob,es,ep,k _ _ (.inl rfl) e,c⟩|dT iW =>obtain⟨z,y,xs,r,ob,es,ep,e,c⟩:=x;exact⟨z,y,xs,Paired.Ki r fun p q z=>⟨z.1,ht _ _ z.2.1,z.2.2⟩,ob,es,ep,k _ _ (.inl rfl) e,c⟩|set S n=>obtain⟨ob,es,ep,t,e,c⟩:=x;exact⟨ob,es,ep,t,k _ _ (.inl rfl) e,c⟩|ins C dx fs =>obtain⟨d,z,ne,e,mA,⟨od,es,ep,e2,c⟩,r⟩:=x;exact⟨ho _ d,z,ne,k _ _ (.inl rfl) e,mA,⟨od,es,ep,k _ _ (.inr d) e2,c⟩,r⟩|own y=>obtain⟨ob,e⟩:=x;exact⟨ob,k _ _ (.inl rfl) e⟩|xd fs=>obtain⟨mA,⟨od,es,ep,e,c⟩,r⟩:=x;exact⟨mA,⟨od,es,ep,k _ _ (.inl rfl) e,c⟩,r⟩|rng lo hi=>obtain⟨t,u,v,e⟩:=x;exact⟨t,u,v,k _ _ (.inl rfl) e⟩|frz ob u ih=>obtain⟨e,q⟩:=x;exact⟨k _ _ (.inl rfl) e,ih q⟩|tbl ps =>have e:h.get? a=some { cls:=.none,data:=.fields ps }:=x;show h'.get? a=some { cls:=.none,data:=.fields ps };exact k a _ (.inl rfl) e|met f y =>have e:h.get? a=some (uj (.ref f) (.ref y)):=x;show h'.get? a=some (uj (.ref f) (.ref y));exact k a _ (.inl rfl) e|ext φ=>obtain⟨p,⟨o,e⟩,st⟩:=x;exact⟨st _ _ p fun o q=>k _ _ (.inl rfl) q,⟨o,k _ _ (.inl rfl) e⟩,st⟩
theorem iN.lt (x:iN P w H h)(e:H a=some o):a<h.objs.size:=(x a o e).lt
theorem iN.fresh (x:iN P w H h)(e:h.objs.size<=a):H a=none:=by cases q:H a with|none=>rfl|some u=>exact absurd (bz (x.lt q) e) (fy _)
theorem iN.kept (x:iN P w H h)(k:∀ b u,h.get? b=some u->h'.get? b=some u):iN P w H h':=fun a o e =>(x a o e).pP (fun b u _ q=>k b u q) (fun _ q=>q) fun _ _ q=>q
theorem iN.laid (x:iN P w H h)(k:∀ b u,h.get? b=some u->h'.get? b=some u)(hp:h.objs.size<=a)(new:kT P w (upd H a o) h' a o):iN P w (upd H a o) h':=fun b u e=>by
 have hn:=x.fresh hp;by_cases hb:b=a;·subst hb;rw[dE]at e;cases e;exact new
 ·rw[bI hb]at e;exact(x b u e).pP (fun c v _ q=>k c v q) (fun c q=>by rw[bI (jK q hn)];exact q) fun c xs q=>by rw[bI (jK q hn)];exact q
end
def Rd (H:Hp)(a:Addr)(u:HO):Prop:=H a=some u∨∃ o,H a=some (.frz o u)
theorem Rd.ok {w:c9}{h:Heap}{a:Addr}{u:HO}(r:Rd H a u)(x:iN P w H h):kT P w H h a u:=by
 rcases r with r|⟨o,r⟩;·exact x a u r
 ·obtain⟨_,q⟩:=x a _ r;exact q
def Br:Option HO->Prop|some (.lst _)=>True|some (.dK _)=>True|some (.dT _)=>True|some (.set _ _)=>True|some (.ins _ _ _)=>True|some (.ext _)=>True|_=>False
section
variable {w:c9}{h:Heap}{x e:Addr}{o':HO}
theorem iN.write (ok:iN P w H h)(mu:Br (H x))(he:e=x∨H e=some (.own x))(k:∀ b u,b≠e->h.get? b=some u->h'.get? b=some u)(heo:∃ u,h'.get? e=some u) (new:kT P w (upd H x o') h' x o'):iN P w (upd H x o') h':=fun b u q=>by
 have nown:∀ c y,H c=some (.own y)->c≠x:=fun c y r z=>by subst z;rw[r]at mu;exact mu
 have ntup:∀ c xs,H c=some (.tup xs)->c≠x:=fun c xs r z=>by subst z;rw[r]at mu;exact mu
 by_cases hb:b=x;·subst hb;rw[dE]at q;cases q;exact new
 ·rw[bI hb]at q;by_cases hbe:b=e
  ·have q':H b=some (.own x):=by
    rcases he with z|z;·exact absurd (hbe.trans z) hb
    ·rw[hbe];exact z
   rw[q]at q';cases q';obtain⟨v,hv⟩:=heo;exact⟨v,by rw[hbe];exact hv⟩
  ·refine(ok b u q).pP (fun c v hc r=>k c v ?_ r) (fun c r=>by rw[bI (nown c b r)];exact r) fun c xs r=>by rw[bI (ntup c xs r)];exact r
   rcases hc with rfl|hc;·exact hbe
   ·rintro rfl;rcases he with z|z;·exact nown c b hc z
    ·rw[hc]at z;cases z;exact hb rfl
end
structure Un (fs ex:List Addr)(H H':Hp)(h h':Heap):Prop where
 keep:∀ b o,h.get? b=some o->H b=none->b∉fs->b∉ex->h'.get? b=some o
 slot:∀ b o,h.get? b=some o->H b=none->b∈fs->b∉ex->∃ sl,h'.get? b=some { o with slots:=sl }free:∀ b o,h.get? b=some o->H b=none->b∉ex->H' b=none
 there:∀ b o,h.get? b=some o->b∉ex->∃ o',h'.get? b=some o'
 tP:∀ b xs,H b=some (.tup xs)->H' b=some (.tup xs)pE:∀ b o u,H b=some (.frz o u)->H' b=some (.frz o u)rO:∀ b ps,H b=some (.tbl ps)->∃ more,H' b=some (.tbl (ps++more))
section
variable {fs fs' ex ex':List Addr}{H1 H2:Hp}{h h1 h2:Heap}{a x e:Addr}
theorem Un.any (u:Un fs ex H H1 h h1){ob:Obj}(q:h.get? b=some ob)(n:H b=none)(hx:b∉ex):∃ sl,h1.get? b=some { ob with slots:=sl }:=by
 by_cases hb:b∈fs;·exact u.slot b ob q n hb hx
 ·exact⟨ob.slots,u.keep b ob q n hb hx⟩
theorem Un.kept (k:∀ b u,h.get? b=some u->h'.get? b=some u):Un fs ex H H h h' :=⟨fun b ob q _ _ _=>k b ob q,fun b ob q _ _ _=>⟨ob.slots,k b ob q⟩,fun _ _ _ n _=>n,fun b ob q _=>⟨ob,k b ob q⟩,fun _ _ q=>q,fun _ _ _ q=>q,fun _ ps q=>⟨#[],by rw[q];simp⟩⟩
theorem Un.refl:Un fs ex H H h h:=Un.kept fun _ _ q=>q
theorem Un.laid (k:∀ b u,h.get? b=some u->h'.get? b=some u)(hp:h.objs.size<=a)(hn:H a=none):Un fs ex H (upd H a o) h h' where
 keep:=fun b u q _ _ _=>k b u q;slot:=fun b u q _ _ _=>⟨u.slots,k b u q⟩;free:=fun b u q n _=>by rw[bI (b9 (bz (bh q) hp))];exact n
 there:=fun b u q _=>⟨u,k b u q⟩;tP:=fun b xs q=>by rw[bI (jK q hn)];exact q
 pE:=fun b u xs q=>by rw[bI (jK q hn)];exact q
 rO:=fun b ps q=>⟨#[],by rw[bI (jK q hn),q];simp⟩
theorem Un.write (mu:Br (H x))(he:e=x∨H e=some (.own x))(k:∀ b u,b≠e->h.get? b=some u->h'.get? b=some u)(heo:∃ u,h'.get? e=some u):Un fs ex H (upd H x o) h h':=by
 have hx:∀ b,H b=none->b≠x:=fun b n z=>by subst z;rw[n]at mu;exact mu
 have hb:∀ b,H b=none->b≠e:=fun b n z=>by
  subst z;rcases he with r|r;·exact hx b n r
  ·rw[n]at r;cases r
 have hm:∀ b u,H b=some u->¬Br (some u)->b≠x:=fun b u q nm z=>by subst z;rw[q]at mu;exact nm mu
 refine⟨fun b u q n _ _=>k b u (hb b n) q,fun b u q n _ _=>⟨u.slots,k b u (hb b n) q⟩,fun b u q n _=>by rw[bI (hx b n)];exact n,fun b u q _=>?_,fun b xs q=>by rw[bI (hm b _ q fun z=>z)];exact q,fun b u xs q=>by rw[bI (hm b _ q fun z=>z)];exact q,fun b ps q=>⟨#[],by rw[bI (hm b _ q fun z=>z),q];simp⟩⟩;by_cases hbe:b=e;·subst hbe;exact heo
 ·exact⟨u,k b u hbe q⟩
end
noncomputable def Bf (h:Heap)(H:Hp):List Addr:=(ay h.objs.size).filter fun a=>(H a).isSome
noncomputable def vK (h:Heap)(H:Hp):Heap:=PySem.W.hideAll h (Bf h H)
theorem WY (h:Heap)(H:Hp):(vK h H).objs.size=h.objs.size:=PySem.W.hideAll_size _ _
theorem Ak {h:Heap}{o:Obj}(e:h.get? b=some o)(n:H b=none):(vK h H).get? b=some o :=PySem.W.hideAll_get _ e fun hm=>by have q:(H b).isSome=true:=(List.mem_filter.mp hm).2;rw[n]at q;simp at q
theorem Dt {h:Heap}{o:Obj}(e:(vK h H).get? b=some o):h.get? b=some o/\H b=none:=by have e':h.get? b=some o:=PySem.W.of_hideAll (Bf h H) e;refine⟨e',?_⟩;cases q:H b with|none=>rfl|some x =>have hm:b∈Bf h H:=List.mem_filter.mpr ⟨List.mem_range.mpr (bh e'),by simp [q]⟩;have z:(vK h H).get? b=none:=PySem.W.hideAll_none (Bf h H) hm;rw[z]at e;cases e
noncomputable def Fe (g h:Heap)(L:Addr):List (Addr×Obj):=(ay h.objs.size).filterMap fun a=>if a=L∨(g.get? a).isSome=true then none else(h.get? a).map fun o=>(a,o)
noncomputable def rest (g h:Heap)(L d:Addr):List (Addr×Obj):=(Fe g h L).filter fun p=>decide (p.1≠d)
end L2
namespace L2
open PySem PySem.Spec PyProof.Rows
structure Mod (K:aa)(mg:Str->Option ae)(base:Heap):Prop where
 kin:K.In base
 glob:base.Ns cz mg
 blt:∃ mb,base.Ns zh mb/\∀ x:Str,x ≠"__name__" -> mb x=de x
 nolimit:base.NoLimit
structure Cx where
 prog:b7
 w:c9
 K:aa
 mg:Str->Option ae
 base:Heap
 A:cp
 N:List Str
 s₀:ag
 H₀:Hp
 env:Env
 outer:List Env
 stack:List Env
 ex:List Addr
 fn:Str->Bool
 calm:Bool
 pn:List (Addr×Obj)xe:ae->ag->Prop
noncomputable def tJ (l:List Env):List Addr:=l.filterMap (·.frame)
noncomputable abbrev Cx.fs (X:Cx):List Addr:=tJ X.outer
def Ax (sc:Scope)(x:Str):Prop:=sc.names.lookup x=some .local∨sc.names.lookup x=some .cell∨sc.names.lookup x=some .free
def Loc (sc:Scope)(x:Str):Prop:=sc.names.lookup x=some .local∨sc.names.lookup x=some .cell
def Look (env:Env)(h:Heap)(m:Str->Option ae)(x:Str)(u:ae):Prop :=(env.kindOf x=some .local/\m x=some u)∨((env.kindOf x=some .cell∨env.kindOf x=some .free)/\∃ c,env.cells.lookup x=some c/\h.IsCell c (some u))
structure Cx.Ok (X:Cx):Prop where
 mod:Mod X.K X.mg X.base
 kind:X.env.scope.kind=.function
 glob:X.env.globals=cz
 blt:X.env.builtins=zh
 above:X.s₀.heap.objs.size<=X.env.locals
 inj:∀ x y c,X.env.cells.lookup x=some c->X.env.cells.lookup y=some c->x=y
 has:∀ x,(X.env.kindOf x=some .cell∨X.env.kindOf x=some .free)->∃ c,X.env.cells.lookup x=some c
 cab:∀ x c,X.fn x=true->X.env.cells.lookup x=some c->X.s₀.heap.objs.size<=c
 hd:X.calm=true->X.A.handled=none
 frames:X.A.frames=some X.stack
 stk:X.stack=X.outer∨(X.stack=X.env::X.outer/\X.env.frame=some X.env.locals)exf:∀ b∈X.ex,b≠X.env.locals/\∀ x c,X.env.cells.lookup x=some c->c≠b
 bs:∀ b o,X.base.get? b=some o->X.s₀.heap.get? b=some o/\X.H₀ b=none
 bsz:X.base.objs.size<=X.s₀.heap.objs.size
 noex:∀ b o,X.base.get? b=some o->b∉X.ex
 exfs:∀ b∈X.ex,b∉X.fs
 mR:X.s₀.heap.FunFrames X.base X.outer
 frf:∀ b∈X.fs,X.H₀ b=none
structure Inv (X:Cx)(pz:List (Addr×Obj))(σ:List (Option V))(H:Hp)(s:ag):Prop where
 ok:X.Ok
 os:s.os=X.s₀.os
 bare:uq s.gens
 base:Un X.fs X.ex X.H₀ H X.s₀.heap s.heap
 loc:∃ m,s.heap.Ns X.env.locals m/\∀(i:Nat)(x:Str)(v:V),X.N[i]? = some x->σ[i]? = some (some v)->Ax X.env.scope x->∃ u,RelV v u/\Look X.env s.heap m x u
 cell:∀ x c,X.env.cells.lookup x=some c->∃ v,s.heap.IsCell c v
 free:H X.env.locals=none
 lR:∀ x c,X.env.cells.lookup x=some c->H c=none
 pin:∀ p∈X.pn++pz,s.heap.get? p.1=some p.2/\H p.1=none/\p.1≠X.env.locals/\p.1∉X.fs/\∀ v,p.2.data≠.cell v
 bO:iN X.prog X.w H s.heap
 len:σ.length=X.N.length
variable {g':Array Zr}{t' i:Nat}{ch:List Addr}{x:Str}{M:Model}{E:ae->ag->Prop}{Q:Unit->ag->Prop}
section
variable {X:Cx}{pz:List (Addr×Obj)}{σ:List (Option V)}{H H':Hp}{s:ag}{h':Heap}
theorem Cx.Ok.Wp (ok:X.Ok){b:Addr}{o:Obj}(e:X.base.get? b=some o):b∉X.fs:=fun hb=>by have:=(ok.mR.mem hb).1;rw[e]at this;cases this
theorem Inv.bs (I:Inv X pz σ H s):∀ b o,X.base.get? b=some o->s.heap.get? b=some o/\H b=none:=fun b o e =>⟨I.base.keep b o (I.ok.bs b o e).1 (I.ok.bs b o e).2 (I.ok.Wp e) (I.ok.noex b o e),I.base.free b o (I.ok.bs b o e).1 (I.ok.bs b o e).2 (I.ok.noex b o e)⟩
theorem Inv.bk (I:Inv X pz σ H s):∀ b o,X.base.get? b=some o->s.heap.get? b=some o:=fun b o e=>(I.bs b o e).1
theorem Inv.mod (I:Inv X pz σ H s):Mod X.K X.mg X.base:=I.ok.mod
theorem Inv.jS (I:Inv X pz σ H s):X.K.In s.heap:=I.ok.mod.kin.keeps I.bk
theorem Inv.fr (I:Inv X pz σ H s):∃ m,Fr X.base X.env.locals s.heap m :=let⟨m,hn,_⟩:=I.loc;⟨m,hn,I.bk,dg I.ok.bsz I.ok.above⟩
theorem Inv.lt (I:Inv X pz σ H s):X.env.locals<s.heap.objs.size:=let⟨_,hn,_⟩:=I.loc;hn.lt
theorem Inv.sz (I:Inv X pz σ H s):X.s₀.heap.objs.size<=s.heap.objs.size:=dg I.ok.above (r8 I.lt)
theorem Inv.Mw (I:Inv X pz σ H s){a:Addr}(h:s.heap.objs.size<=a):a∉X.fs:=fun hb=>by obtain⟨_,o,ho,_⟩:=I.ok.mR.mem hb;exact absurd (bz (bh ho) (dg I.sz h)) (fy _)
theorem Inv.J7 (I:Inv X pz σ H s):∀ x c,X.env.cells.lookup x=some c->c≠X.env.locals:=fun x c e z=>by obtain⟨v,o,ho,hd⟩:=I.cell x c e;obtain⟨m,⟨o',es,ep,ho',hd',_⟩,_⟩:=I.loc;rw[z,ho']at ho;cases ho;rw[hd']at hd;cases hd
theorem Inv.mR (I:Inv X pz σ H s):s.heap.FunFrames X.base X.outer:=by
 have all:∀(l:List Env),(∀ b∈tJ l,b∈X.fs)->X.s₀.heap.FunFrames X.base l->s.heap.FunFrames X.base l:=by intro l;induction l with|nil=>intro _ _;trivial|cons env r ih =>intro hs hl;obtain⟨hk,⟨L,o,hf,hn,ho,hd⟩,hr⟩:=hl;have hL:L∈X.fs:=hs L (by unfold tJ;rw[fe,hf];exact dh);obtain⟨sl,e⟩:=I.base.slot L o ho (I.ok.frf L hL) hL fun z=>I.ok.exfs L z hL;exact⟨hk,⟨L,_,hf,hn,e,hd⟩,ih (fun b hb=>hs b (by unfold tJ;rw[fe,hf];exact cq _ hb)) hr⟩
 exact all X.outer (fun _ hb=>hb) I.ok.mR
theorem Inv.stack (I:Inv X pz σ H s):s.heap.FunFrames X.base X.stack:=by
 rcases I.ok.stk with e|⟨e,hf⟩;·rw[e];exact I.mR
 ·rw[e];obtain⟨m,hn,_⟩:=I.loc;refine .cons (by rw[I.ok.kind];decide) hf hn ?_ I.mR;exact Heap.get?_none_of_le (dg I.ok.bsz I.ok.above)
theorem Inv.EN (I:Inv X pz σ H s):∀ b∈tJ X.stack,b∈X.env.locals::X.fs:=fun b hb=>by
 rcases I.ok.stk with e|⟨e,hf⟩;·rw[e]at hb;exact cq _ hb
 ·rw[e]at hb;unfold tJ at hb;rw[fe,hf]at hb;exact hb
theorem Inv.RC (I:Inv X pz σ H s):∀ b∈tJ X.stack,H b=none:=fun b hb=>by
 rcases List.mem_cons.mp (I.EN b hb)with e|hb;·rw[e];exact I.free
 ·obtain⟨_,o,ho,_⟩:=I.ok.mR.mem hb;exact I.base.free b o ho (I.ok.frf b hb) fun z=>I.ok.exfs b z hb
theorem Inv.step {d':Drawn}(I:Inv X pz σ H s)(hch:∀ b∈ch,(b∈X.ex∨X.s₀.heap.objs.size<=b)/\b≠X.env.locals/\(∀ x c,X.env.cells.lookup x=some c->c≠b)/\∀ p∈X.pn++pz,p.1≠b)(keep:∀ b o,b≠X.env.locals->b∉X.fs->b∉ch->s.heap.get? b=some o->H b=none->h'.get? b=some o)(slot:∀ b o,b≠X.env.locals->b∈X.fs->b∉ch->s.heap.get? b=some o->H b=none->∃ sl,h'.get? b=some { o with slots:=sl })(free:∀ b o,b∉ch->s.heap.get? b=some o->H b=none->H' b=none)(there:∀ b o,b∉ch->s.heap.get? b=some o->∃ o',h'.get? b=some o')(tP:∀ b xs,H b=some (.tup xs)->H' b=some (.tup xs))(pE:∀ b o u,H b=some (.frz o u)->H' b=some (.frz o u))(rO:∀ b ps,H b=some (.tbl ps)->∃ more,H' b=some (.tbl (ps++more)))(ns:∀ m,s.heap.Ns X.env.locals m->h'.Ns X.env.locals m)(bO:iN X.prog X.w H' h')(hg:uq g'): Inv X pz σ H' { s with heap:=h',gens:=g',drawn:=d',toks:=t' }:=by
 have neL:∀ b o,X.s₀.heap.get? b=some o->b≠X.env.locals:=fun b o e=>b9 (bz (bh e) I.ok.above);have neC:∀ b o,X.s₀.heap.get? b=some o->b∉X.ex->b∉ch:=fun b o e hx hb=>by
  rcases(hch b hb).1 with z|z;·exact hx z
  ·exact absurd (bz (bh e) z) (fy _)
 have cellK:∀ x c,X.env.cells.lookup x=some c->∀ v,s.heap.IsCell c v->h'.IsCell c v:=fun x c e v ⟨o,ho,hd⟩=>by
  have nch:c∉ch:=fun z=>(hch c z).2.2.1 x c e rfl;by_cases hc:c∈X.fs;·obtain⟨sl,q⟩:=slot c o (I.J7 x c e) hc nch ho (I.lR x c e);exact⟨_,q,hd⟩
  ·exact⟨o,keep c o (I.J7 x c e) hc nch ho (I.lR x c e),hd⟩
 refine⟨I.ok,I.os,hg,⟨fun b o e n hb hx=>?_,fun b o e n hb hx=>?_,fun b o e n hx=>?_,fun b o e hx=>?_,fun b xs e=>tP b xs (I.base.tP b xs e),fun b o xs e=>pE b o xs (I.base.pE b o xs e),fun b ps e=>?_⟩,?_,fun x c e=>?_,?_,fun x c e=>?_,fun p hp=>?_,bO,I.len⟩;·exact keep b o (neL b o e) hb (neC b o e hx) (I.base.keep b o e n hb hx) (I.base.free b o e n hx)
 ·obtain⟨sl,e1⟩:=I.base.slot b o e n hb hx;obtain⟨sl',e2⟩:=slot b _ (neL b o e) hb (neC b o e hx) e1 (I.base.free b o e n hx);exact⟨sl',e2⟩
 ·obtain⟨o',e1⟩:=I.base.there b o e hx;exact free b o' (neC b o e hx) e1 (I.base.free b o e n hx)
 ·obtain⟨o',e1⟩:=I.base.there b o e hx;exact there b o' (neC b o e hx) e1
 ·obtain⟨m1,e1⟩:=I.base.rO b ps e;obtain⟨m2,e2⟩:=rO b _ e1;exact⟨m1++m2,by rw[e2,Array.append_assoc]⟩
 ·obtain⟨m,hn,hl⟩:=I.loc;refine⟨m,ns m hn,fun i x v e1 e2 e3=>?_⟩;obtain⟨u,r,l⟩:=hl i x v e1 e2 e3;refine⟨u,r,?_⟩;rcases l with l|⟨k,c,e,z⟩;·exact .inl l
  ·exact .inr ⟨k,c,e,cellK x c e _ z⟩
 ·obtain⟨v,z⟩:=I.cell x c e;exact⟨v,cellK x c e v z⟩
 ·obtain⟨m,⟨o,_,_,ho,_⟩,_⟩:=I.loc;exact free _ o (fun z=>(hch _ z).2.1 rfl) ho I.free
 ·obtain⟨v,o,ho,hd⟩:=I.cell x c e;exact free c o (fun z=>(hch c z).2.2.1 x c e rfl) ho (I.lR x c e)
 ·obtain⟨e,n,ne,nf,d⟩:=I.pin p hp;have nch:p.1∉ch:=fun z=>(hch p.1 z).2.2.2 p hp rfl;exact⟨keep p.1 p.2 ne nf nch e n,free p.1 p.2 nch e n,ne,nf,d⟩
theorem Inv.un (I:Inv X pz σ H s)(u:Un X.fs [] H H' s.heap h')(bO:iN X.prog X.w H' h'):Inv X pz σ H' { s with heap:=h',toks:=t' }:=by obtain⟨m,⟨o,es,ep,ho,r⟩,_⟩:=id I.loc;obtain⟨sl,hL⟩:=u.any ho I.free (by simp);exact I.step (g':=s.gens) (d':=s.drawn) (ch:=[]) (fun _ z=>nomatch z) (fun b o _ hb _ e n=>u.keep b o e n hb (by simp)) (fun b o _ hb _ e n=>u.slot b o e n hb (by simp)) (fun b o _ e n=>u.free b o e n (by simp)) (fun b o _ e=>u.there b o e (by simp)) u.tP u.pE u.rO (fun m' hm=>by obtain⟨o',es',ep',ho',r'⟩:=hm;rw[ho]at ho';cases ho';exact⟨_,es',ep',hL,r'⟩) bO I.bare
theorem Inv.call {d':Drawn}(I:Inv X pz σ H s)(u:Un (tJ X.stack) ch H H' s.heap h')(bO:iN X.prog X.w H' h')(hg:uq g')(hch:∀ b∈ch,(b∈X.ex∨X.s₀.heap.objs.size<=b)/\b≠X.env.locals/\(∀ x c,X.env.cells.lookup x=some c->c≠b)/\∀ p∈X.pn++pz,p.1≠b):Inv X pz σ H' { s with heap:=h',gens:=g',drawn:=d',toks:=t' }:=by obtain⟨m,⟨o,es,ep,ho,r⟩,_⟩:=id I.loc;obtain⟨sl,hL⟩:=u.any ho I.free fun z=>(hch _ z).2.1 rfl;exact I.step (ch:=ch) hch (fun b o hL hb hc e n=>u.keep b o e n (fun z=>(List.mem_cons.mp (I.EN b z)).elim hL hb) hc) (fun b o _ _ hc e n=>u.any e n hc) (fun b o hc e n=>u.free b o e n hc) (fun b o hc e=>u.there b o e hc) u.tP u.pE u.rO (fun m' hm=>by obtain⟨o',es',ep',ho',r'⟩:=hm;rw[ho]at ho';cases ho';exact⟨_,es',ep',hL,r'⟩) bO hg
theorem Inv.turned {it:Addr}(I:Inv X pz σ H s)(k:∀ b o,b≠it->s.heap.get? b=some o->h'.get? b=some o)(hn:H it=none)(hL:it≠X.env.locals)(h1:it∈X.ex∨X.s₀.heap.objs.size<=it)(h2:∀ x c,X.env.cells.lookup x=some c->c≠it)(h3:∀ p∈X.pn++pz,p.1≠it):Inv X pz σ H { s with heap:=h',toks:=t' }:=by
 have nit:∀ b u,H b=some u->b≠it:=fun b u e z=>by rw[z,hn]at e;cases e
 refine I.step (g':=s.gens) (d':=s.drawn) (ch:=[it]) (fun b hb=>?_) (fun b o _ _ hc e _=>k b o (fun z=>hc (by simp [z])) e) (fun b o _ _ hc e _=>⟨o.slots,k b o (fun z=>hc (by simp [z])) e⟩) (fun _ _ _ _ n=>n) (fun b o hc e=>⟨o,k b o (fun z=>hc (by simp [z])) e⟩) (fun _ _ e=>e) (fun _ _ _ e=>e) (fun b ps e=>⟨#[],by rw[e];simp⟩) (fun m hm=>?_) (fun b u e=>?_) I.bare
 ·have e:b=it:=by simpa using hb
  subst e;exact⟨h1,hL,h2,h3⟩
 ·obtain⟨o,es,ep,ho,r⟩:=hm;exact⟨o,es,ep,k _ o (fj hL) ho,r⟩
 ·refine(I.bO b u e).pP (fun c v hc q=>k c v ?_ q) (fun _ q=>q) fun _ _ q=>q;rcases hc with z|z;·rw[z];exact nit b u e
  ·exact nit c _ z
theorem Inv.tok (I:Inv X pz σ H s)(t:Nat):Inv X pz σ H { s with toks:=t }:=I.un (h':=s.heap) (t':=t) Un.refl I.bO
theorem Inv.kept (I:Inv X pz σ H s)(k:∀ b u,s.heap.get? b=some u->h'.get? b=some u):Inv X pz σ H { s with heap:=h',toks:=t' }:=I.un (Un.kept k) (I.bO.kept k)
theorem Inv.laid {a:Addr}{o:HO}(I:Inv X pz σ H s)(k:∀ b u,s.heap.get? b=some u->h'.get? b=some u)(hp:s.heap.objs.size<=a)(new:kT X.prog X.w (upd H a o) h' a o): Inv X pz σ (upd H a o) { s with heap:=h',toks:=t' }:=I.un (Un.laid k hp (I.bO.fresh hp)) (I.bO.laid k hp new)
theorem Inv.write {x e:Addr}{o:HO}(I:Inv X pz σ H s)(mu:Br (H x))(he:e=x∨H e=some (.own x))(k:∀ b u,b≠e->s.heap.get? b=some u->h'.get? b=some u)(heo:∃ u,h'.get? e=some u)(new:kT X.prog X.w (upd H x o) h' x o):Inv X pz σ (upd H x o) { s with heap:=h',toks:=t' }:=I.un (Un.write mu he k heo) (I.bO.write mu he k heo new)
theorem Inv.weak {bn:List (Option V)}(I:Inv X pz σ H s)(hl:bn.length=σ.length)(w:∀(i:Nat) v,bn[i]? = some (some v)->σ[i]? = some (some v)):Inv X pz bn H s :=⟨I.ok,I.os,I.bare,I.base,let⟨m,hn,hl'⟩:=I.loc;⟨m,hn,fun i x v e1 e2 e3=>hl' i x v e1 (w i v e2) e3⟩,I.cell,I.free,I.lR,I.pin,I.bO,hl.trans I.len⟩
theorem Inv.Q5 {pz':List (Addr×Obj)}(I:Inv X pz σ H s)(h:∀ p∈pz',s.heap.get? p.1=some p.2/\H p.1=none/\p.1≠X.env.locals/\p.1∉X.fs/\∀ v,p.2.data≠.cell v):Inv X pz' σ H s :=⟨I.ok,I.os,I.bare,I.base,I.loc,I.cell,I.free,I.lR,fun p hp=>(List.mem_append.mp hp).elim (fun z=>I.pin p (qr _ z)) (h p),I.bO,I.len⟩
theorem OF {N:List Str}(hN:N.Nodup){j:Nat}(a:N[i]? = some x)(b:N[j]? = some x):i=j:=by obtain⟨h1,e1⟩:=List.getElem?_eq_some_iff.mp a;obtain⟨h2,e2⟩:=List.getElem?_eq_some_iff.mp b;exact(List.getElem_inj hN).mp (e1.trans e2.symm)
theorem IF {A:cp}{v:V}{u:ae}(I:Inv X pz σ H s)(hN:X.N.Nodup)(hi:X.N[i]? = some x)(hx:Loc X.env.scope x)(r:RelV v u)(h:∀ s',Inv X pz (σ.set i (some v)) H s'->(∃ a,ll a s.heap s'.heap/\(a=X.env.locals∨X.env.cells.lookup x=some a))->Q () s')(hf:X.fn x=true∨X.env.scope.names.lookup x=some .local:=by first|exact .inl rfl|exact .inr rfl|assumption):wpAny M A (storeName X.env x u) Q E s:=by
 obtain⟨m,hn,hl⟩:=id I.loc;have hcls:(X.env.scope.kind == .class||(X.env.scope.kind == .module&&X.env.locals != X.env.globals))=false:=by rw[I.ok.kind];rfl
 have v4:i<σ.length:=by rw[I.len];exact(List.getElem?_eq_some_iff.mp hi).1
 have J7:=I.J7;have tracked:∀{a:Addr}{h':Heap},(∃ o,s.heap.get? a=some o/\H a=none)->ll a s.heap h'->iN X.prog X.w H h':=fun{a h'} ha hs b ob e=>by
  obtain⟨_,_,hfree⟩:=ha;refine(I.bO b ob e).pP (fun c w' hc q=>(hs.2 c ?_).trans q) (fun _ q=>q) fun _ _ q=>q;rintro rfl;rcases hc with rfl|hc;·rw[hfree]at e;cases e
  ·rw[hfree]at hc;cases hc
 rcases hx with hk|hk
 ·refine wpAny_storeName_local hk hn (fun h' hn' hs=>?_) hcls;obtain⟨oL,_,_,hoL,_⟩:=id hn;refine h _ ⟨I.ok,I.os,I.bare,⟨fun b o e n hb hx=>?_,fun b o e n hb hx=>?_,I.base.free,fun b o e hx=>?_,I.base.tP,I.base.pE,I.base.rO⟩,⟨_,hn',fun j y v' e1 e2 e3=>?_⟩,fun y c e=>?_,I.free,I.lR,fun p hp=>?_,tracked ⟨oL,hoL,I.free⟩ hs,by simpa using I.len⟩ ⟨_,hs,.inl rfl⟩;·exact(hs.2 b (b9 (bz (bh e) I.ok.above))).trans (I.base.keep b o e n hb hx)
  ·obtain⟨sl,e1⟩:=I.base.slot b o e n hb hx;exact⟨sl,(hs.2 b (b9 (bz (bh e) I.ok.above))).trans e1⟩
  ·obtain⟨o',e1⟩:=I.base.there b o e hx;exact⟨o',(hs.2 b (b9 (bz (bh e) I.ok.above))).trans e1⟩
  ·by_cases hj:j=i;·subst hj;rw[hi]at e1;cases e1;rw[lx v4]at e2;cases e2;exact⟨u,r,.inl ⟨hk,by simp⟩⟩
   ·rw[gy (fj hj)]at e2;obtain⟨u',r',q⟩:=hl j y v' e1 e2 e3;refine⟨u',r',?_⟩;rcases q with⟨k,e⟩|⟨k,c,e,z⟩;·refine .inl ⟨k,?_⟩;have:y≠x:=fun e=>hj (OF hN e1 (e▸hi));simp [this,e]
    ·exact .inr ⟨k,c,e,z.sameBut hs (J7 y c e)⟩
  ·obtain⟨w',z⟩:=I.cell y c e;exact⟨w',z.sameBut hs (J7 y c e)⟩
  ·obtain⟨e,n,ne,nf,d⟩:=I.pin p hp;exact⟨(hs.2 p.1 ne).trans e,n,ne,nf,d⟩
 ·have hfn:X.fn x=true:=by
   rcases hf with z|z;·exact z
   ·rw[z]at hk;cases hk
  obtain⟨c,hc⟩:=I.ok.has x (.inl hk);obtain⟨w',z⟩:=I.cell x c hc;refine wpAny_storeName_cell I.ok.kind hk hc z (fun h' hc' hs=>?_);obtain⟨oc,hoc,hocd⟩:=id z;refine h { s with heap:=h' } ⟨I.ok,I.os,I.bare,⟨fun b o e n hb hx=>?_,fun b o e n hb hx=>?_,I.base.free,fun b o e hx=>?_,I.base.tP,I.base.pE,I.base.rO⟩,⟨m,hn.sameBut hs (fj (J7 x c hc)),fun j y v' e1 e2 e3=>?_⟩,fun y c' e=>?_,I.free,I.lR,fun p hp=>?_,tracked ⟨oc,hoc,I.lR x c hc⟩ hs,by simpa using I.len⟩ ⟨c,hs,.inr hc⟩;·exact(hs.2 b (b9 (bz (bh e) (I.ok.cab x c hfn hc)))).trans (I.base.keep b o e n hb hx)
  ·obtain⟨sl,e1⟩:=I.base.slot b o e n hb hx;exact⟨sl,(hs.2 b (b9 (bz (bh e) (I.ok.cab x c hfn hc)))).trans e1⟩
  ·obtain⟨o',e1⟩:=I.base.there b o e hx;exact⟨o',(hs.2 b (b9 (bz (bh e) (I.ok.cab x c hfn hc)))).trans e1⟩
  ·by_cases hj:j=i;·subst hj;rw[hi]at e1;cases e1;rw[lx v4]at e2;cases e2;exact⟨u,r,.inr ⟨.inl hk,c,hc,hc'⟩⟩
   ·rw[gy (fj hj)]at e2;obtain⟨u',r',q⟩:=hl j y v' e1 e2 e3;refine⟨u',r',?_⟩;rcases q with q|⟨k,c',e,z'⟩;·exact .inl q
    ·refine .inr ⟨k,c',e,z'.sameBut hs ?_⟩;rintro rfl;exact hj (OF hN e1 (I.ok.inj _ _ _ e hc▸hi))
  ·by_cases hcc:c'=c;·subst hcc;exact⟨_,hc'⟩
   ·obtain⟨w2,z2⟩:=I.cell y c' e;exact⟨w2,z2.sameBut hs hcc⟩
  ·obtain⟨e,n,ne,nf,d⟩:=I.pin p hp;refine⟨(hs.2 p.1 ?_).trans e,n,ne,nf,d⟩;intro q;rw[q,hoc]at e;have q':oc=p.2:=c7 e;exact d w' (by rw[<-q'];exact hocd)
theorem YC {A:cp}{v:V}{u:ae}(I:Inv X pz σ H s)(hN:X.N.Nodup)(hi:X.N[i]? = some x)(hx:Loc X.env.scope x)(r:RelV v u)(h:∀ s',Inv X pz (σ.set i (some v)) H s'->Q () s')(hf:X.fn x=true∨X.env.scope.names.lookup x=some .local:=by first|exact .inl rfl|exact .inr rfl|assumption):wpAny M A (storeName X.env x u) Q E s :=IF I hN hi hx r (fun s' I' _=>h s' I') hf
theorem Inv.Bm {s':ag}(I:Inv X pz σ H s)(ho:s'.os=s.os)(u:Un (tJ X.stack) ch H H' s.heap s'.heap)(bO:iN X.prog X.w H' s'.heap)(hg:uq s'.gens)(hch:∀ b∈ch,(b∈X.ex∨X.s₀.heap.objs.size<=b)/\b≠X.env.locals/\(∀ x c,X.env.cells.lookup x=some c->c≠b)/\∀ p∈X.pn++pz,p.1≠b):Inv X pz σ H' s':=by obtain⟨h',g',d',t',o'⟩:=s';have e:o'=s.os:=ho;subst e;exact I.call (g':=g') (t':=t') (d':=d') u bO hg hch
end
abbrev XK:=ae->Option Addr->Hp->Prop
noncomputable abbrev St:=List (Option V)
abbrev VK:=V->Hp->Prop
abbrev TE:=St->Hp->VK->Prop
abbrev TT:=St->Hp->(Bool->Hp->Prop)->Prop
abbrev TA:=St->Hp->(List V->Hp->Prop)->Prop
structure Ends where
 nx:St->Hp->Prop
 rt:VK
 bk:St->Hp->Prop:=fun _ _=>False
 ct:St->Hp->Prop:=fun _ _=>False
abbrev TS:=Ends->St->Hp->Prop
inductive EP (X:Cx)(pz:List (Addr×Obj))(σ:St)(Q:VK)(u:ae)(s':ag):Prop |mk (v:V)(H':Hp)(i:Inv X pz σ H' s')(r:RelV v u)(q:Q v H')
inductive TP (X:Cx)(pz:List (Addr×Obj))(σ:St)(Q:Bool->Hp->Prop)(b:Bool)(s':ag):Prop |mk (H':Hp)(i:Inv X pz σ H' s')(q:Q b H')
inductive AP (X:Cx)(pz:List (Addr×Obj))(σ:St)(Q:List V->Hp->Prop)(us:List ae)(s':ag):Prop |mk (vs:List V)(H':Hp)(i:Inv X pz σ H' s')(r:aR vs us)(q:Q vs H')
def SP (X:Cx)(pz:List (Addr×Obj))(D:Ends)(f:Flow)(s':ag):Prop :=match f with|.next=>∃ bn H',Inv X pz bn H' s'/\D.nx bn H'|.brk=>∃ bn H',Inv X pz bn H' s'/\D.bk bn H'|.cont=>∃ bn H',Inv X pz bn H' s'/\D.ct bn H'|.ret u=>∃ v bn H',Inv X pz bn H' s'/\RelV v u/\D.rt v H'
def PE (X:Cx)(e:Expr)(t:TE):Prop :=∀(pz:List (Addr×Obj))(s:ag)(σ:St)(H:Hp)(Q:VK),Inv X pz σ H s->t σ H Q->wpAny (model X.prog X.w) X.A (eval e X.env) (EP X pz σ Q) X.xe s
def PT (X:Cx)(e:Expr)(t:TT):Prop :=∀(pz:List (Addr×Obj))(s:ag)(σ:St)(H:Hp)(Q:Bool->Hp->Prop),Inv X pz σ H s->t σ H Q->wpAny (model X.prog X.w) X.A (Yw e X.env (eval e X.env)) (TP X pz σ Q) X.xe s
def PW (X:Cx)(e:Expr)(t:TT):Prop :=∀(whole:Sem ae)(pz:List (Addr×Obj))(s:ag)(σ:St)(H:Hp)(Q:Bool->Hp->Prop),Inv X pz σ H s->t σ H Q->wpAny (model X.prog X.w) X.A (Yw e X.env whole) (TP X pz σ Q) X.xe s
theorem PW.pt {X:Cx}{e:Expr}{t:TT}(h:PW X e t):PT X e t:=h _
def PA (X:Cx)(es:List Expr)(t:TA):Prop :=∀(pos:Pos)(pz:List (Addr×Obj))(s:ag)(σ:St)(H:Hp)(Q:List V->Hp->Prop),Inv X pz σ H s->t σ H Q->wpAny (model X.prog X.w) X.A (zu (eh pos (aq es X.env))) (AP X pz σ Q) X.xe s
def PS (X:Cx)(st:Stmt)(t:TS):Prop :=∀(pz:List (Addr×Obj))(s:ag)(σ:St)(H:Hp)(D:Ends),Inv X pz σ H s->t D σ H->wpAny (model X.prog X.w) X.A (exec st X.env) (SP X pz D) X.xe s
def mG (X:Cx)(st:List Stmt)(t:TS):Prop :=∀(pz:List (Addr×Obj))(s:ag)(σ:St)(H:Hp)(D:Ends),Inv X pz σ H s->t D σ H->wpAny (model X.prog X.w) X.A (execs st X.env) (SP X pz D) X.xe s
theorem bF {α:Type}{t:Sem α}{Q Q':α->ag->Prop}{A:cp}{s:ag}(h:wpAny M A t Q E s)(hQ:∀ a s,Q a s->Q' a s):wpAny M A t Q' E s:=j8 h hQ fun _ _ x=>x
end L2
namespace L2
open PySem PySem.Spec PyProof.Rows
variable {pz:List (Addr×Obj)}{σ:St}{H:Hp}{Q E:ae->ag->Prop}{x:Str}{u:ae}
section
variable {X:Cx}
theorem bin {a b:Expr}{ta tb:TE}(ha:PE X a ta)(hb:PE X b tb){s:ag}{R:V->V->Hp->Prop}(I:Inv X pz σ H s)(h:ta σ H fun x H1=>tb σ H1 fun y H2=>R x y H2){α:Type}{Q:α->ag->Prop}{f:ae->ae->Sem α}(hf:∀ v u s2 x y H2,Inv X pz σ H2 s2->RelV x v->RelV y u->R x y H2->wpAny (model X.prog X.w) X.A (f v u) Q X.xe s2):wpAny (model X.prog X.w) X.A (eval a X.env) (fun v bv=>wpAny (model X.prog X.w) X.A (eval b X.env) (fun u ce=>wpAny (model X.prog X.w) X.A (f v u) Q X.xe ce) X.xe bv) X.xe s:=by refine bF (ha pz s σ H _ I h) fun v s1 ⟨x,H1,I1,r1,q1⟩=>?_;refine bF (hb pz s1 σ H1 _ I1 q1) fun u s2 ⟨y,H2,I2,r2,q2⟩=>?_;exact hf v u s2 x y H2 I2 r1 r2 q2
noncomputable def YX (i:Nat):TE:=fun σ H Q=>∃ v,σ[i]? = some (some v)/\Q v H
noncomputable def tC (v:V):TE:=fun _ H Q=>Q v H
theorem X6 {i:Nat}{pos:Pos}(hN:X.N[i]? = some x)(hv:Ax X.env.scope x)(hd:(x==("__debug__" : Str))=false:=by decide)(hcd:(x==("__classdict__" : Str))=false:=by decide):PE X (.Name x pos) (YX i):=by
 intro pz s σ H Q I h;obtain⟨v,e,h⟩:=h;obtain⟨m,hn,hl⟩:=I.loc;obtain⟨u,r,l⟩:=hl i x v hN e hv;have fin:EP X pz σ Q u s:=⟨v,H,I,r,h⟩;rcases l with⟨hk,hm⟩|⟨hk,c,hc,hcell⟩;·exact Zs (wpAny_loadName_local I.ok.kind hk hn hm fin) hd
 ·rcases hk with hk|hk;·exact Zs (wpAny_loadName_cell I.ok.kind hk hc hcell fin) hd
  ·exact Zs (wpAny_loadName_free I.ok.kind hk hc hcell fin hcd) hd
theorem Je {i j pos}:PE X (.Constant (.int i) j pos) (tC (.int i)):=fun _ _ _ H _ I h=>wpAny_Constant_int ⟨.int i,H,I.tok _,⟨_,rfl⟩,h⟩
theorem Qi {b j pos}:PE X (.Constant (.bool b) j pos) (tC (.bl b)):=fun _ _ _ H _ I h=>Constant_bool ⟨.bl b,H,I,rfl,h⟩
theorem Ka {j pos}:PE X (.Constant .none j pos) (tC .non):=fun _ _ _ H _ I h=>Constant_none ⟨.non,H,I,rfl,h⟩
theorem Jy {x j pos}:PE X (.Constant (.str x) j pos) (tC (.str x)):=fun _ _ _ H _ I h=>Calls.Constant_str ⟨.str x,H,I.tok _,⟨_,rfl⟩,h⟩
def Gl (X:Cx)(x:Str):Prop:=X.env.kindOf x=some .globalImplicit
theorem B5 {s:ag}{pos:Pos}(I:Inv X pz σ H s)(hg:Gl X x)(hm:X.mg x=some u)(h:Q u s)(hd:(x==("__debug__" : Str))=false:=by decide):wpAny (model X.prog X.w) X.A (eval (.Name x pos) X.env) Q E s :=td I.ok.kind hg (Calls.loadGlobal_global (by rw[I.ok.glob];exact I.mod.glob.keeps I.bk) hm h) hd
theorem mV {s:ag}{pos:Pos}(I:Inv X pz σ H s)(hg:Gl X x)(hm:X.mg x=none)(hv:de x=some u)(h:Q u s)(hn:x ≠"__name__":=by decide)(hd:(x==("__debug__" : Str))=false:=by decide):wpAny (model X.prog X.w) X.A (eval (.Name x pos) X.env) Q E s:=by obtain⟨mb,h1,h2⟩:=I.mod.blt;exact td I.ok.kind hg (Calls.loadGlobal_builtin (by rw[I.ok.glob];exact I.mod.glob.keeps I.bk) hm (by rw[I.ok.blt];exact h1.keeps I.bk) ((h2 x hn).trans hv) h) hd
theorem Ck {v:V}{pos:Pos}(hg:Gl X x)(hm:X.mg x=some u)(r:RelV v u)(hd:(x==("__debug__" : Str))=false:=by decide):PE X (.Name x pos) (tC v) :=fun _ _ _ H _ I h=>B5 I hg hm ⟨v,H,I,r,h⟩ hd
theorem Gb {v:V}{pos:Pos}(hg:Gl X x)(hm:X.mg x=none)(hv:de x=some u)(r:RelV v u)(hn:x ≠"__name__":=by decide)(hd:(x==("__debug__" : Str))=false:=by decide):PE X (.Name x pos) (tC v) :=fun _ _ _ H _ I h=>mV I hg hm hv ⟨v,H,I,r,h⟩ hn hd
variable {a b:Expr}{ta tb:TE}{pos:Pos}
theorem RelV.Ae {x:V}{v:ae}(r:RelV x v):(v==j0)=decide (x=.non):=by cases x with|non=>cases r;rfl|bl _=>cases r;rfl|int _=>obtain⟨t,rfl⟩:=r;rfl|str _=>obtain⟨t,rfl⟩:=r;rfl|byt _=>obtain⟨t,rfl⟩:=r;rfl|flt _=>obtain⟨t,rfl⟩:=r;rfl|ref _=>cases r;rfl|ty _=>cases r;rfl
variable {tA tB':TT}{rest:List Expr}
noncomputable def Vs (t u:TT):TT:=fun σ H Q=>t σ H fun c H1=>if c=true then u σ H1 Q else Q false H1
noncomputable def Xh (t u:TT):TT:=fun σ H Q=>t σ H fun c H1=>if c=true then Q true H1 else u σ H1 Q
noncomputable def Wo (t:TT):TT:=fun σ H Q=>t σ H fun c H1=>Q (!c) H1
theorem Gk (ha:PT X a tA):PW X (.BoolOp .And [a] pos) tA:=by intro wh pz s σ H Q I h;refine isTrue_and (bF (ha pz s σ H Q I h) fun c s1 e=>?_);cases c with|true=>exact isTrue_and_nil e|false=>exact e
theorem Me (ha:PT X a tA):PW X (.BoolOp .Or [a] pos) tA:=by intro wh pz s σ H Q I h;refine isTrue_or (bF (ha pz s σ H Q I h) fun c s1 e=>?_);cases c with|false=>exact isTrue_or_nil e|true=>exact e
theorem Nh (ha:PT X a tA)(hb:PW X (.BoolOp .And (b::rest) pos) tB'):PW X (.BoolOp .And (a::b::rest) pos) (Vs tA tB'):=by intro wh pz s σ H Q I h;refine isTrue_and (bF (ha pz s σ H _ I h) fun c s1 ⟨H1,I1,q1⟩=>?_);cases c with|true=>exact hb wh pz s1 σ H1 Q I1 q1|false=>exact⟨H1,I1,q1⟩
theorem Oy (ha:PT X a tA)(hb:PW X (.BoolOp .Or (b::rest) pos) tB'):PW X (.BoolOp .Or (a::b::rest) pos) (Xh tA tB'):=by intro wh pz s σ H Q I h;refine isTrue_or (bF (ha pz s σ H _ I h) fun c s1 ⟨H1,I1,q1⟩=>?_);cases c with|true=>exact⟨H1,I1,q1⟩|false=>exact hb wh pz s1 σ H1 Q I1 q1
theorem Mu (ha:PT X a tA):PT X (.UnaryOp .Not a pos) (Wo tA):=by intro pz s σ H Q I h;exact isTrue_not (bF (ha pz s σ H (fun c H1=>Q (!c) H1) I h) fun c s1 ⟨H1,I1,q⟩=>⟨H1,I1,q⟩)
theorem Ky {op}{t:TE}(h:PE X a t):PE X (.BoolOp op [a] pos) t:=fun pz s σ H Q I hw=>BoolOp_one (h pz s σ H Q I hw)
end
end L2
namespace L2
open PySem PySem.Spec PyProof.Rows
def dA (K:aa)(H:Hp)(a:Addr)(xs:List V):Prop :=Rd H a (.lst xs) ∨∃(o:Obj)(aD:Array ae)(n:Nat),K.lookup a=some o/\o.cls=.type "list" /\ o.dict=none/\o.data=.seq aD n/\aD.size<=sizeLine/\aR xs aD.toList
def eU (K:aa)(H:Hp)(a:Addr)(xs:List V):Prop :=Rd H a (.tup xs) ∨∃(o:Obj)(aD:Array ae)(n:Nat),K.lookup a=some o/\o.cls=.type "tuple" /\ o.dict=none/\o.data=.seq aD n/\aD.size<=sizeLine/\aR xs aD.toList
noncomputable def Wg:ae->Option V|.none=>some .non|.bool b=>some (.bl b)|.int i _=>some (.int i)|.str x _=>some (.str x)|.bytes b _=>some (.byt b)|.float b _=>some (.flt b)|.ref a=>some (.ref a)|.type n=>some (.ty n)|_=>none
theorem RelV.abs {x:V}{u:ae}(r:RelV x u):Wg u=some x:=by cases x with|non=>cases r;rfl|bl _=>cases r;rfl|int _=>obtain⟨t,rfl⟩:=r;rfl|str _=>obtain⟨t,rfl⟩:=r;rfl|byt _=>obtain⟨t,rfl⟩:=r;rfl|flt _=>obtain⟨t,rfl⟩:=r;rfl|ref _=>cases r;rfl|ty _=>cases r;rfl
theorem RelV.inj {x y:V}{u:ae}(r:RelV x u)(q:RelV y u):x=y:=c7 (r.abs.symm.trans q.abs)
theorem aR.inj:∀{xs ys:List V}{us:List ae},aR xs us->aR ys us->xs=ys|_,_,_,.nil,.nil=>rfl|_,_,_,.cons r t,.cons r' t'=>by rw[r.inj r',aR.inj t t']
variable {X:Cx}{pz:List (Addr×Obj)}{σ:St}{H:Hp}
section
variable {s:ag}{a:Addr}{xs ys:List V}
theorem dA.of {K:aa}(h:H a=some (.lst xs)):dA K H a xs:=.inl (.inl h)
theorem eU.of {K:aa}(h:H a=some (.tup xs)):eU K H a xs:=.inl (.inl h)
theorem Inv.list (I:Inv X pz σ H s)(h:dA X.K H a xs):∃ aD:List ae,aR xs aD/\PlainL s.heap a aD.toArray/\xs.length<=sizeLine:=by
 rcases h with h|⟨o,aD,n,hk,hc,hd,hs,hz,r⟩;·obtain⟨z,aD,n,r,e⟩:=h.ok I.bO;exact⟨aD,r,⟨_,n,e,rfl,rfl,rfl⟩,z⟩
 ·refine⟨aD.toList,r,⟨o,n,I.jS a o hk,hc,hd,by simpa using hs⟩,?_⟩;have e:=r.length;simp only[j4]at e;omega
theorem Inv.tuple (I:Inv X pz σ H s)(h:eU X.K H a xs):∃ aD:List ae,aR xs aD/\IsTup s.heap a aD.toArray/\xs.length<=sizeLine:=by
 rcases h with h|⟨o,aD,n,hk,hc,_,hs,hz,r⟩;·obtain⟨z,aD,r,p⟩:=h.ok I.bO;exact⟨aD,r,p.tup,z⟩
 ·refine⟨aD.toList,r,⟨o,I.jS a o hk,hc,n,by simpa using hs⟩,?_⟩;have e:=r.length;simp only[j4]at e;omega
theorem Inv.mI (I:Inv X pz σ H s)(h:dA X.K H a xs)(h':dA X.K H a ys):xs=ys:=by
 obtain⟨aD,r,⟨o,n,e,_,_,d⟩,_⟩:=I.list h;obtain⟨mM,r',⟨o',n',e',_,_,d'⟩,_⟩:=I.list h';rw[e]at e';cases e';rw[d]at d';injection d' with d1 _;have:aD=mM:=by simpa using congrArg zv d1
 subst this;exact r.inj r'
theorem Inv.Om (I:Inv X pz σ H s)(h:eU X.K H a xs):∃ o,s.heap.get? a=some o/\o.dict=none:=by
 rcases h with h|⟨o,aD,n,hk,hc,hd,hs,hz,r⟩;·obtain⟨z,aD,r,o,e,_,_,d⟩:=h.ok I.bO;exact⟨o,e,d⟩
 ·exact⟨o,I.jS a o hk,hd⟩
theorem Inv.uV (I:Inv X pz σ H s)(h:eU X.K H a xs)(h':eU X.K H a ys):xs=ys:=by
 obtain⟨aD,r,⟨o,e,_,n,d⟩,_⟩:=I.tuple h;obtain⟨mM,r',⟨o',e',_,n',d'⟩,_⟩:=I.tuple h';rw[e]at e';cases e';rw[d]at d';injection d' with d1 _;have:aD=mM:=by simpa using congrArg zv d1
 subst this;exact r.inj r'
end
noncomputable abbrev Cx.vI (X:Cx)(E:ae->ag->Prop):Cx:={ X with xe:=E }
noncomputable abbrev Cx.jL (X:Cx):Cx:=X.vI fun _ _=>False
theorem Cx.Ok.vI (ok:X.Ok)(E:ae->ag->Prop):(X.vI E).Ok :=⟨ok.mod,ok.kind,ok.glob,ok.blt,ok.above,ok.inj,ok.has,ok.cab,ok.hd,ok.frames,ok.stk,ok.exf,ok.bs,ok.bsz,ok.noex,ok.exfs,ok.mR,ok.frf⟩
variable {E:ae->ag->Prop}
theorem Cx.Ok.qE (ok:(X.vI E).Ok):X.Ok :=⟨ok.mod,ok.kind,ok.glob,ok.blt,ok.above,ok.inj,ok.has,ok.cab,ok.hd,ok.frames,ok.stk,ok.exf,ok.bs,ok.bsz,ok.noex,ok.exfs,ok.mR,ok.frf⟩
section
variable {s:ag}
theorem Inv.vI (I:Inv X pz σ H s)(E:ae->ag->Prop):Inv (X.vI E) pz σ H s:=⟨I.ok.vI E,I.os,I.bare,I.base,I.loc,I.cell,I.free,I.lR,I.pin,I.bO,I.len⟩
theorem Inv.qE (I:Inv (X.vI E) pz σ H s):Inv X pz σ H s:=⟨I.ok.qE,I.os,I.bare,I.base,I.loc,I.cell,I.free,I.lR,I.pin,I.bO,I.len⟩
theorem SP.qE {D:Ends}{f:Flow}{s':ag}(h:SP (X.vI E) pz D f s'):SP X pz D f s':=by cases f with|next=>obtain⟨bn,H',I,q⟩:=h;exact⟨bn,H',I.qE,q⟩|brk=>obtain⟨bn,H',I,q⟩:=h;exact⟨bn,H',I.qE,q⟩|cont=>obtain⟨bn,H',I,q⟩:=h;exact⟨bn,H',I.qE,q⟩|ret u=>obtain⟨v,bn,H',I,r,q⟩:=h;exact⟨v,bn,H',I.qE,r,q⟩
theorem mG.jL {st:List Stmt}{t:TS}(h:mG X.jL st t):mG X st t:=fun pz s σ H D I hw =>j8 (h pz s σ H D (I.vI _) hw) (fun _ _ q=>q.qE) fun _ _ z=>ek z
end
variable {e:Expr}
section
variable {st:Stmt}{rest:List Stmt}{t u:TS}{te:TE}{pos:Pos}
noncomputable def Tc:TS:=fun D σ H=>D.nx σ H
noncomputable def Wl (t u:TS):TS:=fun D σ H=>t { D with nx:=u D } σ H
theorem Co:mG X [] Tc:=fun _ _ σ H _ I h=>wy ⟨σ,H,I,h⟩
theorem YY (h1:PS X st t)(h2:mG X rest u):mG X (st::rest) (Wl t u):=by intro pz s σ H D I h;refine wpAny_execs_cons (bF (h1 pz s σ H { D with nx:=u D } I h) fun f s1 q=>?_);cases f with|next =>obtain⟨bn,H',I',q⟩:=q;exact h2 pz s1 bn H' D I' q|ret v=>exact q|brk=>exact q|cont=>exact q
theorem Inv.quiet {s:ag}(I:Inv X pz σ H s):interactive X.env=false:=by simp [interactive,I.ok.kind]
noncomputable def Rq (te:TE):TS:=fun D σ H=>te σ H fun _ H1=>D.nx σ H1
theorem Ea (he:PE X e te)(hs:my e none pos.line X.env=pure false:=by rfl):PS X (.Expr e pos) (Rq te):=by intro pz s σ H D I h;exact wpAny_Expr_any (bF (he pz s σ H _ I h) fun v s1 ⟨x,H1,I1,r1,q1⟩=>⟨σ,H1,I1,q1⟩) I.quiet hs
noncomputable def Wh (te:TE):TS:=fun D σ H=>te σ H D.rt
theorem Mt (he:PE X e te):PS X (.Return (some e) pos) (Wh te):=by intro pz s σ H D I h;exact wpAny_Return_some (bF (he pz s σ H _ I h) fun v s1 ⟨x,H1,I1,r1,q1⟩=>⟨x,σ,H1,I1,r1,q1⟩)
noncomputable def Pz:TS:=fun D _ H=>D.rt .non H
theorem Cq:PS X (.Return none pos) Pz:=fun _ _ σ H _ I h=>wpAny_Return_none ⟨.non,σ,H,I,rfl,h⟩
noncomputable def Ut (c:TT)(t u:TS):TS:=fun D σ H=>c σ H fun b H1=>if b=true then t D σ H1 else u D σ H1
theorem Ri {c:Expr}{a b:List Stmt}{tc:TT}(hc:PT X c tc)(ha:mG X a t)(hb:mG X b u):PS X (.If c a b pos) (Ut tc t u):=by intro pz s σ H D I h;refine wpAny_If (bF (hc pz s σ H _ I h) fun d s1 ⟨H1,I1,q1⟩=>?_);cases d with|true=>exact ha pz s1 σ H1 D I1 q1|false=>exact hb pz s1 σ H1 D I1 q1
noncomputable def Jb:TS:=fun _ _ _=>False
theorem YI:PS X st Jb:=fun _ _ _ _ _ _ h=>h.elim
end
abbrev TG:=V->St->Hp->(St->Hp->Prop)->Prop
abbrev KL:=List V->St->Hp->(St->Hp->Prop)->Prop
def PG (X:Cx)(target:Expr)(t:TG):Prop :=∀(pz:List (Addr×Obj))(s:ag)(σ:St)(H:Hp)(v:V)(u:ae)(Q:St->Hp->Prop),Inv X pz σ H s->RelV v u->t v σ H Q ->wpAny (model X.prog X.w) X.A (nj target X.env u) (fun _ s'=>∃ bn H',Inv X pz bn H' s'/\Q bn H') X.xe s
def FT (X:Cx)(ts:List Expr)(t:KL):Prop :=∀(pz:List (Addr×Obj))(s:ag)(σ:St)(H:Hp)(vs:List V)(us:List ae)(Q:St->Hp->Prop),Inv X pz σ H s->aR vs us->t vs σ H Q ->wpAny (model X.prog X.w) X.A (assignInOrder ((fu ts X.env).map (·.2)) us) (fun _ s'=>∃ bn H',Inv X pz bn H' s'/\Q bn H') X.xe s
abbrev Ao:=V->V->V->Hp->(Hp->Prop)->Prop
def Iz (X:Cx)(t:Ao):Prop :=∀(pz:List (Addr×Obj))(s:ag)(σ:St)(H:Hp)(o i v:V)(ov iv u:ae)(Q:Hp->Prop),Inv X pz σ H s->RelV o ov->RelV i iv->RelV v u->t o i v H Q ->wpAny (model X.prog X.w) X.A (Aay ov iv u) (fun _ s'=>∃ H',Inv X pz σ H' s'/\Q H') X.xe s
variable {es:List Expr}{tg:Expr}
section
variable {pos:Pos}
noncomputable def GB (i:Nat):TG:=fun v σ H Q=>Q (σ.set i (some v)) H
theorem wU {i:Nat}{x:Str}(hN:X.N.Nodup)(hi:X.N[i]? = some x)(hx:Loc X.env.scope x)(hf:X.fn x=true∨X.env.scope.names.lookup x=some .local:=by first|exact .inl rfl|exact .inr rfl|assumption):PG X (.Name x pos) (GB i):=by intro pz s σ H v u Q I r h;exact zw (YC I hN hi hx r (fun s' I'=>⟨_,H,I',h⟩) hf)
noncomputable def Wd:KL:=fun vs σ H Q=>vs=[]/\Q σ H
noncomputable def Rt (t:TG)(u:KL):KL:=fun vs σ H Q=>∃ v r,vs=v::r/\t v σ H fun bn H'=>u r bn H' Q
theorem Ff:FT X [] Wd:=by intro pz s σ H vs us Q I r h;obtain⟨e,h⟩:=h;subst e;cases r;exact assignInOrder_nil ⟨σ,H,I,h⟩
theorem Ag {t:TG}{u:KL}(h1:PG X e t)(h2:FT X es u)(hs:(fu (e::es) X.env).map (·.2)=nj e X.env::(fu es X.env).map (·.2):=by rfl):FT X (e::es) (Rt t u):=by intro pz s σ H vs us Q I r h;obtain⟨v,vr,e1,h⟩:=h;subst e1;cases r with|cons r rr =>rw[hs];refine assignInOrder_cons (bF (h1 pz s σ H _ _ _ I r h) fun _ s1 ⟨ga,H1,I1,q1⟩=>?_);exact h2 pz s1 ga H1 _ _ Q I1 rr q1
noncomputable def Mp (K:aa)(n:Nat)(t:KL):TG:=fun v σ H Q=>∃ a xs,v=.ref a/\eU K H a xs/\xs.length=n/\t xs σ H Q
theorem VE {k:Nat}{t:KL}{n:Nat}(hc:X.calm=true)(h:FT X es t)(hn:(fu es X.env).length=n:=by rfl)(eV:(fu es X.env).findIdx? (·.1)=none:=by rfl):PG X (.Tuple es k pos) (Mp X.K n t):=by intro pz s σ H v u Q I r hw;obtain⟨a,xs,e1,hq,hl,hw⟩:=hw;subst e1;cases r;obtain⟨aD,rv,ht,hz⟩:=I.tuple hq;refine assign_Tuple_tuple (I.ok.hd hc) ht (by simp [hn,<-hl,rv.length]) eV fun h' hx=>?_;have I1:Inv X pz σ H { s with heap:=h' }:=I.kept (t':=s.toks) fun b o e=>hx b o (b9 (bh e)) e;exact h pz _ σ H xs _ Q I1 (by simpa using rv) hw
noncomputable def Vf (to ti:TE)(t:Ao):TG:=fun v σ H Q=>to σ H fun o H1=>ti σ H1 fun i H2=>t o i v H2 fun H3=>Q σ H3
theorem Nt {o i:Expr}{to ti:TE}{t:Ao}(ho:PE X o to)(hi:PE X i ti)(hs:Iz X t)(ha:∀ v,nj (.Subscript o i pos) X.env v=(do
  let ov <-ky [v] (eval o X.env)let iv <-ky [v,ov] (eval i X.env)pe pos
  ky [v,ov,iv] (Aay ov iv v)release [v,ov,iv] []):=by intro _;rfl):PG X (.Subscript o i pos) (Vf to ti t):=by intro pz s σ H v u Q I r h;rw[ha];refine af (g7 (bF (ho pz s σ H _ I h) fun ov s1 ⟨x,H1,I1,r1,q1⟩=>?_));refine af (g7 (bF (hi pz s1 σ H1 _ I1 q1) fun iv s2 ⟨y,H2,I2,r2,q2⟩=>?_));refine af (qk (af (g7 (bF (hs pz s2 σ H2 x y v ov iv u _ I2 r1 r2 r q2) fun _ s3 ⟨H3,I3,q3⟩=>?_))));exact wpAny_release ⟨σ,H3,I3,q3⟩
noncomputable def Uu (te:TE)(g:TG):TS:=fun D σ H=>te σ H fun x H1=>g x σ H1 D.nx
theorem Jx {te:TE}{g:TG}(he:PE X e te)(hg:PG X tg g)(hs:qm [tg] e pos.line X.env=pure false:=by rfl)(hw:qo [tg] e X.env=pure none:=by rfl)(h1:(fu [tg] X.env).map (·.2)=[nj tg X.env]:=by rfl):PS X (.Assign [tg] e pos) (Uu te g):=by intro pz s σ H D I h;refine wpAny_Assign_stores (bF (he pz s σ H _ I h) fun v s1 ⟨x,H1,I1,r1,q1⟩=>?_) hs hw;rw[h1];exact bF (hg pz s1 σ H1 x v _ I1 r1 q1) fun _ s2 q=>q
end
section
variable {pos:Pos}
noncomputable def Ir (c:TT)(tb:TS):TS:=fun D σ H=>∃ W:Nat->St->Hp->Prop,(∃ m,W m σ H)/\∀ m σ H,W m σ H -> c σ H fun b H1=>if b=true then ∃ N:St->Hp->Prop,(∀ bn H',N bn H'->∃ m',m'<m/\W m' bn H')/\tb { D with nx:=N,ct:=N,bk:=D.nx } σ H1 else D.nx σ H1
theorem YO {c:Expr}{body:List Stmt}{tc:TT}{tb:TS}(hp:sv (model X.prog X.w) X.A X.env X.xe)(hc:PT X c tc)(hb:mG X body tb):PS X (.While c body [] pos) (Ir tc tb):=by intro pz s σ H D I h;obtain⟨W,⟨m0,w0⟩,turn⟩:=h;refine wpAny_While (codeAny_whileLoop (fun n s'=>∃ bn H',Inv X pz bn H' s'/\W n bn H') ?_ m0 ⟨σ,H,I,w0⟩);rintro n s1 ⟨ga,H1,I1,w1⟩;refine kg hp (bF (hc pz s1 ga H1 _ I1 (turn n ga H1 w1)) fun b s2 ⟨H2,I2,q2⟩=>?_);cases b with
 |true =>obtain⟨N,hN,q2⟩:=q2;rw[if_pos rfl];refine kg hp (bF (hb pz s2 ga H2 _ I2 q2) fun f s3 q3=>?_);cases f with|next =>obtain⟨dL,H3,I3,n3⟩:=q3;obtain⟨m',hm,w3⟩:=hN dL H3 n3;exact⟨m',hm,dL,H3,I3,w3⟩|cont =>obtain⟨dL,H3,I3,n3⟩:=q3;obtain⟨m',hm,w3⟩:=hN dL H3 n3;exact⟨m',hm,dL,H3,I3,w3⟩|brk=>exact q3|ret v=>exact q3
 |false =>rw[if_neg fv];exact wy ⟨ga,H2,I2,q2⟩
end
structure It where
 go:Nat->Hp->Prop
 yld:Nat->Hp->V->Hp->Prop
 stop:Nat->Hp->Prop
def mS (X:Cx)(pz:List (Addr×Obj))(H:Hp)(b:Addr):Prop :=H b=none/\b≠X.env.locals/\b∉X.fs/\(b∈X.ex∨X.s₀.heap.objs.size<=b)/\(∀ x c,X.env.cells.lookup x=some c->c≠b)/\∀ p∈X.pn++pz,p.1≠b
theorem Inv.HE {H':Hp}{s:ag}{b:Addr}(I:Inv X pz σ H s)(hb:s.heap.objs.size<=b)(hn:H' b=none):mS X pz H' b:=by
 refine⟨hn,ly (bz I.lt hb),I.Mw hb,.inr (dg I.sz hb),fun x c e z=>?_,fun p hp z=>?_⟩;·obtain⟨v,q⟩:=I.cell x c e;exact absurd (bz q.lt (by rw[z];exact hb)) (fy _)
 ·exact absurd (bz (bh (I.pin p hp).1) (by rw[z];exact hb)) (fy _)
structure Turn (P:b7)(w:c9)(K:aa)(tg:Expr)(J:It)(fp:List Addr)(it:Addr)(tn:Nat->Heap->Prop):Prop where
 mem:it∈fp
 obj:∀ i h,tn i h->∀ b∈fp,∃ o,h.get? b=some o/\∀ v,o.data≠.cell v
 keep:∀ i h h',tn i h->(∀ b∈fp,∀ o,h.get? b=some o->h'.get? b=some o)->tn i h'
 item:∀(X:Cx),X.prog=P->X.w=w->X.K=K->X.calm=true->∀(i:Nat)(pz:List (Addr×Obj))(s:ag)(σ:St)(H:Hp)(E:ae->ag->Prop),Inv X pz σ H s->(∀ b∈fp,mS X pz H b)->tn i s.heap->J.go i H ->wpAny (model P w) X.A (v8 (.ref it)) (fun r s1=>∃ u,r=some u /\ wpAny (model P w) X.A (qz tg (.ref it) u) (fun _ s2=>∃ x H',Inv X pz σ H' s2/\RelV x u/\J.yld i H x H'/\tn (i+1) s2.heap/\∀ b∈fp,H' b=none) E s1) E s
 done:∀(X:Cx),X.prog=P->X.w=w->X.K=K->X.calm=true->∀(i:Nat)(pz:List (Addr×Obj))(s:ag)(σ:St)(H:Hp)(E:ae->ag->Prop),Inv X pz σ H s->(∀ b∈fp,mS X pz H b)->tn i s.heap->J.stop i H ->wpAny (model P w) X.A (v8 (.ref it)) (fun r s1=>r=none/\Inv X pz σ H s1) E s
 self:∀(A:cp)(i:Nat)(s:ag)(Q:ae->ag->Prop)(E:ae->ag->Prop),tn i s.heap->Q (.ref it) s->wpAny (model P w) A (xm (.ref it)) Q E s
abbrev TI:=St->Hp->(It->Hp->Prop)->Prop
def Bj (X:Cx)(pz:List (Addr×Obj))(σ:St)(tg:Expr)(R:It->Hp->Prop)(itv:ae)(s2:ag):Prop :=∃(it:Addr)(fp:List Addr)(tn:Nat->Heap->Prop)(J:It)(H':Hp),itv=.ref it/\Inv X pz σ H' s2/\Turn X.prog X.w X.K tg J fp it tn/\tn 0 s2.heap/\(∀ b∈fp,mS X pz H' b)/\R J H'
def PI (X:Cx)(tg iter:Expr)(wi:TI):Prop :=∀(pz:List (Addr×Obj))(s:ag)(σ:St)(H:Hp)(R:It->Hp->Prop),Inv X pz σ H s->wi σ H R ->wpAny (model X.prog X.w) X.A (eval iter X.env) (fun v s1=>wpAny (model X.prog X.w) X.A (xm v) (Bj X pz σ tg R) X.xe s1) X.xe s
theorem LD {M:Model}{A:cp}{s:ag}{it:Addr}{u:ae}{o:Obj}{n:String}{vs:Array ae}{Q:Unit->ag->Prop}(ho:s.heap.get? it=some o)(hc:o.cls=.type n)(hd:o.data=.fields vs)(hn:["enumerate","zip","dict_itemiterator","dict_reverseitemiterator","odict_iterator","itertools.zip_longest","itertools.pairwise"].contains n=false)(hQ:Q () s):wpAny M A (qz tg (.ref it) u) Q E s:=by unfold qz;cases tg<;>first|exact ar hQ|(cases u<;>first|exact ar hQ| (refine af (wpAny_load ho ?_);rw[hc,hd];show wpAny M A (if(["enumerate","zip","dict_itemiterator","dict_reverseitemiterator","odict_iterator","itertools.zip_longest","itertools.pairwise"].contains n&&vs[0]? == some (g8 _))=true then _ else _) Q E s;rw[if_neg (by intro h;rw[hn,jq]at h;cases h)];exact ar hQ))
noncomputable def Az (K:aa)(a:Addr):It :=⟨fun i H=>∃ xs x,dA K H a xs/\xs[i]? = some x,fun i H x H'=>H'=H/\∀ xs,dA K H a xs->xs[i]? = some x,fun i H=>∃ xs,dA K H a xs/\xs.length<=i⟩
noncomputable def Lj (K:aa)(a:Addr):It :=⟨fun i H=>∃ xs x,eU K H a xs/\xs[i]? = some x,fun i H x H'=>H'=H/\∀ xs,eU K H a xs->xs[i]? = some x,fun i H=>∃ xs,eU K H a xs/\xs.length<=i⟩
noncomputable def Bh (lo:Int)(n:Nat):It:=⟨fun i _=>i<n,fun i H x H'=>H'=H/\x=.int (lo+i),fun i _=>n<=i⟩
variable {P:b7}
theorem X7 {w:c9}{K:aa}(a it:Addr):Turn P w K tg (Az K a) [it] it (fun i h=>h.IsListIter it a i) where
 mem:=by simp
 obj:=fun i h st b hb=>by
  have e:b=it:=by simpa using hb
  subst e;obtain⟨o,e,c,d⟩:=st;exact⟨o,e,fun v z=>by rw[d]at z;cases z⟩
 keep:=fun i h h' st k=>st.at fun o e=>k it (by simp) o e;item:=by intro X hP hw hK hc i pz s σ H E I hf st hg;subst hP hw hK;obtain⟨xs,x,hq,hx⟩:=hg;obtain⟨aD,rv,p,hz⟩:=I.list hq;obtain⟨u,hu,ru⟩:=rv.get hx;obtain⟨f0,f1,f2,f3,f4,f5⟩:=hf it (by simp);refine wpAny_pyNext_list_item st p.isList (x:=u) (by simpa using hu) fun h' aA sb=>?_;have I1:Inv X pz σ H { s with heap:=h' }:=I.turned (t':=s.toks) (fun b o hb e=>(sb.2 b hb).trans e) f0 f1 f3 f4 f5;obtain⟨o,e,c,d⟩:=id aA;exact⟨u,rfl,LD (s:={ s with heap:=h' }) e c d (by decide) ⟨x,H,I1,ru,⟨rfl,fun ys hy=>by rw[I.mI hy hq];exact hx⟩,aA,fun b hb=>(hf b hb).1⟩⟩
 done:=by intro X hP hw hK hc i pz s σ H E I hf st hg;subst hP hw hK;obtain⟨xs,hq,hx⟩:=hg;obtain⟨aD,rv,p,hz⟩:=I.list hq;obtain⟨f0,f1,f2,f3,f4,f5⟩:=hf it (by simp);have hl:=rv.length;exact wpAny_pyNext_list_end (I.ok.hd hc) st p.isList (by simp;omega) fun h' eb=>⟨rfl,I.turned (t':=s.toks) (fun b o hb e=>eb b o hb e) f0 f1 f3 f4 f5⟩
 self:=fun _ _ _ _ _ st h=>wpAny_pyIter_listiter st h
theorem S5 {w:c9}{K:aa}(a it:Addr):Turn P w K tg (Lj K a) [it] it (fun i h=>h.IsTupleIter it a i) where
 mem:=by simp
 obj:=fun i h st b hb=>by
  have e:b=it:=by simpa using hb
  subst e;obtain⟨o,e,c,d⟩:=st;exact⟨o,e,fun v z=>by rw[d]at z;cases z⟩
 keep:=fun i h h' st k=>st.at fun o e=>k it (by simp) o e;item:=by intro X hP hw hK hc i pz s σ H E I hf st hg;subst hP hw hK;obtain⟨xs,x,hq,hx⟩:=hg;obtain⟨aD,rv,p,hz⟩:=I.tuple hq;obtain⟨u,hu,ru⟩:=rv.get hx;obtain⟨f0,f1,f2,f3,f4,f5⟩:=hf it (by simp);refine wpAny_pyNext_tuple_item st (show s.heap.IsTuple a aD.toArray from p) (x:=u) (by simpa using hu) fun h' aA sb=>?_;have I1:Inv X pz σ H { s with heap:=h' }:=I.turned (t':=s.toks) (fun b o hb e=>(sb.2 b hb).trans e) f0 f1 f3 f4 f5;obtain⟨o,e,c,d⟩:=id aA;exact⟨u,rfl,LD (s:={ s with heap:=h' }) e c d (by decide) ⟨x,H,I1,ru,⟨rfl,fun ys hy=>by rw[I.uV hy hq];exact hx⟩,aA,fun b hb=>(hf b hb).1⟩⟩
 done:=by intro X hP hw hK hc i pz s σ H E I hf st hg;subst hP hw hK;obtain⟨xs,hq,hx⟩:=hg;obtain⟨aD,rv,p,hz⟩:=I.tuple hq;obtain⟨f0,f1,f2,f3,f4,f5⟩:=hf it (by simp);have hl:=rv.length;exact wpAny_pyNext_tuple_end (I.ok.hd hc) st (show s.heap.IsTuple a aD.toArray from p) (by simp;omega) fun h' eb=>⟨rfl,I.turned (t':=s.toks) (fun b o hb e=>eb b o hb e) f0 f1 f3 f4 f5⟩
 self:=fun _ _ _ _ _ st h=>wpAny_pyIter_tupleiter st h
theorem SN {w:c9}{K:aa}(it:Addr)(lo:Int)(n:Nat):Turn P w K tg (Bh lo n) [it] it (fun i h=>IsRangeIter h it (lo+(i:Nat)*1) ((n:Int)-(i:Nat)) 1) where
 mem:=by simp
 obj:=fun i h st b hb=>by
  have e:b=it:=by simpa using hb
  subst e;exact⟨_,st,fun v z=>by have z':Data.fields _=Data.cell v:=z;cases z'⟩
 keep:=fun i h h' st k=>k it (by simp) _ st;item:=by intro X hP hw hK hc i pz s σ H E I hf st hg;subst hP hw hK;obtain⟨f0,f1,f2,f3,f4,f5⟩:=hf it (by simp);have W:=Walks.range (prog:=X.prog) (w:=X.w) (I.ok.hd hc) it lo 1 n;refine W.item i s _ _ hg st fun v h' tk hv aA kk=>?_;obtain⟨t,rfl⟩:=hv;have I1:Inv X pz σ H { s with heap:=h',toks:=tk }:=I.turned (fun b o hb e=>kk b o (by simpa using hb) e) f0 f1 f3 f4 f5;refine⟨_,rfl,LD (s:={ s with heap:=h',toks:=tk }) (n :="range_iterator") aA rfl rfl (by decide) ⟨.int (lo+i),H,I1,⟨t,?_⟩,⟨rfl,rfl⟩,aA,fun b hb=>(hf b hb).1⟩⟩;rw[Int.mul_one]
 done:=by intro X hP hw hK hc i pz s σ H E I hf st hg;subst hP hw hK;obtain⟨f0,f1,f2,f3,f4,f5⟩:=hf it (by simp);exact wpAny_pyNext_range_end (I.ok.hd hc) st (by have:n<=i:=hg;omega) fun h' eb=>⟨rfl,I.turned (t':=s.toks) (fun b o hb e=>eb b o hb e) f0 f1 f3 f4 f5⟩
 self:=fun _ _ _ _ _ st h=>wpAny_pyIter_rangeiter st h
end L2
namespace L2
open PySem PySem.Spec PyProof.Rows
variable {pz:List (Addr×Obj)}{σ:St}{H:Hp}{fp:List Addr}
section
variable {X:Cx}{tg:Expr}
theorem YE {s:ag}{R:It->Hp->Prop}{E:ae->ag->Prop}{lo hi:Int}{t u v:Tok}{tk:Nat}(I:Inv X pz σ H s)(h1 : -(2 ^ 62)<=lo)(h2:lo<2 ^ 62)(h3 : -(2 ^ 62)<=hi)(h4:hi<2 ^ 62)(q:R (Bh lo (hi-lo).toNat) H):wpAny (model X.prog X.w) X.A (xm (.ref s.heap.objs.size)) (Bj X pz σ tg R) E { s with heap:=s.heap.push { cls:=.type "range", data:=.fields #[.int lo t,.int hi u,.int 1 v] },toks:=tk }:=by
 refine wpAny_pyIter_range (IsRange.new ..) (small_one h1 h2 h3 h4) ?_;have I1:Inv X pz σ H { s with heap:=s.heap.push { cls:=.type "range", data:=.fields #[.int lo t,.int hi u,.int 1 v] },toks:=tk }:=I.kept fun b o e=>aj _ e;refine⟨(s.heap.push { cls:=.type "range", data:=.fields #[.int lo t,.int hi u,.int 1 v] }).objs.size,[(s.heap.push { cls:=.type "range", data:=.fields #[.int lo t,.int hi u,.int 1 v] }).objs.size],_,_,H,rfl,I1.kept (t':=tk) fun b o e=>aj _ e,SN _ lo (hi-lo).toNat,?_,fun b hb=>?_,q⟩
 ·have e1:lo+((0:Nat):Int)*1=lo:=by simp
  have e2:(((hi-lo).toNat:Nat):Int)-((0:Nat):Int)=Builtin.Range.rangeSize lo hi 1:=by rw[rangeSize_one];split<;>omega
  show IsRangeIter _ _ (lo+((0:Nat):Int)*1) ((((hi-lo).toNat:Nat):Int)-((0:Nat):Int)) 1;rw[e1,e2];exact br _ rfl
 ·have e:b=(s.heap.push { cls:=.type "range", data:=.fields #[.int lo t,.int hi u,.int 1 v] }).objs.size:=by simpa using hb
  subst e;exact I1.HE (aw _) (I1.bO.fresh (aw _))
noncomputable def Oa (ta:TA):TI:=fun σ H R=>ta σ H fun vs H1=>∃ j:Int,vs=[.int j]/\-(2 ^ 62)<=j/\j<2 ^ 62/\R (Bh 0 j.toNat) H1
theorem UK {a:Expr}{ta:TA}{p pos:Pos}(hg:Gl X "range")(hm:X.mg "range" = none)(ha:PA X [a] ta)(hs:aq [a] X.env=[(false,eval a X.env)]:=by rfl):PI X tg (.Call (.Name "range" p) [a] [] pos) (Oa ta):=by intro pz s σ H R I h;refine Call_ (mV I hg hm boot_range (e9 (bF (ha pos pz s σ H _ I h) fun us s1 ⟨vs,H1,I1,r1,q1⟩=>?_) hs rfl));obtain⟨j,e,q1,q2,q⟩:=q1;subst e;cases r1 with|cons r rr =>cases rr;obtain⟨t,rfl⟩:=r;exact call_range_1 (YE I1 (by omega) (by omega) q1 q2 (by simpa using q))
noncomputable def Wx (wi:TI)(g:TG)(tb:TS):TS:=fun D σ H=>wi σ H fun J H1=>∃ W:Nat->Nat->St->Hp->Prop,(∃ m,W 0 m σ H1)/\∀ i m σ H,W i m σ H -> (J.stop i H/\D.nx σ H)∨(J.go i H/\∃ N:St->Hp->Prop,(∀ bn H',N bn H'->∃ m',m'<m/\W (i+1) m' bn H')/\∀ x H',J.yld i H x H'->g x σ H' fun cr H2=>tb { D with nx:=N,ct:=N,bk:=D.nx } cr H2)
noncomputable def A4 (fp:List Addr)(h:Heap):List (Addr×Obj):=fp.filterMap fun b=>(h.get? b).map fun o=>(b,o)
theorem xE {h:Heap}{b:Addr}{o:Obj}(hb:b∈fp)(e:h.get? b=some o):(b,o)∈A4 fp h:=List.mem_filterMap.mpr ⟨b,hb,by rw[e];rfl⟩
theorem UY {h:Heap}{p:Addr×Obj}(hp:p∈A4 fp h):p.1∈fp/\h.get? p.1=some p.2:=by obtain⟨b,hb,e⟩:=List.mem_filterMap.mp hp;cases q:h.get? b with|none=>rw[q]at e;cases e|some o =>rw[q]at e;have e':(b,o)=p:=c7 e;subst e';exact⟨hb,q⟩
theorem Inv.pinned {s:ag}(I:Inv X pz σ H s)(hf:∀ b∈fp,mS X pz H b)(ho:∀ b∈fp,∃ o,s.heap.get? b=some o/\∀ v,o.data≠.cell v):Inv X (pz++A4 fp s.heap) σ H s :=I.Q5 fun p hp=>(List.mem_append.mp hp).elim (fun z=>I.pin p (f7 _ z)) fun z=>by obtain⟨hb,e⟩:=UY z;obtain⟨f0,f1,f2,_⟩:=hf p.1 hb;obtain⟨o,e',d⟩:=ho p.1 hb;rw[e]at e';cases e';exact⟨e,f0,f1,f2,d⟩
theorem Inv.yA {pl:List (Addr×Obj)}{s:ag}(I:Inv X (pz++pl) σ H s):Inv X pz σ H s:=I.Q5 fun p hp=>I.pin p (f7 _ (qr _ hp))
theorem Kq {iter:Expr}{body:List Stmt}{wi:TI}{g:TG}{tb:TS}{pos:Pos}(hp:sv (model X.prog X.w) X.A X.env X.xe)(hc:X.calm=true)(hi:PI X tg iter wi)(hg:PG X tg g)(hb:mG X body tb) (hs:∀ x,gq iter X.env x=pure x:=by intro _;rfl):PS X (.For tg iter body [] pos) (Wx wi g tb):=by
 intro pz s σ H D I h;refine wpAny_For (bF (hi pz s σ H _ I h) fun v s1 h1=>bF h1 fun itv s2 h2=>?_) hs;obtain⟨it,fp,tn,J,H2,e,I2,T,aF,f2,W,⟨m0,w0⟩,turn⟩:=h2;subst e;have stat:∀{H':Hp},(∀ b∈fp,H' b=none)->∀ b∈fp,mS X pz H' b:=fun hn b hb=>⟨hn b hb,(f2 b hb).2⟩;refine codeAny_forLoop_any (fun n s'=>∃ i bn H',Inv X pz bn H' s'/\tn i s'.heap/\(∀ b∈fp,H' b=none)/\W i n bn H') ?_ m0 ⟨0,σ,H2,I2,aF,fun b hb=>(f2 b hb).1,w0⟩;rintro n s3 ⟨i,dL,H3,I3,aX,fr3,w3⟩;rcases turn i n dL H3 w3 with⟨stop,qn⟩|⟨go,N,hN,step⟩;·refine kg hp (bF (T.done X rfl rfl rfl hc i pz s3 dL H3 X.xe I3 (stat fr3) aX stop) fun r s4 ⟨hr,I4⟩=>?_);subst hr;exact wy ⟨dL,H3,I4,qn⟩
 ·refine kg hp (bF (T.item X rfl rfl rfl hc i pz s3 dL H3 X.xe I3 (stat fr3) aX go) fun r s4 ⟨u,hr,h4⟩=>?_);subst hr;refine kg hp (bF h4 fun _ s5 ⟨x,H5,I5,r5,y5,cW,fr5⟩=>?_);have I5':=I5.pinned (stat fr5) (T.obj _ _ cW);refine kg hp (bF (hg _ s5 dL H5 x u _ I5' r5 (step x H5 y5)) fun _ s6 ⟨xL,H6,I6,q6⟩=>?_);refine kg hp (bF (hb _ s6 xL H6 _ I6 q6) fun f s7 q7=>?_);have again:∀{f8:St}{H7:Hp},Inv X (pz++A4 fp s5.heap) f8 H7 s7->N f8 H7->∃ m,m<n/\∃ i bn H',Inv X pz bn H' s7/\tn i s7.heap/\(∀ b∈fp,H' b=none)/\W i m bn H':=fun{f8 H7} I7 n7=>by obtain⟨m',hm,w7⟩:=hN f8 H7 n7;refine⟨m',hm,i+1,f8,H7,I7.yA,T.keep _ _ _ cW fun b hb o e=>(I7.pin (b,o) (f7 _ (f7 _ (xE hb e)))).1,fun b hb=>?_,w7⟩;obtain⟨o,e,d⟩:=T.obj _ _ cW b hb;exact(I7.pin (b,o) (f7 _ (f7 _ (xE hb e)))).2.1
  cases f with|next=>obtain⟨f8,H7,I7,n7⟩:=q7;exact again I7 n7|cont=>obtain⟨f8,H7,I7,n7⟩:=q7;exact again I7 n7|brk=>obtain⟨f8,H7,I7,q7⟩:=q7;exact⟨f8,H7,I7.yA,q7⟩|ret v=>obtain⟨x7,f8,H7,I7,r7,q7⟩:=q7;exact⟨x7,f8,H7,I7.yA,r7,q7⟩
end
end L2
namespace L2
open PySem PySem.Spec PyProof.Rows
abbrev R2:=V->V->Hp->VK->Prop
def iV (X:Cx)(f:ae->ae->Sem ae)(r:R2):Prop :=∀(pz:List (Addr×Obj))(s:ag)(σ:St)(H:Hp)(x y:V)(v u:ae)(Q:VK),Inv X pz σ H s->RelV x v->RelV y u->r x y H Q ->wpAny (model X.prog X.w) X.A (f v u) (EP X pz σ Q) X.xe s
def xC (X:Cx)(f:ae)(r:List V->Hp->VK->Prop):Prop :=∀(pz:List (Addr×Obj))(s:ag)(σ:St)(H:Hp)(xs:List V)(us:List ae)(Q:VK),Inv X pz σ H s->aR xs us->r xs H Q ->wpAny (model X.prog X.w) X.A (call f us) (EP X pz σ Q) X.xe s
def Ul (X:Cx)(r:V->Hp->(Bool->Hp->Prop)->Prop):Prop :=∀(pz:List (Addr×Obj))(s:ag)(σ:St)(H:Hp)(x:V)(v:ae)(Q:Bool->Hp->Prop),Inv X pz σ H s->RelV x v->r x H Q ->wpAny (model X.prog X.w) X.A (truthy v) (TP X pz σ Q) X.xe s
noncomputable def Hf (r:R2)(ta tb:TE):TE:=fun σ H Q=>ta σ H fun x H1=>tb σ H1 fun y H2=>r x y H2 Q
noncomputable def rI (C:Int->Int->Prop)(g:Int->Int->V):R2:=fun x y H Q=>∃ i j,x=.int i/\y=.int j/\C i j/\Q (g i j) H
noncomputable def OA (g:Int->Int->V):R2:=fun x y H Q=>∃ i j,x=.int i/\y=.int j/\Q (g i j) H
variable {pz:List (Addr×Obj)}{f:ae->ae->Sem ae}{g:Int->Int->Int}
section
variable {X:Cx}{a b c:Expr}{ta tb tc:TE}{pos:Pos}
theorem Mx (ha:PE X a ta)(hb:PE X b tb){s:ag}{σ:St}{H:Hp}{R:V->V->Hp->Prop}(I:Inv X pz σ H s)(h:ta σ H fun x H1=>tb σ H1 fun y H2=>R x y H2){Q:ae->ag->Prop}(hf:∀ v u s2 x y H2,Inv X pz σ H2 s2->RelV x v->RelV y u->R x y H2->wpAny (model X.prog X.w) X.A (f v u) Q X.xe s2):wpAny (model X.prog X.w) X.A (eval a X.env) (fun v bv=>wpAny (model X.prog X.w) X.A (eval b X.env) (fun u ce=>wpAny (model X.prog X.w) X.A (f v u) Q X.xe ce) X.xe bv) X.xe s:=by refine bF (ha pz s σ H _ I h) fun v s1 ⟨x,H1,I1,r1,q1⟩=>?_;refine bF (hb pz s1 σ H1 _ I1 q1) fun u s2 ⟨y,H2,I2,r2,q2⟩=>?_;exact hf v u s2 x y H2 I2 r1 r2 q2
theorem Qr {op:Operator}{r:R2}(ho:iV X (jr op) r)(ha:PE X a ta)(hb:PE X b tb):PE X (.BinOp a op b pos) (Hf r ta tb):=by intro pz s σ H Q I h;exact wpAny_BinOp (Mx ha hb I h fun v u s2 x y H2 I2 rx ry q=>ho pz s2 σ H2 x y v u Q I2 rx ry q)
theorem Bd {C:Int->Int->Prop}(rule:∀(i j:Int)(t u:Tok)(s:ag)(Q:ae->ag->Prop)(E:ae->ag->Prop),C i j->Q (.int (g i j) s.toks) { s with toks:=s.toks+1 }->wpAny (model X.prog X.w) X.A (f (.int i t) (.int j u)) Q E s):iV X f (rI C fun i j=>.int (g i j)):=by intro pz s σ H x y v u Q I rx ry h;obtain⟨i,j,rfl,rfl,hc,q⟩:=h;obtain⟨t,rfl⟩:=rx;obtain⟨t',rfl⟩:=ry;exact rule i j t t' s _ _ hc ⟨.int (g i j),H,I.tok _,⟨_,rfl⟩,q⟩
theorem Ik (rule:∀(i j:Int)(t u:Tok)(s:ag)(Q:ae->ag->Prop)(E:ae->ag->Prop),Q (.int (g i j) s.toks) { s with toks:=s.toks+1 }->wpAny (model X.prog X.w) X.A (f (.int i t) (.int j u)) Q E s):iV X f (OA fun i j=>.int (g i j)):=by intro pz s σ H x y v u Q I rx ry h;obtain⟨i,j,rfl,rfl,q⟩:=h;obtain⟨t,rfl⟩:=rx;obtain⟨t',rfl⟩:=ry;exact rule i j t t' s _ _ ⟨.int (g i j),H,I.tok _,⟨_,rfl⟩,q⟩
def Nr (i j:Int):Prop:=0<j/\j<1073741824
def Kg (i j:Int):Prop:=0<=j/\j<=1000000/\i.natAbs<2 ^ 64
def R0 (i j:Int):Prop:=(-(2 ^ 64)<i/\i<2 ^ 64)∨(-(2 ^ 64)<j/\j<2 ^ 64)
theorem R0.ok {i j:Int}(h:R0 i j):IntMulOk i j:=by
 rcases h with⟨h1,h2⟩|⟨h1,h2⟩;·exact .of_left (intBits_le_64 h1 h2)
 ·exact .of_right (intBits_le_64 h1 h2)
theorem Hq:iV X (jr .Add) (OA fun i j=>.int (i+j)):=Ik fun _ _ _ _ _ _ _ q=>add_int q
theorem Lu:iV X (jr .Sub) (OA fun i j=>.int (i-j)):=Ik fun _ _ _ _ _ _ _ q=>sub_int q
theorem He:iV X (jr .Mult) (rI R0 fun i j=>.int (i*j)):=Bd fun _ _ _ _ _ _ _ hc q=>mul_int q hc.ok
theorem Hd:iV X (jr .FloorDiv) (rI Nr fun i j=>.int (i / j)):=Bd fun i j _ _ _ _ _ hc q=>by have h1:(0:Int)<j:=hc.1;have h2:j<1073741824:=hc.2;exact floordiv_int (by omega) (by rw[Int.fdiv_eq_ediv_of_nonneg i (by omega)];exact q) (.inl (PyProof.noPylong_small (by omega)))
theorem Jz:iV X (jr .Mod) (rI (fun _ j=>0<j) fun i j=>.int (i % j)):=Bd fun i j _ _ _ _ _ hc q=>by have h1:(0:Int)<j:=hc;exact mod_int' (by omega) (by rw[Int.fmod_eq_emod_of_nonneg i (by omega)];exact q)
theorem Nn:iV X (jr .Pow) (rI Kg fun i j=>.int (i ^ j.toNat)):=Bd fun _ _ _ _ _ _ _ hc q=>pow_int_small hc.1 hc.2.1 hc.2.2 q
end
section
variable {X:Cx}{a b c:Expr}{ta tb tc:TE}{pos:Pos}
theorem Mo {σ:St}{H:Hp}{s:ag}{Q:VK}{k k':Bool}(I:Inv X pz σ H s)(q:Q (.bl k) H)(e:k=k'):EP X pz σ Q (.bool k') s:=by subst e;exact⟨.bl k,H,I,rfl,q⟩
theorem UJ:iV X (vf .In) (fun x y H Q=>∃ i j,x=.str i/\y=.str j/\Q (.bl (!(ot j i 0 j.length 1).isEmpty)) H):=by intro pz s σ H x y v u Q I rx ry h;obtain⟨i,j,rfl,rfl,q⟩:=h;obtain⟨t,rfl⟩:=rx;obtain⟨t',rfl⟩:=ry;exact in_str (Mo I q rfl)
theorem iV.or {r r':R2}(h:iV X f r)(h':iV X f r'):iV X f (fun x y H Q=>r x y H Q∨r' x y H Q):=by
 intro pz s σ H x y v u Q I rx ry q;rcases q with q|q;·exact h pz s σ H x y v u Q I rx ry q
 ·exact h' pz s σ H x y v u Q I rx ry q
def YQ (K:aa)(x:V)(H:Hp)(k:Bool):Prop :=match x with|.non=>k=false|.bl b=>k=b|.int i=>k=(i != 0)|.str y=>y.length<=sizeLine/\k=((y.length:Int) != 0)|.byt y=>y.size<=sizeLine/\k=((y.size:Int) != 0)|.ref p=>(∃ xs,dA K H p xs/\k = !xs.isEmpty)∨(∃ xs,eU K H p xs/\k = !xs.isEmpty)∨∃ iW,H p=some (.dK iW)/\k = !iW.isEmpty|_=>False
theorem TZ {κ:Type}{iW:List (κ×V)}{vs:List (κ×Value)}(r:KV iW vs):(!vs.isEmpty) = !iW.isEmpty:=by cases r<;>rfl
theorem GK {xs:List V}{aD:List ae}(r:aR xs aD):(!aD.toArray.isEmpty) = !xs.isEmpty:=by cases r<;>simp
theorem sS:(sizeLine:Nat)<2 ^ 63:=by rw[kl];decide
theorem EY:Ul X (fun x H Q=>∃ k,YQ X.K x H k/\Q k H):=by intro pz s σ H x v Q I rx h;obtain⟨k,e,q⟩:=h;have hl:=sS;have hs:sizeLine=16777216:=kl;cases x with|non =>cases rx;have e':k=false:=e;subst e';exact truthy_none ⟨H,I,q⟩|bl b =>cases rx;have e':k=b:=e;subst e';exact mi ⟨H,I,q⟩|int i =>obtain⟨t,rfl⟩:=rx;have e':k=(i != 0):=e;subst e';exact PySem.P.truthy_int ⟨H,I,q⟩|str y =>obtain⟨t,rfl⟩:=rx;obtain⟨hy,e'⟩:y.length<=sizeLine/\k=((y.length:Int) != 0):=e;subst e';exact PySem.P.truthy_str (by omega) ⟨H,I.tok _,q⟩|byt y =>obtain⟨t,rfl⟩:=rx;obtain⟨hy,e'⟩:y.size<=sizeLine/\k=((y.size:Int) != 0):=e;subst e';exact PySem.W.truthy_bytes (by omega) ⟨H,I.tok _,q⟩|ref p =>
 cases rx;have e':(∃ xs,dA X.K H p xs/\k = !xs.isEmpty)∨(∃ xs,eU X.K H p xs/\k = !xs.isEmpty)∨∃ iW,H p=some (.dK iW)/\k = !iW.isEmpty:=e;rcases e' with⟨xs,hx,e'⟩|⟨xs,hx,e'⟩|⟨iW,hx,e'⟩;·subst e';obtain⟨aD,r,pl,hz⟩:=I.list hx;have hlen:=r.length;exact wpAny_truthy_list pl.isList (by simp only[be];omega) ⟨H,I.tok _,by rw[GK r];exact q⟩
 ·subst e';obtain⟨aD,r,pl,hz⟩:=I.tuple hx;have hlen:=r.length;exact truthy_tuple pl (by simp only[be];omega) ⟨H,I.tok _,by rw[GK r];exact q⟩
 ·subst e';obtain⟨hz,hS,vs,r,m⟩:iW.length<=sizeLine/\(p==qe)=false/\∃ vs,KV iW vs/\s.heap.DictOf (GO X.prog X.w) p vs:=I.bO p _ hx;have hlen:iW.length=vs.length:=Aak r;exact wpAny_truthy_dict hS m (by omega) ⟨H,I.tok _,by rw[TZ r];exact q⟩|_=>exact(show False from e).elim
theorem ZV (ha:PE X a ta)(he:∀ whole,Yw a X.env whole=(do let v <-whole;pe a.pos;ky [v] (truthy v))):PT X a (fun σ H Q=>ta σ H fun x H'=>∃ k,YQ X.K x H' k/\Q k H'):=by intro pz s σ H Q I h;exact isTrue_plain (bF (ha pz s σ H _ I h) fun v s1 ⟨x,H1,I1,r1,q1⟩=>EY pz s1 σ H1 x v Q I1 r1 q1) (he _)
theorem SV:iV X (jr .Add) (fun x y H Q=>∃ i j,x=.str i/\y=.str j/\i.length+j.length<=sizeLine/\Q (.str (i++j)) H):=by intro pz s σ H x y v u Q I rx ry h;obtain⟨i,j,rfl,rfl,hz,q⟩:=h;obtain⟨t,rfl⟩:=rx;obtain⟨t',rfl⟩:=ry;exact add_str (fun t' tk=>⟨.str (i++j),H,I.tok _,⟨_,rfl⟩,q⟩) hz
theorem vals1 {x:V}{us:List ae}(r:aR [x] us):∃ u,us=[u]/\RelV x u:=by cases r with|cons r1 r2=>cases r2;exact⟨_,rfl,r1⟩
def Lr (K:aa)(x:V)(H:Hp)(n:Nat):Prop :=match x with|.str y=>y.length<=sizeLine/\n=y.length|.byt y=>y.size<=sizeLine/\n=y.size|.ref p=>(∃ xs,dA K H p xs/\n=xs.length)∨∃ xs,eU K H p xs/\n=xs.length|_=>False
theorem YJ:xC X (.builtin "len") (fun xs H Q=>∃ x n,xs=[x]/\Lr X.K x H n/\Q (.int n) H):=by
 intro pz s σ H xs us Q I r h;obtain⟨x,n,rfl,e,q⟩:=h;obtain⟨u,rfl,rx⟩:=vals1 r;have hl:=sS;have hs:sizeLine=16777216:=kl;cases x with|str y =>obtain⟨t,rfl⟩:=rx;obtain⟨hy,e'⟩:y.length<=sizeLine/\n=y.length:=e;subst e';exact len_str (by omega) ⟨.int _,H,I.tok _,⟨_,rfl⟩,q⟩|byt y =>obtain⟨t,rfl⟩:=rx;obtain⟨hy,e'⟩:y.size<=sizeLine/\n=y.size:=e;subst e';exact PySem.W.len_bytes (by omega) ⟨.int _,H,I.tok _,⟨_,rfl⟩,q⟩|ref p =>
 cases rx;have e':(∃ xs,dA X.K H p xs/\n=xs.length)∨∃ xs,eU X.K H p xs/\n=xs.length:=e;rcases e' with⟨xs,hx,e'⟩|⟨xs,hx,e'⟩;·subst e';obtain⟨aD,r',pl,hz⟩:=I.list hx;have hlen:=r'.length;exact Calls.call_len_list pl.isList (by simp only[be];omega) ⟨.int xs.length,H,I.tok _,⟨_,by simp only[be];rw[hlen]⟩,q⟩
 ·subst e';obtain⟨aD,r',pl,hz⟩:=I.tuple hx;have hlen:=r'.length;exact Aas pl (by simp only[be];omega) ⟨.int xs.length,H,I.tok _,⟨_,by simp only[be];rw[hlen]⟩,q⟩|_=>exact(show False from e).elim
end
end L2
namespace L2
open PySem PySem.Spec PyProof.Rows
variable {dx:Addr}{mA:Str->Option ae}
structure D5 (h:Heap)(x dx C:Addr)(mA:Str->Option ae):Prop where
 obj:h.get? x=some (j1 C dx)ns:h.Ns1 dx mA
 ne:dx≠x
set_option tactic.hygienic true in
theorem XX {h:Heap}(n:h.Ns1 dx mA):∃ od,h.get? dx=some od/\∀ name,tj name od=some (mA name):=by
 obtain⟨o,es,ep,ho,hd,hk,_,hm⟩:=n;refine⟨o,ho,fun name=>?_⟩;have e:=hm name;unfold nsFind findBy at e;rw[<-Array.find?_toList]at e;unfold tj;rw[hd];dsimp only;split;·rename_i y q;rw[q]at e;exact congrArg some e
 ·rename_i q;rw[q]at e;have a:es.toList.any (·.refKey)=false:=by rw[mj];intro y hy;obtain⟨z,t,hkey⟩:=hk y (Array.mem_toList_iff.mp hy);simp [DictEntry.refKey,hkey]
  have a':¬es.toList.any (·.refKey)=true:=by rw[a];exact fv
  rw[if_neg a'];exact congrArg some e
variable {C:Addr}
theorem D5.look {h:Heap}{x:Addr}(I:D5 h x dx C mA):∃ od,PySem.W.InstAt h x (j1 C dx) C (some od)/\∀ name,tj name od=some (mA name) :=let⟨od,ho,hl⟩:=XX I.ns;⟨od,⟨I.obj,rfl,rfl,ho⟩,hl⟩
variable {E Q:ae->ag->Prop}{f:Str}{pl:Sem Bool}
section
variable {prog:b7}{w:c9}{A:cp}{s:ag}{K:aa}{x f:Addr}{name:Str}{v:ae}
theorem get_map {expr:Bool}(X:K.In s.heap)(I:D5 s.heap x dx C mA)(hg:kz K C name=true)(hh:mn K C=true)(ha:ff K (.ref C) name=some none)(hv:mA name=some v)(hv':Yx v=true)(h:Q v { s with toks:=s.toks+1 }):wpAny (model prog w) A (getAttr (.ref x) name expr) Q E s:=by obtain⟨od,J,hl⟩:=I.look;exact PySem.W.get_value X J (rm hg).1 (PySem.W.findObj_own hh ha rfl (by rw[hl,hv])) hv' h
theorem ZQ {Q:Value×List ae->ag->Prop}(X:K.In s.heap)(I:D5 s.heap x dx C mA)(hg:kz K C name=true)(hf:ff K (.ref C) name=some (some (.ref f)))(ht:se K (.ref f)=true)(hv:mA name=none)(h:Q (.ref f,[.ref x]) s):wpAny (model prog w) A (vg (.ref x) name pl) Q E s:=by obtain⟨od,J,hl⟩:=I.look;exact PySem.W.method_fn X J (rm hg).1 (rm hg).2 hf (beq_iff_eq.mp ht) (by show(tj name od).map (·.isSome)=some false;rw[hl,hv];rfl) h
theorem Fc {ns:List Str}{Q:Unit->ag->Prop}(X:K.In s.heap)(I:D5 s.heap x dx C mA)(hs:ff K (.ref C) "__setattr__" = some (some (.builtin "object.__setattr__")))(hp:ph K C=true)(ht:wz K C name=some none)(hh:mn K C=true)(hw:zt mA ns)(iS:ns.length<=sizeLine)(h:∀ h',D5 h' x dx C (fun y=>if y=name then some v else mA y)->ll dx s.heap h'->Q () { s with heap:=h',toks:=s.toks+2 }):wpAny (model prog w) A (setAttr (.ref x) name v) Q E s:=by obtain⟨od,J,hl⟩:=I.look;refine PySem.W.set_plain X J hs (PySem.W.osa_open (s:={ s with toks:=s.toks+1 }) (r:=none) X J hp ht fun b=>?_);obtain⟨cd,hc,hd'⟩:=PySem.W.any_some hh;have hx:s.heap.get? x=some ⟨.ref C,some dx,.plain,#[]⟩:=I.obj;refine af (ar (af (af (wpAny_loadPart hx (af (PySem.W.Looks.here (s:={ s with toks:=s.toks+1 }) (PySem.W.looks_clsIn X hc) ?_))))));rw[hd'];refine ar (a:=some dx) (af (ar (af ?_)));refine wpAny_nsSet1 (s:={ s with toks:=s.toks+1 }) I.ns fun h' hn2 hs2=>?_;obtain⟨oD,esD,epD,hoD,hdD,hcD⟩:=hn2.count (PySem.Within.cons name v hw);refine af (wpAny_lookBehind hoD (by rw[hdD];exact pastItsLine_dict (dg hcD (by rw[bf];omega))) ?_);exact ar (h _ ⟨(hs2.2 _ (fj I.ne)).trans I.obj,hn2,I.ne⟩ hs2)
theorem ZL {R:Aaz->ag->Prop}{vs:List ae}{kw:List (Str×Value)}(X:K.In s.heap)(hm:w4 K C=true)(hi:ff K (.ref C) "__init__" = some (some (.ref f)))(hf:PySem.W.typeIn K (.ref f)=some (.type "function"))(h:lz (model prog w) (A.under (.builtin "type.__call__" ⟨.ref C::vs,kw⟩)) (.call (.ref f) ⟨.ref (s.heap.objs.size+1)::vs,kw⟩) (PySem.W.InitBack (s.heap.objs.size+1) R) { s with heap:=(s.heap.push g9).push (j1 C s.heap.objs.size) }):lz (model prog w) A (.call (.ref C) ⟨vs,kw⟩) R s:=by obtain⟨hh,g,d,t,os⟩:=s;exact PySem.W.make_core (PySem.W.makes_of X hm) (PySem.W.looks_findIn X hi) (fun self=>PySem.W.bind_fn X self hf) (.inl rfl) h
end
noncomputable def jR (f:Str)(v:V):List (Str×V)->List (Str×V)|[]=>[(f,v)]|(g,x)::r=>if g=f then(g,v)::r else(g,x)::jR f v r
theorem CZ (f g:Str)(v:V):∀ fs:List (Str×V),(jR f v fs).lookup g=if g=f then some v else fs.lookup g
 |[]=>by
  show jc g [(f,v)]=_;by_cases h:g=f;·have hb:(g==f)=true:=beq_iff_eq.mpr h;simp only[jc,hb,if_pos h]
  ·have hb:(g==f)=false:=beq_eq_false_iff_ne.mpr h;simp only[jc,hb,if_neg h]|(k,x)::r=>by
  have ih:=CZ f g v r;rw[show jR f v ((k,x)::r)=(if k=f then(k,v)::r else(k,x)::jR f v r)from rfl];by_cases hk:k=f
  ·rw[if_pos hk];by_cases h:g=k;·have hb:(g==k)=true:=beq_iff_eq.mpr h;simp only[jc,hb,if_pos (h.trans hk)]
   ·have hb:(g==k)=false:=beq_eq_false_iff_ne.mpr h;simp only[jc,hb,if_neg (fun e:g=f=>h (e.trans hk.symm))]
  ·rw[if_neg hk];by_cases h:g=k;·have hb:(g==k)=true:=beq_iff_eq.mpr h;simp only[jc,hb,if_neg (fun e:g=f=>hk (h.symm.trans e))]
   ·have hb:(g==k)=false:=beq_eq_false_iff_ne.mpr h;simp only[jc,hb];exact ih
theorem AR (f:Str)(v:V):∀ fs:List (Str×V),f∈(jR f v fs).map (·.1)/\∀ g,g∈fs.map (·.1)->g∈(jR f v fs).map (·.1)
 |[]=>⟨by simp [jR],fun g h=>by simp at h⟩|(k,x)::r=>by
  obtain⟨i1,i2⟩:=AR f v r;rw[show jR f v ((k,x)::r)=(if k=f then(k,v)::r else(k,x)::jR f v r)from rfl];by_cases hk:k=f;·rw[if_pos hk];subst hk;exact⟨by simp,fun g h=>by simpa using h⟩
  ·rw[if_neg hk];refine⟨?_,fun g h=>?_⟩;·rw[bb];exact cq _ i1
   ·rw[bb]at h ⊢;rcases List.mem_cons.mp h with e|e;·exact List.mem_cons.mpr (.inl e)
    ·exact cq _ (i2 g e)
theorem CW (f:Str)(v:V):∀ fs:List (Str×V),(jR f v fs).length<=fs.length+1
 |[]=>by simp [jR]|(k,x)::r=>by
  have ih:=CW f v r;rw[show jR f v ((k,x)::r)=(if k=f then(k,v)::r else(k,x)::jR f v r)from rfl];by_cases hk:k=f;·rw[if_pos hk,bf,bf];omega
  ·rw[if_neg hk,bf,bf];omega
variable {v:V}{o:Option ae}
theorem vC.some_of (r:vC (some v) o):∃ u,o=some u/\RelV v u:=by cases o with|none=>exact(show False from r).elim|some u=>exact⟨u,rfl,r⟩
theorem vC.none_of (r:vC none o):o=none:=by cases o with|none=>rfl|some u=>exact(show False from r).elim
theorem UI {u:ae}(r:RelV v u):Yx u=true:=by cases v with|non=>cases (show u=j0 from r);rfl|bl b=>cases (show u=sy b from r);rfl|int i=>obtain⟨t,e⟩:=(show ∃ t,u=Aar i t from r);cases e;rfl|str x=>obtain⟨t,e⟩:=(show ∃ t,u=Yv x t from r);cases e;rfl|byt b=>obtain⟨t,e⟩:=(show ∃ t,u=AaE b t from r);cases e;rfl|flt b=>obtain⟨t,e⟩:=(show ∃ t,u=AaF b t from r);cases e;rfl|ref a=>cases (show u=i5 a from r);rfl|ty n=>cases (show u=gp n from r);rfl
variable {H:Hp}
section
variable {P:b7}{w:c9}{H':Hp}{h h':Heap}{a:Addr}{fs fs':List (Str×V)}
theorem G3 (bO:iN P w H h)(e:H a=some (.ins C dx fs)):∃ mA,D5 h a dx C mA/\(∀ f,vC (fs.lookup f) (mA f))/\zt mA (fs.map (·.1))/\fs.length<=1000/\H dx=some (.own a):=by obtain⟨d,z,ne,ob,mA,n,r,q⟩:=(show kT P w H h a (.ins C dx fs)from bO a _ e);exact⟨mA,⟨ob,n,ne⟩,r,q,z,d⟩
end
structure wJ (K:aa)(C:Addr):Prop where
 pg:kz K C Aat=true
 hd:mn K C=true
 po:ph K C=true
 sa:ff K (.ref C) "__setattr__" = some (some (.builtin "object.__setattr__"))
theorem wJ.get {K:aa}(c:wJ K C)(f:Str):kz K C f=true:=c.pg
def tN (K:aa)(C:Addr)(f:Str):Prop:=ff K (.ref C) f=some none
theorem tN.Pu {K:aa}(n:tN K C f):wz K C f=some none:=by unfold wz;rw[show ff K (.ref C) f=some none from n];rfl
structure GR (K:aa)(C:Addr)(m:Str)(f:Addr):Prop where
 at_:ff K (.ref C) m=some (some (.ref f))fn:se K (.ref f)=true
 kp:fx K (.ref f)=true
variable {pz:List (Addr×Obj)}
section
variable {X:Cx}{σ:St}{s:ag}{a:Addr}{fs:List (Str×V)}{A:cp}
theorem SE {b:Bool}(I:Inv X pz σ H s)(e:H a=some (.ins C dx fs))(c:wJ X.K C)(n:tN X.K C f)(l:fs.lookup f=some v)(h:∀ u s',Inv X pz σ H s'->RelV v u->Q u s'):wpAny (model X.prog X.w) A (getAttr (.ref a) f b) Q E s:=by obtain⟨mA,O,r,_,_,_⟩:=G3 I.bO e;obtain⟨u,hu,ru⟩:=vC.some_of (v:=v) (o:=mA f) (by rw[<-l];exact r f);exact get_map I.jS O (c.get f) c.hd n hu (UI ru) (h u _ (I.tok _) ru)
theorem EG {m:Str}{g:Addr}{Q:Value×List ae->ag->Prop}(I:Inv X pz σ H s)(e:H a=some (.ins C dx fs))(c:wJ X.K C)(k:GR X.K C m g)(l:fs.lookup m=none)(h:Q (.ref g,[.ref a]) s):wpAny (model X.prog X.w) A (vg (.ref a) m pl) Q E s:=by obtain⟨mA,O,r,_,_,_⟩:=G3 I.bO e;have hn:mA m=none:=vC.none_of (by rw[<-l];exact r m);exact ZQ I.jS O (c.get m) k.at_ k.fn hn h
theorem S6 {y:V}{u:ae}{Q:Unit->ag->Prop}(I:Inv X pz σ H s)(e:H a=some (.ins C dx fs))(c:wJ X.K C)(n:tN X.K C f)(hl:fs.length<1000)(ry:RelV y u) (h:∀ s',Inv X pz σ (upd H a (.ins C dx (jR f y fs))) s'->Q () s'):wpAny (model X.prog X.w) A (setAttr (.ref a) f u) Q E s:=by
 obtain⟨mA,O,r,wi,_,ho⟩:=G3 I.bO e;have hz:(fs.map (·.1)).length<=sizeLine:=by rw[ab,kl];omega
 refine Fc I.jS O c.sa c.po n.Pu c.hd wi hz fun h' O' sb=>h _ ?_;have hd:∃ o,h'.get? dx=some o:=let⟨o,_,_,e',_⟩:=O'.ns;⟨o,e'⟩;refine I.write (x:=a) (e:=dx) (by rw[e];exact cy) (.inr ho) (fun b q hb z=>(sb.2 b hb).trans z) hd ?_;refine⟨by rw[bI O.ne];exact ho,?_,O.ne,O'.obj,_,O'.ns,fun g=>?_,fun g hg=>?_⟩;·have:=CW f y fs;omega
 ·show vC ((jR f y fs).lookup g) (if g=f then some u else mA g);rw[CZ];by_cases q:g=f;·rw[if_pos q,if_pos q];exact ry
  ·rw[if_neg q,if_neg q];exact r g
 ·by_cases q:g=f;·rw[q];exact(AR f y fs).1
  ·refine(AR f y fs).2 g (wi g fun z=>hg ?_);show(if g=f then some u else mA g)=none;rw[if_neg q];exact z
theorem Inv.made (I:Inv X pz σ H s):Inv X pz σ (upd (upd H s.heap.objs.size (.own (s.heap.objs.size+1))) (s.heap.objs.size+1) (.ins C s.heap.objs.size [])) { s with heap:=(s.heap.push g9).push (j1 C s.heap.objs.size) }:=by
 have e1:(s.heap.push g9).get? s.heap.objs.size=some g9:=br s.heap rfl;have e2:((s.heap.push g9).push (j1 C s.heap.objs.size)).get? (s.heap.objs.size+1)=some (j1 C s.heap.objs.size):=by have:=br (s.heap.push g9) (o:=j1 C s.heap.objs.size) rfl;rwa [ju]at this
 have e3:(s.heap.push g9).Ns s.heap.objs.size (fun _=>none):=⟨PySem.W.emptyDict,#[],_,e1,rfl,(fun e he=>absurd he (by simp)),fun _=>rfl⟩;have I1:=I.laid (a:=s.heap.objs.size) (o:=.own (s.heap.objs.size+1)) (h':=s.heap.push g9) (t':=s.toks) (fun b u q=>aj _ q) (aw _) ⟨_,e1⟩;refine I1.laid (a:=s.heap.objs.size+1) (o:=.ins C s.heap.objs.size []) (t':=s.toks) (fun b u q=>aj _ q) (AaA (ju _ _)) ?_;have ne:s.heap.objs.size≠s.heap.objs.size+1:=b9 (gz _);refine⟨by rw[bI ne,dE],dt _,ne,e2,fun _=>none,(Heap.Ns1.of_empty e3).at fun o q=>aj _ q,fun _=>cy,fun y hy=>absurd rfl hy⟩
theorem Fo {prog:b7}{w:c9}{env:Env}{e:Expr}{pos:Pos}(hb:gu e f env (eval e env)=eval e env)(h:wpAny (model prog w) A (eval e env) (fun o bv=>wpAny (model prog w) A (getAttr o f true) Q E bv) E s):wpAny (model prog w) A (eval (.Attribute e f pos) env) Q E s :=Attribute_any_ h (by rw[arm_eval_Attribute,hb])
end
noncomputable def Ud (K:aa)(ta:TE)(f:Str):TE:=fun σ H Q=>ta σ H fun x H1=>∃ a C dx fs v,x=.ref a/\H1 a=some (.ins C dx fs)/\wJ K C/\tN K C f/\fs.lookup f=some v/\Q v H1
noncomputable def We (K:aa)(ta tv:TE)(f:Str):TS:=fun D σ H=>tv σ H fun y H1=>ta σ H1 fun x H2=>∃ a C dx fs,x=.ref a/\H2 a=some (.ins C dx fs)/\wJ K C/\tN K C f/\fs.length<1000 /\ D.nx σ (upd H2 a (.ins C dx (jR f y fs)))
section
variable {X:Cx}{o e value:Expr}{pos pos' tpos:Pos}{ta tv:TE}
theorem Jk (he:PE X e ta)(hb:gu e f X.env (eval e X.env)=eval e X.env):PE X (.Attribute e f pos) (Ud X.K ta f):=by intro pz s σ H Q I h;refine Fo hb (bF (he pz s σ H _ I h) fun u s1 ⟨x,H1,I1,rx,a,C,dx,fs,v,ex,ea,c,n,l,q⟩=>?_);subst ex;obtain rfl:u=i5 a:=rx;exact SE I1 ea c n l fun u' s2 I2 ru=>⟨v,H1,I2,ru,q⟩
theorem Ld (ha:PE X o ta)(hv:PE X value tv)(hs:my value (some (.Attribute o f pos')) pos.line X.env=pure false):PS X (.Assign [.Attribute o f pos'] value pos) (We X.K ta tv f):=by intro pz s σ H D I h;refine plainObj_wpAny_Assign_Attribute (bF (hv pz s σ H _ I h) fun u s1 ⟨y,H1,I1,ry,q⟩=>bF (ha pz s1 σ H1 _ I1 q) fun ov s2 ⟨x,H2,I2,rx,a,C,dx,fs,ex,ea,c,n,l,q2⟩=>?_) hs;subst ex;obtain rfl:ov=i5 a:=rx;exact S6 I2 ea c n l ry fun s3 I3=>⟨σ,_,I3,q2⟩
theorem Nz {m:Str}{apos:Pos}{args:List Expr}{s:ag}{σ:St}{te:TE}(he:PE X e te)(I:Inv X pz σ H s)(h:te σ H fun x H1=>∃ a C dx fs g,x=.ref a/\H1 a=some (.ins C dx fs)/\wJ X.K C/\GR X.K C m g/\fs.lookup m=none /\∀ s1,Inv X pz σ H1 s1->wpAny (model X.prog X.w) X.A (xo pos (.ref g) [.ref a] (eh pos (aq args X.env)) (pj pos (km [] X.env))) Q X.xe s1)(ht:eval (.Call (.Attribute e m apos) args [] pos) X.env=(do
  let ov <-eval e X.env
  pe apos.atName let(f,first) <-ky [ov] (vg ov m pl)xo pos f first (eh pos (aq args X.env)) (pj pos (km [] X.env)))):wpAny (model X.prog X.w) X.A (eval (.Call (.Attribute e m apos) args [] pos) X.env) Q X.xe s:=by refine xa (pl:=pl) (bF (he pz s σ H _ I h) fun u s1 ⟨x,H1,I1,rx,a,C,dx,fs,g,ex,ea,c,k,l,q⟩=>?_) ht;subst ex;obtain rfl:u=i5 a:=rx;exact EG I1 ea c k l (q s1 I1)
end
end L2
namespace L2
open PySem PySem.Spec PyProof.Rows
structure dM (k:Nat)(A:cp):Prop where
 hd:A.handled=none
 dp:A.depth+3*k+5<recursionLimit
 un:A.units+16*k+200<cLine
variable {k:Nat}
theorem dM.mono {j:Nat}{A:cp}(r:dM k A)(h:j<=k):dM j A:=⟨r.hd,by have:=r.dp;omega,by have:=r.un;omega⟩
theorem dM.deeper {A:cp}(r:dM (k+1) A)(env:Env):dM k (A.deeper env) :=⟨r.hd,by have:=r.dp;show A.depth+1+3*k+5<_;omega,by have:=r.un;show A.units+3+16*k+200<_;omega⟩
variable {C:Addr}{us:List ae}{kw:List (Str×Value)}
theorem RS {A:cp}:(A.under (.builtin "type.__call__" ⟨.ref C::us,kw⟩)).depth=A.depth+1:=by first|rfl|simp [zx,Code.weight,Code.isCreation,Code.isGuard,Code.isCaller,AaI,zy,guardIds]
theorem R6 {A:cp}:(A.under (.builtin "type.__call__" ⟨.ref C::us,kw⟩)).units=A.units+1:=by first|rfl|simp [zx,Code.cUnits,AaI,zy]
theorem dM.make {A:cp}(r:dM (k+1) A)(C:Addr)(us:List ae)(kw:List (Str×Value)):dM k (A.under (.builtin "type.__call__" ⟨.ref C::us,kw⟩)) :=⟨r.hd,by have:=r.dp;rw[RS];omega,by have:=r.un;rw[R6];omega⟩
theorem dM.depth {A:cp}(r:dM k A):A.depth<recursionLimit:=by have:=r.dp;omega
noncomputable def Wy:TA:=fun _ H Q=>Q [] H
noncomputable def Ox (ta:TE)(tr:TA):TA:=fun σ H Q=>ta σ H fun x H1=>tr σ H1 fun xs H2=>Q (x::xs) H2
variable {X:Cx}{es:List Expr}
section
variable {e:Expr}{te:TE}{t:TA}{pos:Pos}
theorem WS:PA X [] Wy:=fun _ _ _ _ H Q I h=>pk ⟨[],H,I,.nil,h⟩
theorem HF (ha:PE X e te)(hr:PA X es t)(hs:aq (e::es) X.env=(false,eval e X.env)::aq es X.env:=by rfl):PA X (e::es) (Ox te t):=by intro pos pz s σ H Q I h;rw[hs];show wpAny _ _ (zu ((false,eval e X.env)::eh pos (aq es X.env))) _ _ s;refine j9 (bF (ha pz s σ H _ I h) fun u s1 ⟨x,H1,I1,r1,q1⟩=>?_);exact bF (hr pos pz s1 σ H1 _ I1 q1) fun us s2 ⟨xs,H2,I2,r2,q2⟩=>⟨x::xs,H2,I2,.cons r1 r2,q2⟩
noncomputable def Vu (t:TA):TE:=fun σ H Q=>t σ H fun xs H1=>xs.length<=sizeLine/\∀ p,H1 p=none->Q (.ref p) (upd H1 p (.tup xs))
noncomputable def Wz (t:TA):TE:=fun σ H Q=>t σ H fun xs H1=>xs.length<=sizeLine/\∀ p,H1 p=none->Q (.ref p) (upd H1 p (.lst xs))
theorem Jd {x1}(h:PA X es t):PE X (.Tuple es x1 pos) (Vu t):=by intro pz s σ H Q I hq;refine wpAny_Tuple_spliced (bF (h pos pz s σ H _ I hq) fun us s1 ⟨xs,H1,I1,r,z,q⟩=>⟨by rw[<-r.length];exact z,?_⟩);have hf:H1 s1.heap.objs.size=none:=I1.bO.fresh (aw _);refine⟨.ref s1.heap.objs.size,upd H1 s1.heap.objs.size (.tup xs),I1.laid (t':=s1.toks) (fun b u e=>aj _ e) (aw _) ?_,rfl,q _ hf⟩;exact⟨z,us,r,pT.new _ _⟩
theorem Ll (h:PA X es t):PE X (.List es pos) (Wz t):=by intro pz s σ H Q I hq;refine wpAny_List_spliced (bF (h pos pz s σ H _ I hq) fun us s1 ⟨xs,H1,I1,r,z,q⟩=>⟨by rw[<-r.length];exact z,?_⟩);have hf:H1 s1.heap.objs.size=none:=I1.bO.fresh (aw _);refine⟨.ref s1.heap.objs.size,upd H1 s1.heap.objs.size (.lst xs),I1.laid (t':=s1.toks) (fun b u e=>aj _ e) (aw _) ?_,rfl,q _ hf⟩;exact⟨z,us,0,r,br _ rfl⟩
end
abbrev Sp:=List V->Hp->VK->XK->Prop
abbrev CY:=List Env->Hp->ag->XK->ae->ag->Prop
structure vF (P:b7)(w:c9)(K:aa)(mg:Str->Option ae)(base:Heap)(A:cp)(outer:List Env)(s:ag)(H:Hp):Prop where
 frames:A.frames=some outer
 mod:Mod K mg base
 bs:∀ b o,base.get? b=some o->s.heap.get? b=some o/\H b=none
 bsz:base.objs.size<=s.heap.objs.size
 mR:s.heap.FunFrames base outer
 frf:∀ b∈tJ outer,H b=none
 bO:iN P w H s.heap
 bare:uq s.gens
inductive CE (outer:List Env)(P:b7)(w:c9)(H:Hp)(s:ag)(Q:VK)(u:ae)(s':ag):Prop |mk (v:V)(H':Hp)(a:s'.os=s.os)(b:uq s'.gens)(c:Un (tJ outer) [] H H' s.heap s'.heap)(d:iN P w H' s'.heap)(r:RelV v u)(q:Q v H')
def CR (CX:CY)(outer:List Env)(P:b7)(w:c9)(H:Hp)(s:ag)(Q:VK)(E:XK)(r:Aaz)(s':ag):Prop :=match r with|.ok (.ret u)=>CE outer P w H s Q u s'|.ok _=>False|.error e=>CX outer H s E e s'
structure fP (P:b7)(w:c9)(K:aa)(mg:Str->Option ae)(base:Heap)(CX:CY)(k:Nat)(f:Addr)(fd:h9)(ps:List Str)(sp:Sp):Prop where
 len:∀ vs H Q E,sp vs H Q E->vs.length=ps.length
 run:∀(A:cp)(outer:List Env)(s:ag)(H:Hp)(args:Args)(us:List ae)(vs:List V)(Q:VK)(E:XK),dM k A->vF P w K mg base A outer s H->z9 s fd args (ps.zip us)->aR vs us->sp vs H Q E ->lz (model P w) A (.call (.ref f) args) (CR CX outer P w H s Q E) s
variable {P:b7}{H:Hp}
theorem vF.make {w:c9}{K:aa}{mg:Str->Option ae}{base:Heap}{A:cp}{outer:List Env}{s:ag}(e:vF P w K mg base A outer s H)(C:Addr)(us:List ae)(kw:List (Str×Value)): vF P w K mg base (A.under (.builtin "type.__call__" ⟨.ref C::us,kw⟩)) outer s H:=⟨by first|exact e.frames|(simpa [zx,Code.envs,zy,pushEnvs]using e.frames),e.mod,e.bs,e.bsz,e.mR,e.frf,e.bO,e.bare⟩
variable {pz:List (Addr×Obj)}{σ:St}{Q:VK}
section
variable {s s':ag}
theorem Inv.S1 (I:Inv X pz σ H s):vF X.prog X.w X.K X.mg X.base X.A X.stack s H :=⟨I.ok.frames,I.ok.mod,I.bs,dg I.ok.bsz I.sz,I.stack,I.RC,I.bO,I.bare⟩
theorem Inv.after {u:ae}(I:Inv X pz σ H s)(h:CE X.stack X.prog X.w H s Q u s'):EP X pz σ Q u s':=by obtain⟨v,H',os,bare,un,bO,r,q⟩:=h;obtain⟨hh,g,d,t,os'⟩:=s';obtain rfl:os'=s.os:=os;exact⟨v,H',I.call (h':=hh) (g':=g) (d':=d) (t':=t) (ch:=[]) un bO bare (fun b z=>absurd z (by simp)),r,q⟩
end
noncomputable def Pp (sp:Sp)(dvs:List V)(E:XK)(t:TA):TE:=fun σ H Q=>t σ H fun vs H1=>sp (vs++dvs) H1 Q E
noncomputable def Rw (C:Addr)(m:Str)(sp:Sp)(dvs:List V)(E:XK)(ta:TE)(t:TA):TE:=fun σ H Q=>ta σ H fun x H1=>∃ a dx fs,x=.ref a/\H1 a=some (.ins C dx fs)/\fs.lookup m=none /\ t σ H1 fun vs H2=>sp (x::(vs++dvs)) H2 Q E
noncomputable def Ra (C:Addr)(sp:Sp)(dvs:List V)(E:XK)(t:TA):TE:=fun σ H Q=>t σ H fun vs H1=>∀ x dx,H1 x=none->H1 dx=none->dx≠x -> sp (.ref x::(vs++dvs)) (upd (upd H1 dx (.own x)) x (.ins C dx [])) (fun v H2=>v=.non/\Q (.ref x) H2) E
def Binds (K:aa)(fd:h9)(ps:List Str)(ds:List ae):Prop :=∀(s:ag)(us:List ae),K.In s.heap->(us++ds).length=ps.length->z9 s fd ⟨us,[]⟩ (ps.zip (us++ds))
theorem Binds.all {K:aa}{fd:h9}{ps:List Str}(h:∀ us:List ae,us.length=ps.length->Zu fd ⟨us,[]⟩=pure (ps.zip us)):Binds K fd ps []:=fun s us _ hl=>by rw[d5]at hl ⊢;exact .of_eq (h us hl)
def qL (CX:CY)(X:Cx)(E:XK):Prop:=∀(pz:List (Addr×Obj))(σ:St)(H:Hp)(s:ag)(e:ae)(s':ag),Inv X pz σ H s->CX X.stack H s E e s'->X.xe e s'
variable {CX:CY}{f:Addr}{vs:List V}
section
variable {fd:h9}{ps:List Str}{sp:Sp}{dvs:List V}{ds:List ae}{E:XK}{x m:Str}{p pos apos:Pos}{e o:Expr}{ta:TE}{t:TA}
theorem XT {s:ag}(F:fP X.prog X.w X.K X.mg X.base CX k f fd ps sp)(hr:dM k X.A)(hb:Binds X.K fd ps ds)(hd:aR dvs ds)(hx:qL CX X E)(I:Inv X pz σ H s)(r:aR vs us)(h:sp (vs++dvs) H Q E):wpAny (model X.prog X.w) X.A (call (.ref f) us) (EP X pz σ Q) X.xe s:=by
 have r2:aR (vs++dvs) (us++ds):=r.append hd;have hl:(us++ds).length=ps.length:=by rw[<-r2.length];exact F.len _ _ _ _ h
 refine wa (l0 (F.run X.A X.stack s H ⟨us,[]⟩ (us++ds) (vs++dvs) Q E hr I.S1 (hb s us I.jS hl) r2 h) fun r s' hq=>?_);cases r with|error e=>exact hx pz σ H s e s' I hq|ok fl =>cases fl with|ret u=>exact I.after hq|next=>exact ek hq|brk=>exact ek hq|cont=>exact ek hq
theorem Fz (F:fP X.prog X.w X.K X.mg X.base CX k f fd ps sp)(hr:dM k X.A)(hg:Gl X x)(hm:X.mg x=some (.ref f))(hk:fx X.K (.ref f)=true)(hb:Binds X.K fd ps ds)(hd:aR dvs ds)(hx:qL CX X E)(ha:PA X (e::es) t)(hdb:(x==("__debug__" : Str))=false:=by decide)(he:aq (e::es) X.env=(false,eval e X.env)::aq es X.env:=by rfl)(dO:(eh pos (aq es X.env)).any (·.1)=false:=by rfl):PE X (.Call (.Name x p) (e::es) [] pos) (Pp sp dvs E t):=by intro pz s σ H Q I h;refine fw (B5 I hg hm ?_ hdb);refine oi (h₀:=X.base) I.ok.mod.kin hk (bF (ha pos pz s σ H _ I h) fun us s1 ⟨vs,H1,I1,r,q⟩=>⟨I1.jS,?_⟩) he dO;exact XT F hr hb hd hx I1 r q
theorem Gd {pl:Sem Bool}(he:PE X o ta)(c:wJ X.K C)(hm:GR X.K C m f)(F:fP X.prog X.w X.K X.mg X.base CX k f fd ps sp)(hr:dM k X.A)(hb:Binds X.K fd ps ds)(hd:aR dvs ds)(hx:qL CX X E)(ha:PA X (e::es) t)(eV:aq (e::es) X.env=(false,eval e X.env)::aq es X.env:=by rfl)(dO:(eh pos (aq es X.env)).any (·.1)=false:=by rfl)(ht:eval (.Call (.Attribute o m apos) (e::es) [] pos) X.env=(do
  let ov <-eval o X.env
  pe apos.atName let(f,first) <-ky [ov] (vg ov m pl)xo pos f first (eh pos (aq (e::es) X.env)) (pj pos (km [] X.env))):=by rfl):PE X (.Call (.Attribute o m apos) (e::es) [] pos) (Rw C m sp dvs E ta t):=by intro pz s σ H Q I h;refine xa (pl:=pl) (bF (he pz s σ H _ I h) fun u s1 ⟨x,H1,I1,rx,a,dx,fs,ex,ea,l,q⟩=>?_) ht;subst ex;obtain rfl:u=i5 a:=rx;refine EG I1 ea c hm l ?_;refine oi (first:=[.ref a]) (h₀:=X.base) I.ok.mod.kin hm.kp (bF (ha pos pz s1 σ H1 _ I1 q) fun us s2 ⟨vs,H2,I2,r,q2⟩=>⟨I2.jS,?_⟩) eV dO;exact XT (us:=.ref a::us) (vs:=.ref a::vs) F hr hb hd hx I2 (.cons rfl r) q2
structure Mk (K:aa)(C f:Addr):Prop where
 makes:w4 K C=true
 init:ff K (.ref C) "__init__" = some (some (.ref f))fn:se K (.ref f)=true
 kp:fx K (.ref C)=true
theorem ZD {s:ag}(M:Mk X.K C f)(F:fP X.prog X.w X.K X.mg X.base CX k f fd ps sp)(hr:dM (k+1) X.A)(hb:Binds X.K fd ps ds)(hd:aR dvs ds)(hx:qL CX X E)(I:Inv X pz σ H s)(r:aR vs us)(h:∀ x dx,H x=none->H dx=none->dx≠x->sp (.ref x::(vs++dvs)) (upd (upd H dx (.own x)) x (.ins C dx [])) (fun v H2=>v=.non/\Q (.ref x) H2) E): wpAny (model X.prog X.w) X.A (call (.ref C) us) (EP X pz σ Q) X.xe s:=by
 have hq:=h (s.heap.objs.size+1) s.heap.objs.size (I.bO.fresh (ur _)) (I.bO.fresh (aw _)) (b9 (gz _));have I2:=Inv.made (C:=C) I;have r2:aR (V.ref (s.heap.objs.size+1)::(vs++dvs)) (i5 (s.heap.objs.size+1)::(us++ds)):=.cons rfl (r.append hd);have hl:(i5 (s.heap.objs.size+1)::us++ds).length=ps.length:=by have e:=r2.length;rw[F.len _ _ _ _ hq]at e;exact e.symm
 refine wa (ZL (f:=f) I.jS M.makes M.init (beq_iff_eq.mp M.fn) (l0 (F.run _ X.stack _ _ ⟨Value.ref (s.heap.objs.size+1)::us,[]⟩ (i5 (s.heap.objs.size+1)::(us++ds)) _ _ E (hr.make C us []) (I2.S1.make C us []) (hb _ (i5 (s.heap.objs.size+1)::us) I2.jS hl) r2 hq) fun r s' hq'=>?_));cases r with|error e=>exact hx pz σ _ _ e s' I2 hq'|ok fl =>cases fl with|ret u =>obtain⟨v,H',I3,rv,ev,q3⟩:=I2.after hq';subst ev;exact⟨rv,⟨V.ref (s.heap.objs.size+1),H',I3,rfl,q3⟩⟩|next=>exact ek hq'|brk=>exact ek hq'|cont=>exact ek hq'
theorem Ds (M:Mk X.K C f)(F:fP X.prog X.w X.K X.mg X.base CX k f fd ps sp)(hr:dM (k+1) X.A)(hg:Gl X x)(hm:X.mg x=some (.ref C))(hb:Binds X.K fd ps ds)(hd:aR dvs ds)(hx:qL CX X E)(ha:PA X (e::es) t)(hdb:(x==("__debug__" : Str))=false:=by decide)(he:aq (e::es) X.env=(false,eval e X.env)::aq es X.env:=by rfl)(dO:(eh pos (aq es X.env)).any (·.1)=false:=by rfl):PE X (.Call (.Name x p) (e::es) [] pos) (Ra C sp dvs E t):=by intro pz s σ H Q I h;refine fw (B5 I hg hm ?_ hdb);refine oi (h₀:=X.base) I.ok.mod.kin M.kp (bF (ha pos pz s σ H _ I h) fun us s1 ⟨vs,H1,I1,r,q⟩=>⟨I1.jS,?_⟩) he dO;exact ZD M F hr hb hd hx I1 r q
end
structure nT (N P:List Str)(sc:Scope):Prop where
 kind:sc.kind=.function
 co:sc.isCoroutine=false
 gen:sc.isGenerator=false
 nd:N.Nodup
 pre:N.take P.length=P
 par:∀ x∈P,sc.names.lookup x=some .local∨sc.names.lookup x=some .cell
 nofree:∀ y∈sc.names,y.2≠.free
theorem J4 {kindOf:Str->Option vh}{x:Str}:∀{binds:List (Str×Value)}{m:Str->Option ae},(∀ v,(x,v)∉binds)->bindL kindOf binds m x=m x
 |[],_,_=>rfl|(n,v)::r,m,h=>by
  unfold bindL;rw[J4 fun w hw=>h w (cq _ hw)];split
  ·have:x≠n:=by rintro rfl;exact h v dh
   simp [this]
  ·rfl
theorem IY {kindOf:Str->Option vh}{x:Str}:∀{binds:List (Str×Value)}{m:Str->Option ae},(∀ v,(x,v)∉binds)->bindC kindOf binds m x=m x
 |[],_,_=>rfl|(n,v)::r,m,h=>by
  unfold bindC;rw[IY fun w hw=>h w (cq _ hw)];split;·rfl
  ·have:x≠n:=by rintro rfl;exact h v dh
   simp [this]
theorem J5 {kindOf:Str->Option vh}{x:Str}{v:ae}:∀{P:List Str}{vs:List ae}{i:Nat}{m:Str->Option ae},P.Nodup->P[i]? = some x->vs[i]? = some v->kindOf x=some .local -> bindL kindOf (P.zip vs) m x=some v|[],_,_,_,_,h,_,_=>by simp at h|_::_,[],_,_,_,_,h,_=>by simp at h|p::P,w::vs,0,m,nd,h1,h2,hk=>by simp at h1 h2;subst h1;subst h2;show bindL kindOf ((p,w)::P.zip vs) m p=_;unfold bindL;rw[J4 fun v hv=>(List.nodup_cons.mp nd).1 (oe hv).1,if_pos hk];simp|p::P,w::vs,i+1,m,nd,h1,h2,hk=>by show bindL kindOf ((p,w)::P.zip vs) m x=_;unfold bindL;exact J5 (i:=i) (List.nodup_cons.mp nd).2 (by simpa using h1) (by simpa using h2) hk
theorem JZ {kindOf:Str->Option vh}{x:Str}{v:ae}:∀{P:List Str}{vs:List ae}{i:Nat}{m:Str->Option ae},P.Nodup->P[i]? = some x->vs[i]? = some v->kindOf x≠some .local -> bindC kindOf (P.zip vs) m x=some v|[],_,_,_,_,h,_,_=>by simp at h|_::_,[],_,_,_,_,h,_=>by simp at h|p::P,w::vs,0,m,nd,h1,h2,hk=>by simp at h1 h2;subst h1;subst h2;show bindC kindOf ((p,w)::P.zip vs) m p=_;unfold bindC;rw[IY fun v hv=>(List.nodup_cons.mp nd).1 (oe hv).1,if_neg hk];simp|p::P,w::vs,i+1,m,nd,h1,h2,hk=>by show bindC kindOf ((p,w)::P.zip vs) m x=_;unfold bindC;exact JZ (i:=i) (List.nodup_cons.mp nd).2 (by simpa using h1) (by simpa using h2) hk
noncomputable def start (N:List Str)(vs:List V):St:=vs.map some++ao (N.length-vs.length) none
noncomputable def fH (CX:CY)(P:b7)(w:c9)(K:aa)(mg:Str->Option ae)(base:Heap)(N:List Str)(qual:Str)(scope:Scope)(f:Addr)(cd:ae)(A:cp)(outer:List Env)(s:ag)(H:Hp)(E:XK):Cx where prog:=P;w:=w;K:=K;mg:=mg;base:=base;A:=A.deeper (nk qual scope s.heap.objs.size f cd);N:=N;s₀:=s;H₀:=H;env:=nk qual scope s.heap.objs.size f cd;outer:=outer;stack:=nk qual scope s.heap.objs.size f cd::outer;ex:=[];calm:=true;fn:=fun _=>true;pn:=[];xe:=fun e s'=>wpAny (model P w) (A.deeper (nk qual scope s.heap.objs.size f cd)) (leaving (nk qual scope s.heap.objs.size f cd) e) (fun _ s''=>CX outer H s E e s'') (fun e' s''=>CX outer H s E e' s'') s'
theorem ND {sc:Scope}{n:Nat}{x:Str}(h:sc.names.lookup x=some .cell):∃ c,(Aau n sc.names []).lookup x=some c:=by have q:=wb sc.names n [] (.inl h);exact Option.isSome_iff_exists.mp q
theorem WG {w:c9}{K:aa}{mg:Str->Option ae}{base:Heap}{N ps:List Str}{qual:Str}{scope:Scope}{cd:ae}{A:cp}{outer:List Env}{s s1:ag}{E:XK}(S:nT N ps scope)(hd:A.handled=none)(e0:vF P w K mg base A outer s H)(hl:vs.length=ps.length)(r:aR vs us)(x:InCallC s s.heap.objs.size (bindL (nk qual scope s.heap.objs.size f cd).kindOf (ps.zip us) fun _=>none) (Aau (s.heap.objs.size+1) scope.names []) (bindC (nk qual scope s.heap.objs.size f cd).kindOf (ps.zip us) fun _=>none) s1): Inv (fH CX P w K mg base N qual scope f cd A outer s H E) [] (start N vs) H s1:=by
 have dO:ps.length<=N.length:=by have:=congrArg Zk S.pre;rw[qf]at this;omega
 obtain⟨h1,tk,rfl,hk⟩:=x.done;have noA:∀ b:Addr,b∉(fH CX P w K mg base N qual scope f cd A outer s H E).ex:=fun b z=>absurd (show b∈([]:List Addr)from z) (by simp);refine⟨⟨e0.mod,S.kind,rfl,rfl,aw _,fun y z c h1 h2=>?_,fun y hy=>?_,fun y c _ h=>?_,fun _=>hd,xp e0.frames,.inr ⟨rfl,rfl⟩,fun b z=>absurd z (noA b),e0.bs,e0.bsz,fun b _ _=>noA b,fun b z=>absurd z (noA b),e0.mR,e0.frf⟩,rfl,e0.bare,Un.kept hk,⟨_,x.toInCall.ns,fun i y v h1 h2 h3=>?_⟩,fun y c h=>⟨_,x.cell y c h⟩,e0.bO.fresh (aw _),fun y c h=>?_,fun p hp=>absurd (show p∈([]:List (Addr×Obj))from hp) (by simp),e0.bO.kept hk,?_⟩;·exact name_of_addr x.apart (i7 h1) (i7 h2)
 ·have hy:scope.names.lookup y=some .cell∨scope.names.lookup y=some .free:=hy;rcases hy with hy|hy;·exact ND hy
  ·exact absurd rfl (S.nofree _ (i7 hy))
 ·exact r8 (x.above y c (i7 h))
 ·have hi:i<vs.length:=by
   unfold start at h2;by_cases hi:i<vs.length;·exact hi
   ·rw[cw (by simpa using hi)]at h2;rw[jw]at h2;split at h2<;>cases h2
  have ha:vs[i]? = some v:=by unfold start at h2;rw[bu (by simpa using hi),bg]at h2;cases e:vs[i]? with|none=>rw[e]at h2;cases h2|some a=>rw[e]at h2;cases h2;rfl
  obtain⟨u,hu,rv⟩:=r.get ha;have hp:ps[i]? = some y:=by rw[<-S.pre,List.getElem?_take_of_lt (by omega)];exact h1
  have ndP:ps.Nodup:=by rw[<-S.pre];exact S.nd.sublist (List.take_sublist _ _)
  refine⟨u,rv,?_⟩;rcases S.par y (bp hp)with k|k;·exact .inl ⟨k,J5 ndP hp hu k⟩
  ·obtain⟨c,e⟩:=ND (n:=s.heap.objs.size+1) k;refine .inr ⟨.inl k,c,e,?_⟩;have q:=x.cell y c e;rw[JZ ndP hp hu (by show scope.names.lookup y≠_;rw[k];decide)]at q;exact q
 ·exact e0.bO.fresh (r8 (x.above y c (i7 h)))
 ·unfold start;show _=N.length;rw[bq,ab,mh];omega
theorem Bq {w:c9}{K:aa}{mg:Str->Option ae}{base:Heap}{name qual:Str}{params:Arguments}{body:List Stmt}{scope:Scope}{dV kV doc pm dC ct oc:ae}{an od:Option Addr}{osl:Array (Option ae)}{N ps:List Str}{sp:Sp}(lk:K.lookup f=some ⟨oc,od,.func (jk name qual params body scope dV kV doc pm an dC ct),osl⟩)(hcd:la K dC qual=true)(S:nT N ps scope)(len:∀ vs H Q E,sp vs H Q E->vs.length=ps.length)(hbody:∀(A:cp)(outer:List Env)(s:ag)(H:Hp)(vs:List V)(Q:VK)(E:XK),dM k (A.deeper (nk qual scope s.heap.objs.size f dC))->sp vs H Q E -> ∃ t,mG (fH CX P w K mg base N qual scope f dC A outer s H E) body t/\t { nx:=fun _ H'=>Q .non H',rt:=Q } (start N vs) H): fP P w K mg base CX (k+1) f (jk name qual params body scope dV kV doc pm an dC ct) ps sp:=by
 refine⟨len,fun A outer s H args us vs Q E hr e0 hb r hsp=>?_⟩;have hl:=len _ _ _ _ hsp;have KX:K.In s.heap:=e0.mod.kin.keeps fun b o e=>(e0.bs b o e).1;have lim:s.heap.NoLimit:=e0.mod.nolimit.keeps fun b o e=>(e0.bs b o e).1;have hkind:∀ y∈ps.zip us,scope.names.lookup y.1=some .local∨(scope.names.lookup y.1=some .cell/\((Aau (s.heap.objs.size+1) scope.names []).lookup y.1).isSome=true):=fun⟨n,v⟩ hy=>by
  rcases S.par n (oe hy).1 with q|q;·exact .inl q
  ·exact .inr ⟨q,wb _ _ _ (.inl q)⟩
 refine codeAny_call_function hr.depth (KX _ _ lk) rfl S.co S.gen rfl (PySem.W.codeRec_of KX hcd) (hb _ _ _ _ ?_);refine wpAny_newFunctionEnv_cells S.kind hkind fun env he s1 x=>?_;subst he;refine⟨lim.keeps x.toInCall.keep,codeAny_func ?_⟩;obtain⟨t,ht,hq⟩:=hbody A outer s H vs Q E (hr.deeper _) hsp;have I:Inv (fH CX P w K mg base N qual scope f dC A outer s H E) [] (start N vs) H s1:=WG S hr.hd e0 hl r x;refine j8 (ht [] s1 (start N vs) H _ I hq) (fun fl s' hs=>?_) fun e s' hs=>hs;have fin:∀{bn:St}{H':Hp}{v:V}{u:ae},Inv (fH CX P w K mg base N qual scope f dC A outer s H E) [] bn H' s'->RelV v u->Q v H'->CE outer P w H s Q u s' :=fun{bn H' v u} J rv q=>⟨v,H',J.os,J.bare,J.base,J.bO,rv,q⟩;cases fl with|ret u =>obtain⟨v,bn,H',J,rv,q⟩:=hs;exact fin J rv q|next =>obtain⟨bn,H',J,q⟩:=hs;exact fin (v:=V.non) (u:=j0) J rfl q|brk =>obtain⟨_,_,_,q⟩:=hs;exact ek q|cont =>obtain⟨_,_,_,q⟩:=hs;exact ek q
end L2
namespace L2
open PySem PySem.Spec PyProof.Rows
section
variable {X:Cx}{x:Str}{p pos:Pos}{e:Expr}{es:List Expr}{t:TA}{id T:String}{r:List V->Hp->VK->Prop}
noncomputable def Mb (r:List V->Hp->VK->Prop)(t:TA):TE:=fun σ H Q=>t σ H fun vs H1=>r vs H1 Q
theorem OE (hc:xC X (.builtin id) r)(hg:Gl X x)(hm:X.mg x=none)(hv:de x=some (.builtin id))(ha:PA X (e::es) t)(hn:x ≠"__name__":=by decide)(hdb:(x==("__debug__" : Str))=false:=by decide)(he:aq (e::es) X.env=(false,eval e X.env)::aq es X.env:=by rfl)(dO:(eh pos (aq es X.env)).any (·.1)=false:=by rfl):PE X (.Call (.Name x p) (e::es) [] pos) (Mb r t):=by intro pz s σ H Q I h;refine fw (mV I hg hm hv ?_ hn hdb);exact PyProof.Rows.callWith_builtin1 (bF (ha pos pz s σ H _ I h) fun us s1 ⟨vs,H1,I1,r1,q1⟩=>hc pz s1 σ H1 vs us Q I1 r1 q1) he dO
theorem X5 (hc:xC X (.type T) r)(hg:Gl X x)(hm:X.mg x=none)(hv:de x=some (.type T))(ha:PA X (e::es) t)(hn:x ≠"__name__":=by decide)(hdb:(x==("__debug__" : Str))=false:=by decide)(he:aq (e::es) X.env=(false,eval e X.env)::aq es X.env:=by rfl)(dO:(eh pos (aq es X.env)).any (·.1)=false:=by rfl):PE X (.Call (.Name x p) (e::es) [] pos) (Mb r t):=by intro pz s σ H Q I h;refine fw (mV I hg hm hv ?_ hn hdb);exact e9 (bF (ha pos pz s σ H _ I h) fun us s1 ⟨vs,H1,I1,r1,q1⟩=>hc pz s1 σ H1 vs us Q I1 r1 q1) he dO
end
end L2
namespace HT
open PySem PyProof.Rows
variable {Q:ae->ag->Prop}{hi:Option Int}
section
variable {prog:b7}{w:c9}{A:cp}{E:ae->ag->Prop}{s:ag}
theorem Fu {t b:Addr}{vs ws:List ae}(ht:IsTup s.heap t vs.toArray)(hb:IsTup s.heap b ws.toArray)(hv:vs≠[])(h1:ws=[]->Q (.ref t) s)(h2:ws≠[]->Q (.ref s.heap.objs.size) { s with heap:=s.heap.push { cls:=.type "tuple", data:=.seq (vs++ws).toArray } })(iS:vs.length+ws.length<=sizeLine):wpAny (model prog w) A (jr .Add (.ref t) (.ref b)) Q E s:=by
 obtain⟨⟨cls,dd,data,sl⟩,ho,hc,n,hd⟩:=id ht;obtain⟨⟨cls2,dd2,data2,sl2⟩,ho2,hc2,n2,hd2⟩:=id hb;simp only at hc hd hc2 hd2;subst hc hd hc2 hd2;have e:vs.toArray++ws.toArray=(vs++ws).toArray:=by simp
 by_cases hw:ws=[];·exact Yj ⟨_,ho,rfl⟩ ⟨_,ho2,rfl⟩ vj yv pw ou (nv _ _) (tuple_addW1 t b vs.toArray ws.toArray n n2 dd dd2 sl sl2 (by simpa using hv) (by simp [hw])) ⟨ho,ho2,h1 hw⟩
 ·refine Yj ⟨_,ho,rfl⟩ ⟨_,ho2,rfl⟩ vj yv pw ou (nv _ _) (tuple_addW2 t b vs.toArray ws.toArray n n2 dd dd2 sl sl2 (by simpa using hv) (by simpa using hw) (by rw[be,be];exact iS)) ⟨ho,ho2,?_⟩;rw[e];exact h2 hw
noncomputable def cS (n d:Nat):Option Int->Nat|none=>d|some v=>if v<0 then(v+(n:Int)).toNat else min v.toNat n
theorem Jr (n d:Nat)(hd:d<=n)(o:Option Int):cS n d o<=n:=by cases o with|none=>exact hd|some v =>
 show(if v<0 then(v+(n:Int)).toNat else min v.toNat n)<=n;by_cases hv:v<0;·rw[if_pos hv];omega
 ·rw[if_neg hv];exact Nat.min_le_right _ _
theorem QU (v:Int)(n d:Nat):(if v<0 then max (v+(n:Int)) 0 else min v (n:Int))=((cS n d (some v):Nat):Int):=by
 show(if v<0 then max (v+(n:Int)) 0 else min v (n:Int))=(((if v<0 then(v+(n:Int)).toNat else min v.toNat n):Nat):Int);by_cases hv:v<0;·simp only[if_pos hv];omega
 ·simp only[if_neg hv];omega
theorem R3 (lo hi:Option Int)(n:Nat):ni lo hi 1 (n:Int)=(((cS n 0 lo:Nat):Int),((cS n n hi:Nat):Int)):=by
 have h1:¬((1:Int)<0):=by omega
 unfold ni;simp only[h1,if_false];refine Prod.ext ?_ ?_;·cases lo with|none=>rfl|some v=>exact QU v n 0
 ·cases hi with|none=>rfl|some v=>exact QU v n n
theorem S9 (i j:Nat):kf (i:Int) (j:Int) 1=j-i:=by
 unfold kf;have h1:(1:Int)>0:=by omega
 simp only[h1,if_true,Int.ediv_one];split<;>omega
theorem FC {v:ae}{o:Option Int}{Q:Option Int->ag->Prop}(p:wc v o)(h:Q o s):wpAny (model prog w) A (Builtin.Slice.slicePartIndex v) Q E s:=by cases p with|none=>exact Zv h|int i t=>exact slicePart_int h
theorem sV {sl:Addr}{vl vu:ae}{lo:Option Int}{n:Nat}{Q:Int×Int×Nat->ag->Prop}(hs:s.heap.IsSliceOf sl vl vu .none)(pl:wc vl lo)(pu:wc vu hi)(h:Q (((cS n 0 lo:Nat):Int),1,cS n n hi-cS n 0 lo) s):wpAny (model prog w) A (tm (.ref sl) (pure (n:Int))) Q E s:=by obtain⟨os,hos,hcs,hds⟩:=id hs;unfold tm Builtin.Slice.sliceFields;refine af (af (kn hos hds (x:=vl) rfl (af (kn hos hds (x:=vu) rfl (af (kn hos hds (x:=.none) rfl (ar ?_)))))));refine af (Zv ?_);show wpAny _ _ (if((1:Int)==0)=true then _ else _) _ _ s;rw[if_neg (by decide)];refine af (FC pl (af (FC pu (af (ar ?_)))));show wpAny _ _ (match ni lo hi 1 (n:Int)with|(lo,hi)=>pure (lo,(1:Int),kf lo hi 1)) _ _ s;rw[R3 lo hi n];show wpAny _ _ (pure (((cS n 0 lo:Nat):Int),(1:Int),kf ((cS n 0 lo:Nat):Int) ((cS n n hi:Nat):Int) 1)) _ _ s;rw[S9];exact ar h
theorem Y4 (xs:Array ae)(i k:Nat):((ay k).filterMap fun(m:Nat)=>xs[((i:Int)+(m:Int)*1).toNat]?).toArray=((xs.toList.drop i).take k).toArray:=by
 have e:(fun(m:Nat)=>xs[((i:Int)+(m:Int)*1).toNat]?)=fun m=>xs[i+m]?:=by
  funext m;have:((i:Int)+(m:Int)*1).toNat=i+m:=by omega
  rw[this]
 rw[e];have:=pick_run xs i k;rw[List.filterMap_map]at this;have e2:((fun x=>xs[x]?)∘fun x=>i+x)=fun m=>xs[i+m]?:=rfl;rw[e2]at this;rw[this]
theorem CS {t sl:Addr}{items:Array ae}{vl vu:ae}{lo:Option Int}(ht:IsTup s.heap t items)(hs:s.heap.IsSliceOf sl vl vu .none)(pl:wc vl lo)(pu:wc vu hi)(hw:¬(cS items.size 0 lo=0/\cS items.size items.size hi=items.size))(h:Q (.ref s.heap.objs.size) { s with heap:=s.heap.push { cls:=.type "tuple", data:=.seq ((items.toList.drop (cS items.size 0 lo)).take (cS items.size items.size hi-cS items.size 0 lo)).toArray } })(iS:items.size<=sizeLine):wpAny (model prog w) A (we (.ref t) (.ref sl)) Q E s:=by
 have htake:sizeOk (.seq ((items.toList.drop (cS items.size 0 lo)).take (cS items.size items.size hi-cS items.size 0 lo)).toArray):=by show((items.toList.drop (cS items.size 0 lo)).take (cS items.size items.size hi-cS items.size 0 lo)).toArray.size<=sizeLine;rw[be,qf,vn,j4];omega
 have hj:cS items.size items.size hi<=items.size:=Jr _ _ (aw _) hi;obtain⟨os,hos,hcs,hds⟩:=id hs;have hTs:s.TypeIs (.ref sl) "slice":=⟨os,hos,hcs⟩;unfold we;try with_reducible refine g7 ?_
 first|refine af (ar ?_)|skip
 refine af (uu ht.typeIs (by decide) ?_);refine af (jx (name:=kq "__getitem__") ht.typeIs jh (gb jh ht.typeIs ym ?_ (zi _ _)));show wpAny _ _ (ig (.ref t) >>= _) _ _ s;refine af (yw ht ?_);refine af (wg hTs ?_);rw[if_pos (by decide)];refine af (sV hs pl pu ?_);have hno:¬((((cS items.size 0 lo:Nat):Int)==0&&(1:Int)==1&&(cS items.size items.size hi-cS items.size 0 lo)==items.size)=true):=by intro q;rw[bc,bc]at q;have q1:((cS items.size 0 lo:Nat):Int)=0:=eq_of_beq q.1.1;have q2:cS items.size items.size hi-cS items.size 0 lo=items.size:=eq_of_beq q.2;exact hw ⟨by omega,by omega⟩
 show wpAny _ _ (if(((cS items.size 0 lo:Nat):Int)==0&&(1:Int)==1&&(cS items.size items.size hi-cS items.size 0 lo)==items.size)=true then _ else _) _ _ s;rw[if_neg hno,Y4];first|exact af (m:=gv _) (ij (ar ⟨_,rfl,ar h⟩) htake)|exact af (m:=gv _) (ij (af (ar (ar ⟨_,rfl,ar h⟩))) htake)|exact af (af (m:=gv _) (ij (ar (ar ⟨_,rfl,ar h⟩)) htake))|exact af (af (m:=gv _) (ij (ar ⟨_,rfl,ar h⟩) htake))
end
end HT
namespace L2
open PySem PySem.Spec PyProof.Rows
abbrev TO:=St->Hp->(Option Int->Hp->Prop)->Prop
def PO (X:Cx)(e:Option Expr)(t:TO):Prop :=∀(pz:List (Addr×Obj))(s:ag)(σ:St)(H:Hp)(Q:Option Int->Hp->Prop),Inv X pz σ H s->t σ H Q ->wpAny (model X.prog X.w) X.A (evalPart e X.env) (fun u s'=>∃ o H',Inv X pz σ H' s'/\wc u o/\Q o H') X.xe s
noncomputable def Fx:TO:=fun _ H Q=>Q none H
noncomputable def Rx (t:TE):TO:=fun σ H Q=>t σ H fun x H1=>∃ i,x=.int i/\Q (some i) H1
variable {r:V->Option Int->Option Int->Hp->VK->Prop}
section
variable {X:Cx}{e:Expr}{te:TE}{lo hi:Option Expr}{tl th:TO}{pos p2:Pos}
theorem Gg:PO X none Fx:=by intro pz s σ H Q I h;rw[evalPart_none];exact ar ⟨none,H,I,.none,h⟩
theorem Cp (h:PE X e te):PO X (some e) (Rx te):=by intro pz s σ H Q I hw;rw[evalPart_some];refine bF (h pz s σ H _ I hw) fun u s1 ⟨x,H1,I1,r1,q1⟩=>?_;obtain⟨i,rfl,q⟩:=q1;obtain⟨t,rfl⟩:=r1;exact⟨some i,H1,I1,.int i t,q⟩
def zO (X:Cx)(r:V->Option Int->Option Int->Hp->VK->Prop):Prop :=∀(pz:List (Addr×Obj))(s:ag)(σ:St)(H:Hp)(x:V)(v vl vu:ae)(lo hi:Option Int)(sl:Addr)(Q:VK),Inv X pz σ H s->RelV x v->s.heap.IsSliceOf sl vl vu .none->wc vl lo->wc vu hi->r x lo hi H Q ->∃ T id,tq (.type T) "__getitem__" = pure (some (.builtin id))/\s.TypeIs v T/\wpAny (model X.prog X.w) X.A (we v (.ref sl)) (EP X pz σ Q) X.xe s
theorem zO.or {r':V->Option Int->Option Int->Hp->VK->Prop}(h:zO X r)(h':zO X r'):zO X (fun x lo hi H Q=>r x lo hi H Q∨r' x lo hi H Q):=by
 intro pz s σ H x v vl vu lo hi sl Q I rx hs pl pu q;rcases q with q|q;·exact h pz s σ H x v vl vu lo hi sl Q I rx hs pl pu q
 ·exact h' pz s σ H x v vl vu lo hi sl Q I rx hs pl pu q
noncomputable def Xz (r:V->Option Int->Option Int->Hp->VK->Prop)(te:TE)(tl th:TO):TE:=fun σ H Q=>te σ H fun x H1=>tl σ H1 fun l H2=>th σ H2 fun u H3=>r x l u H3 Q
theorem Y3 (hr:zO X r)(he:PE X e te)(hl:PO X lo tl)(hu:PO X hi th):PE X (.Subscript e (.Slice lo hi none p2) pos) (Xz r te tl th):=by intro pz s σ H Q I h;refine Subscript_ (bF (he pz s σ H _ I h) fun v s1 ⟨x,H1,I1,r1,q1⟩=>?_);refine wpAny_Slice (bF (hl pz s1 σ H1 _ I1 q1) fun vl s2 ⟨l,H2,I2,pl,q2⟩=>bF (hu pz s2 σ H2 _ I2 q2) fun vu s3 ⟨u,H3,I3,pu,q3⟩=>?_);rw[evalPart_none];refine ar ?_;have I4:Inv X pz σ H3 { s3 with heap:=s3.heap.push { cls:=.type "slice", data:=.fields #[vl,vu,.none] } }:=I3.kept (t':=s3.toks) fun b ob q=>aj _ q;obtain⟨T,id,hT,ht,hg⟩:=hr pz { s3 with heap:=s3.heap.push { cls:=.type "slice", data:=.fields #[vl,vu,.none] } } σ H3 x v vl vu l u s3.heap.objs.size Q I4 r1 (Heap.IsSliceOf.new ..) pl pu q3;show wpAny (model X.prog X.w) X.A (subscriptTail e (.Slice lo hi none p2) v (.ref s3.heap.objs.size)) (EP X pz σ Q) X.xe { s3 with heap:=s3.heap.push { cls:=.type "slice", data:=.fields #[vl,vu,.none] } };exact tail_any (ops:=[.ref s3.heap.objs.size,v]) ht hT hg (by with_unfolding_all rfl)
noncomputable def G8 (xs:List V)(lo hi:Option Int):List V:=(xs.drop (HT.cS xs.length 0 lo)).take (HT.cS xs.length xs.length hi-HT.cS xs.length 0 lo)
theorem C9 (xs:List V)(lo hi:Option Int):(G8 xs lo hi).length<=xs.length:=by unfold G8;rw[qf,vn];omega
def Kt (K:aa):V->Option Int->Option Int->Hp->VK->Prop:=fun x lo hi H Q=>∃ a xs,x=.ref a/\eU K H a xs /\ ¬(HT.cS xs.length 0 lo=0/\HT.cS xs.length xs.length hi=xs.length)/\∀ p,H p=none->Q (.ref p) (upd H p (.tup (G8 xs lo hi)))
theorem MD:zO X (Kt X.K):=by
 intro pz s σ H x v vl vu lo hi sl Q I rx hs pl pu h;obtain⟨a,xs,rfl,hx,hw,q⟩:=h;cases rx;obtain⟨aD,r,ht,hz⟩:=I.tuple hx;have hlen:aD.toArray.size=xs.length:=by rw[be];exact r.length.symm
 refine⟨"tuple", _,PyProof.Rows.slot_tuple_getitem.lookup,ht.typeIs,?_⟩;refine HT.CS ht hs pl pu (by rw[hlen];exact hw) ?_ (by rw[hlen];exact hz);rw[hlen];refine⟨.ref s.heap.objs.size,_,I.laid (t':=s.toks) (o:=.tup (G8 xs lo hi)) (fun b ob q=>aj _ q) (aw _) ?_,rfl,q _ (I.bO.fresh (aw _))⟩;exact⟨Nat.le_trans (C9 xs lo hi) hz,_,(r.drop (HT.cS xs.length 0 lo)).take (HT.cS xs.length xs.length hi-HT.cS xs.length 0 lo),pT.new _ _⟩
noncomputable def Av (K:aa):R2:=fun x y H Q=>∃ a b xs ys,x=.ref a/\y=.ref b/\eU K H a xs/\eU K H b ys/\xs≠[]/\xs.length+ys.length<=sizeLine /\ (ys=[]->Q (.ref a) H)/\(ys≠[]->∀ p,H p=none->Q (.ref p) (upd H p (.tup (xs++ys))))
theorem aR.BK {xs:List V}{us:List ae}(r:aR xs us):us=[]↔xs=[]:=by cases r with|nil=>simp|cons _ _=>simp
theorem Dh:iV X (jr .Add) (Av X.K):=by intro pz s σ H x y v u Q I rx ry h;obtain⟨a,b,xs,ys,rfl,rfl,ha,hb,hx,hz,q1,q2⟩:=h;cases rx;cases ry;obtain⟨aD,r1,p1,_⟩:=I.tuple ha;obtain⟨pF,r2,p2,_⟩:=I.tuple hb;refine HT.Fu p1 p2 (fun z=>hx (r1.BK.mp z)) (fun z=>⟨.ref a,H,I,rfl,q1 (r2.BK.mp z)⟩) (fun z=>?_) (by rw[<-r1.length,<-r2.length];exact hz);refine⟨.ref s.heap.objs.size,_,I.laid (t':=s.toks) (o:=.tup (xs++ys)) (fun b ob q=>aj _ q) (aw _) ?_,rfl,q2 (fun w=>z (r2.BK.mpr w)) _ (I.bO.fresh (aw _))⟩;exact⟨by rw[bq];exact hz,_,r1.append r2,pT.new _ _⟩
end
end L2
namespace L2
open PySem PySem.Spec PyProof.Rows
noncomputable def oB (n:Nat)(i:Int):Option Nat:=if 0<=i then(if i<n then some i.toNat else none)else if -(n:Int)<=i then some (i+n).toNat else none
noncomputable def gP {α:Type}(xs:List α)(i:Int):Option α:=(oB xs.length i).bind fun j=>xs[j]?
theorem QG {n:Nat}{i:Int}{j:Nat}(h:oB n i=some j):seqIndex? i n=some j/\j<n/\-(n:Int)<=i/\i<n:=by
 unfold oB at h;by_cases h0:0<=i
 ·rw[if_pos h0]at h;by_cases h1:i<n;·rw[if_pos h1]at h;have e:i.toNat=j:=c7 h;exact⟨by rw[xq h0 h1,e],by omega,by omega,h1⟩
  ·rw[if_neg h1]at h;cases h
 ·rw[if_neg h0]at h;by_cases h1 : -(n:Int)<=i;·rw[if_pos h1]at h;have e:(i+n).toNat=j:=c7 h;exact⟨by rw[Yk (by omega) h1,e],by omega,h1,by omega⟩
  ·rw[if_neg h1]at h;cases h
variable {xs:List α}
theorem G9 {α:Type}{xs:List α}{i:Int}{v:α}(h:gP xs i=some v):∃ j,seqIndex? i xs.length=some j/\xs[j]? = some v/\j<xs.length/\-(xs.length:Int)<=i/\i<xs.length:=by unfold gP at h;cases e:oB xs.length i with|none=>rw[e]at h;cases h|some j =>rw[e]at h;obtain⟨h1,h2,h3,h4⟩:=QG e;exact⟨j,h1,h,h2,h3,h4⟩
theorem dG {α:Type}{xs:List α}{j:Nat}{v:α}(h:xs[j]? = some v):gP xs (j:Int)=some v:=by
 have hj:j<xs.length:=(List.getElem?_eq_some_iff.mp h).1;have e:oB xs.length (j:Int)=some j:=by unfold oB;rw[if_pos (by omega),if_pos (by omega)];simp
 unfold gP;rw[e];exact h
def wX (b:Expr):Prop:=∀ o i,subscripted b false o i=operate [o,i] (we o i)
def zA (X:Cx)(r:R2):Prop :=∀(value slice:Expr)(pz:List (Addr×Obj))(s:ag)(σ:St)(H:Hp)(x y:V)(v u:ae)(Q:VK),Inv X pz σ H s->RelV x v->RelV y u->r x y H Q ->subscripted slice false v u=operate [v,u] (we v u)->wpAny (model X.prog X.w) X.A (subscriptTail value slice v u) (EP X pz σ Q) X.xe s
def Aw (X:Cx)(id:String)(r:V->List V->Hp->VK->Prop):Prop :=∀(pz:List (Addr×Obj))(s:ag)(σ:St)(H:Hp)(x:V)(xs:List V)(v:ae)(us:List ae)(Q:VK),Inv X pz σ H s->RelV x v->aR xs us->r x xs H Q ->wpAny (model X.prog X.w) X.A (call (.builtin id) (v::us)) (EP X pz σ Q) X.xe s
variable {xs:List V}{pz:List (Addr×Obj)}{σ:St}{H:Hp}{T:String}
section
variable {X:Cx}{a b:Expr}{ta tb:TE}{pos:Pos}
theorem zA.or {r r':R2}(h:zA X r)(h':zA X r'):zA X (fun x y H Q=>r x y H Q∨r' x y H Q):=by
 intro value slice pz s σ H x y v u Q I rx ry q hs;rcases q with q|q;·exact h value slice pz s σ H x y v u Q I rx ry q hs
 ·exact h' value slice pz s σ H x y v u Q I rx ry q hs
theorem Cb {r:R2}(hr:zA X r)(ha:PE X a ta)(hb:PE X b tb)(hs:wX b):PE X (.Subscript a b pos) (Hf r ta tb):=by intro pz s σ H Q I h;exact Subscript_ (Mx ha hb I h fun v u s2 x y H2 I2 rx ry q=>hr a b pz s2 σ H2 x y v u Q I2 rx ry q (hs _ _))
noncomputable def Kc (K:aa):R2:=fun x y H Q=>∃ p xs i v,x=.ref p/\y=.int i/\dA K H p xs/\gP xs i=some v/\Q v H
noncomputable def Ht (K:aa):R2:=fun x y H Q=>∃ p xs i v,x=.ref p/\y=.int i/\eU K H p xs/\gP xs i=some v/\Q v H
noncomputable def Ls:R2:=fun x y H Q=>∃ z i c,x=.str z/\y=.int i/\z.length<=sizeLine/\gP z.cps.toList i=some c/\Q (.str ⟨#[c]⟩) H
theorem Fi:zA X (Kc X.K):=by
 intro value slice pz s σ H x y v u Q I rx ry h hs;obtain⟨p,xs,i,z,rfl,rfl,hq,he,q⟩:=h;cases rx;obtain⟨t,rfl⟩:=ry;obtain⟨aD,r,pl,hz⟩:=I.list hq;obtain⟨j,h1,h2,h3,h4,h5⟩:=G9 he;obtain⟨w,ew,rw'⟩:=r.get h2;have hl:=r.length;have hn:=sS;have fin:EP X pz σ Q w s:=⟨z,H,I,rw',q⟩;by_cases h0:0<=i
 ·have hj:i.toNat=j:=by rw[xq h0 h5]at h1;exact c7 h1
  exact item_listR pl.isList h0 (by omega) (by rw[hj];simpa using ew) fin hs
 ·have hj:(i+(aD.toArray.size:Int)).toNat=j:=by rw[Yk (by omega) h4]at h1;rw[be,<-hl];exact c7 h1
  exact px (x:=w) pl.isList.typeIs slot_list_getitem.lookup (wpAny_getItem_list_neg (Q:=fun r s'=>r=w/\EP X pz σ Q r s') pl.isList (by omega) (by rw[be]<;>omega) (by omega) (by rw[hj];simpa using ew) ⟨rfl,fin⟩) hs
theorem mX:zA X (Ht X.K):=by intro value slice pz s σ H x y v u Q I rx ry h hs;obtain⟨p,xs,i,z,rfl,rfl,hq,he,q⟩:=h;cases rx;obtain⟨t,rfl⟩:=ry;obtain⟨aD,r,pl,hz⟩:=I.tuple hq;obtain⟨j,h1,h2,h3,h4,h5⟩:=G9 he;obtain⟨w,ew,rw'⟩:=r.get h2;have hl:=r.length;have hn:=sS;have fin:EP X pz σ Q w s:=⟨z,H,I,rw',q⟩;exact px (x:=w) pl.typeIs slot_tuple_getitem.lookup (getItem_tuple (j:=j) (Q:=fun r s'=>r=w/\EP X pz σ Q r s') pl (by omega) (by omega) (by rw[be,<-hl];exact h1) (by simpa using ew) ⟨rfl,fin⟩) hs
theorem OB:zA X Ls:=by
 intro value slice pz s σ H x y v u Q I rx ry h hs;obtain⟨z,i,c,rfl,rfl,hz,he,q⟩:=h;obtain⟨t,rfl⟩:=rx;obtain⟨t',rfl⟩:=ry;obtain⟨j,h1,h2,h3,h4,h5⟩:=G9 he;have hl:z.cps.toList.length=z.length:=by simp [kv]
 rw[hl]at h1 h4 h5;have hn:=sS;exact tail_any (typeIs_str s z t) slot_str_getitem.lookup (getItem_str (c:=c) (by have e1:decide (i < -(2 ^ 63:Int))=false:=decide_eq_false (by omega);have e2:decide (i ≥ 2 ^ 63)=false:=decide_eq_false (by omega);rw[e1,e2,yx]) (by rw[h1];simpa using h2) ⟨.str ⟨#[c]⟩,H,I.tok _,⟨_,rfl⟩,q⟩) hs
noncomputable def Tq (K:aa):R2:=fun x y H Q=>Kc K x y H Q∨Ht K x y H Q∨Ls x y H Q
theorem Md:zA X (Tq X.K):=Fi.or (mX.or OB)
theorem S3 (aD:List ae)(n j:Nat)(u:ae):kc (·.setIfInBounds j u) { cls:=.type "list", data:=.seq aD.toArray n } = { cls:=.type "list", data:=.seq (aD.set j u).toArray n }:=by simp [kc]
theorem Inv.lst {s:ag}{p:Addr}(I:Inv X pz σ H s)(h:H p=some (.lst xs)):∃(aD:List ae)(n:Nat),aR xs aD/\s.heap.get? p=some { cls:=.type "list", data:=.seq aD.toArray n }/\xs.length<=sizeLine:=by obtain⟨z,aD,n,r,e⟩:=I.bO p _ h;exact⟨aD,n,r,e,z⟩
theorem Inv.Hz {s:ag}{p:Addr}{ys:List V}{aD mM:List ae}{n n':Nat}{f:Obj->Obj}(I:Inv X pz σ H s)(h:H p=some (.lst xs))(ho:s.heap.get? p=some { cls:=.type "list", data:=.seq aD.toArray n })(hf:f { cls:=.type "list", data:=.seq aD.toArray n } = { cls:=.type "list", data:=.seq mM.toArray n' })(r:aR ys mM)(hz:ys.length<=sizeLine)(t:Nat): Inv X pz σ (upd H p (.lst ys)) { s with heap:=s.heap.update p f,toks:=t }:=by
 have e:(s.heap.update p f).get? p=some { cls:=.type "list", data:=.seq mM.toArray n' }:=by rw[jj f ho (by rw[hf]<;>rfl),hf]
 refine I.write (x:=p) (e:=p) (by rw[h];trivial) (.inl rfl) (fun b u hb q=>(gf _ _ (fj hb)).trans q) ⟨_,e⟩ ?_;exact⟨hz,mM,n',r,e⟩
def Pr:V->V->V->Hp->(Hp->Prop)->Prop:=fun o i v H Q=>∃ p xs k j,o=.ref p/\i=.int k/\H p=some (.lst xs)/\oB xs.length k=some j/\Q (upd H p (.lst (xs.set j v)))
theorem set_list:Iz X Pr:=by
 intro pz s σ H o i v ov iv u Q I ro ri rv h;obtain⟨p,xs,k,j,rfl,rfl,hp,hj,q⟩:=h;cases ro;obtain⟨t,rfl⟩:=ri;obtain⟨aD,n,r,ho,hz⟩:=I.lst hp;obtain⟨h1,h2,h3,h4⟩:=QG hj;have hl:=r.length;have hn:=sS;have I':Inv X pz σ (upd H p (.lst (xs.set j v))) { s with heap:=s.heap.update p (kc (·.setIfInBounds j u)) } :=I.Hz hp ho (S3 aD n j u) (r.set rv j) (by rw[rb];exact hz) s.toks;by_cases h0:0<=k
 ·have hk:k.toNat=j:=by rw[xq h0 h4]at h1;exact c7 h1
  exact PySem.W.ki_setAt ho h0 (by omega) (by rw[be,<-hl];exact h4) (by rw[hk];exact⟨_,I',q⟩)
 ·have hk:(k+(aD.toArray.size:Int)).toNat=j:=by rw[Yk (by omega) h3]at h1;rw[be,<-hl];exact c7 h1
  exact PySem.W.ki_setBack ho (by omega) (by rw[be,<-hl];exact h3) (by omega) (by rw[hk];exact⟨_,I',q⟩)
theorem NV (lo hi:Option Int)(n:Nat):(ow lo hi none n).1=((HT.cS n 0 lo:Nat):Int)/\(ow lo hi none n).2.1=((HT.cS n n hi:Nat):Int)/\(ow lo hi none n).2.2=1:=by
 refine⟨?_,?_,rfl⟩;·cases lo with|none=>simp [ow,HT.cS]|some i =>
  simp only[ow,HT.cS,Yy,show(1:Int)>0 by decide,if_true];by_cases h:i<0;·simp only[h,if_true]<;>omega
  ·simp only[h,if_false]<;>omega
 ·cases hi with|none=>simp [ow,HT.cS]|some i =>
  simp only[ow,HT.cS,Yy,show(1:Int)>0 by decide,if_true];by_cases h:i<0;·simp only[h,if_true]<;>omega
  ·simp only[h,if_false]<;>omega
theorem KW (aD:List ae)(lo hi:Option Int):slicePick aD.toArray lo hi none=((aD.drop (HT.cS aD.length 0 lo)).take (HT.cS aD.length aD.length hi-HT.cS aD.length 0 lo)).toArray:=by obtain⟨h1,h2,h3⟩:=NV lo hi aD.toArray.size;unfold slicePick;rw[h1,h2,h3];simp only[sliceRange_one,pick_run,be]<;>rfl
def Hx (K:aa):V->Option Int->Option Int->Hp->VK->Prop:=fun x lo hi H Q=>∃ a xs,x=.ref a/\dA K H a xs/\∀ p,H p=none->Q (.ref p) (upd H p (.lst (G8 xs lo hi)))
theorem Ej:zO X (Hx X.K):=by intro pz s σ H x v vl vu lo hi sl Q I rx hs pl pu h;obtain⟨a,xs,rfl,hx,q⟩:=h;cases rx;obtain⟨aD,r,ht,hz⟩:=I.list hx;have hlen:=r.length;refine⟨"list", _,slot_list_getitem.lookup,ht.isList.typeIs,?_⟩;refine wpAny_getItem_list_slice ht.isList hs pl pu .none (by simp) ?_ (by rw[be]<;>omega);rw[KW,<-hlen];refine⟨.ref s.heap.objs.size,_,I.laid (t':=s.toks) (o:=.lst (G8 xs lo hi)) (fun b ob q=>aj _ q) (aw _) ?_,rfl,q _ (I.bO.fresh (aw _))⟩;exact⟨Nat.le_trans (C9 xs lo hi) hz,_,0,(r.drop (HT.cS xs.length 0 lo)).take (HT.cS xs.length xs.length hi-HT.cS xs.length 0 lo),br _ rfl⟩
theorem NT:iV X (vf .NotIn) (fun x y H Q=>∃ i j,x=.str i/\y=.str j/\Q (.bl (!(!(ot j i 0 j.length 1).isEmpty))) H):=by intro pz s σ H x y v u Q I rx ry h;obtain⟨i,j,rfl,rfl,q⟩:=h;obtain⟨t,rfl⟩:=rx;obtain⟨t',rfl⟩:=ry;exact notIn_str ⟨.bl _,H,I,rfl,q⟩
theorem NZ:xC X (.type "list") (fun xs H Q=>∃ p ys,xs=[.ref p]/\(dA X.K H p ys∨eU X.K H p ys)/\∀ l,H l=none->Q (.ref l) (upd H l (.lst ys))):=by
 intro pz s σ H xs us Q I r h;obtain⟨p,ys,rfl,hq,q⟩:=h;obtain⟨u,rfl,rx⟩:=vals1 r;cases rx;have fin:∀(aD:List ae),aR ys aD->ys.length<=sizeLine->∀(h':Heap)(c':Nat),(∀ b o',s.heap.get? b=some o'->h'.get? b=some o') -> h'.get? s.heap.objs.size=some { cls:=.type "list", dict:=none,data:=.seq aD.toArray c',slots:=#[] }->EP X pz σ Q (.ref s.heap.objs.size) { s with heap:=h' }:=fun aD r' hz h' c' kp e =>⟨.ref s.heap.objs.size,_,I.laid (t':=s.toks) kp (aw _) (show kT X.prog X.w _ h' _ (.lst ys)from⟨hz,aD,c',r',e⟩),rfl,q _ (I.bO.fresh (aw _))⟩;rcases hq with hq|hq;·obtain⟨aD,r',pl,hz⟩:=I.list hq;have hlen:=r'.length;obtain⟨o,ho,hc,n,hd⟩:=pl.isList;exact call_list_seq p (.inl rfl) ho hc hd (fun h' c' kp e=>fin aD r' hz h' c' kp e) (by simp only[be]<;>omega)
 ·obtain⟨aD,r',pl,hz⟩:=I.tuple hq;have hlen:=r'.length;obtain⟨o,ho,hc,n,hd⟩:=pl;exact call_list_seq p (.inr rfl) ho hc hd (fun h' c' kp e=>fin aD r' hz h' c' kp e) (by simp only[be]<;>omega)
theorem yZ:xC X (.type "tuple") (fun xs H Q=>∃ p ys,xs=[.ref p]/\((dA X.K H p ys/\∀ l,H l=none->Q (.ref l) (upd H l (.tup ys)))∨(eU X.K H p ys/\Q (.ref p) H))):=by
 intro pz s σ H xs us Q I r h;obtain⟨p,ys,rfl,h⟩:=h;obtain⟨u,rfl,rx⟩:=vals1 r;cases rx;rcases h with⟨hq,q⟩|⟨hq,q⟩;·obtain⟨aD,r',pl,hz⟩:=I.list hq;have hlen:=r'.length;refine call_tuple_list pl.isList (fun h' kp=>?_) (by simp only[be]<;>omega);have I1:Inv X pz σ H { s with heap:=h' }:=I.kept (t':=s.toks) kp;have I2:Inv X pz σ (upd H h'.objs.size (.tup ys)) { s with heap:=h'.push { cls:=.type "tuple", data:=.seq aD.toArray } } :=I1.laid (t':=s.toks) (fun b o e=>aj _ e) (aw _) (show kT X.prog X.w _ _ _ (.tup ys)from⟨hz,aD,r',pT.new _ _⟩);exact⟨.ref h'.objs.size,_,I2,rfl,q _ (I1.bO.fresh (aw _))⟩
 ·obtain⟨aD,r',pl,hz⟩:=I.tuple hq;exact call_tuple_same pl ⟨.ref p,H,I,rfl,q⟩
def XB (K:aa)(T:String)(x:V)(H:Hp):Prop:=match x with|.str _=>T ="str"|.int _=>T ="int"|.ref p=>(T ="list" /\ ∃ xs,dA K H p xs)∨(T ="tuple" /\ ∃ o,K.lookup p=some o/\o.cls=.type "tuple" /\ o.dict=none) ∨ (T ="dict" /\ ((∃ iW,H p=some (.dK iW))∨∃ iW,H p=some (.dT iW)))∨(T ="set" /\ ∃ S n,H p=some (.set S n))|_=>False
theorem VD {s:ag}{x:V}{v:ae}(I:Inv X pz σ H s)(r:RelV x v)(ty:XB X.K T x H): s.TypeIs v T/\∀ a,v=.ref a->∃ ob,s.heap.get? a=some ob/\ob.dict=none:=by
 cases x with|str z =>obtain⟨t,rfl⟩:=r;cases (show T ="str" from ty);exact⟨typeIs_str s z t,fun _ e=>nomatch e⟩|int i =>obtain⟨t,rfl⟩:=r;cases (show T ="int" from ty);exact⟨typeIs_int s i t,fun _ e=>nomatch e⟩|ref p =>
  cases r;rcases ty with⟨rfl,xs,hq⟩|⟨rfl,o,hk,hc,hd⟩|⟨rfl,hk⟩|⟨rfl,S,n,hk⟩;·obtain⟨aD,_,pl,_⟩:=I.list hq;refine⟨pl.isList.typeIs,fun a e=>?_⟩;cases e;obtain⟨o,n,e,c,hd,_⟩:=pl;exact⟨o,e,hd⟩
  ·refine⟨⟨o,I.jS p o hk,hc⟩,fun a e=>?_⟩;cases e;exact⟨o,I.jS _ o hk,hd⟩
  ·have z:∃ o,s.heap.get? p=some o/\o.ExactDict:=by
    rcases hk with⟨iW,hk⟩|⟨iW,hk⟩;·obtain⟨_,_,_,_,o,_,_,e,ex,_⟩:=I.bO p _ hk;exact⟨o,e,ex⟩
    ·obtain⟨_,_,_,_,o,_,_,e,ex,_⟩:=I.bO p _ hk;exact⟨o,e,ex⟩
   obtain⟨o,e,ex⟩:=z;refine⟨⟨o,e,ex.1⟩,fun a e2=>?_⟩;cases e2;exact⟨o,e,ex.2.1⟩
  ·obtain⟨o,_,_,_,e,ex,_⟩:=I.bO p _ hk;refine⟨⟨o,e,ex.1⟩,fun a e2=>?_⟩;cases e2;exact⟨o,e,ex.2.1⟩|_=>exact ek ty
noncomputable def Ws (K:aa)(T:String)(r:V->List V->Hp->VK->Prop)(to:TE):TE:=fun σ H Q=>to σ H fun x H1=>XB K T x H1/\r x [] H1 Q
noncomputable def Yg (K:aa)(T:String)(r:V->List V->Hp->VK->Prop)(to:TE)(t:TA):TE:=fun σ H Q=>to σ H fun x H1=>XB K T x H1/\t σ H1 fun xs H2=>r x xs H2 Q
variable {o e:Expr}{es:List Expr}{to:TE}{t:TA}{name:Str}{apos lI:Pos}{id:String}{r:V->List V->Hp->VK->Prop}
theorem Lk (pa:PlainAttrs T)(slot:Slot T name id)(hty:typeOf (.builtin id)=pure (.type "method_descriptor"))(hm:Aw X id r)(ho:PE X o to)(kY:gu o name X.env (eval o X.env)=eval o X.env:=by rfl)(kZ:(apos.endLine==lI.line)=true:=by rfl):PE X (.Call (.Attribute o name apos) [] [] lI) (Ws X.K T r to):=by intro pz s σ H Q I h;refine wpAny_Call_method0_late kY kZ (bF (ho pz s σ H _ I h) fun v s1 ⟨x,H1,I1,r1,ty,q1⟩=>?_);obtain⟨h1,h2⟩:=VD I1 r1 ty;exact⟨T,id,pa,slot,hty,h1,h2,l4 rfl (PySem.evalArgs_none (hm pz s1 σ H1 x [] v [] Q I1 r1 .nil q1))⟩
theorem Th (pa:PlainAttrs T)(slot:Slot T name id)(hty:typeOf (.builtin id)=pure (.type "method_descriptor"))(hm:Aw X id r)(ho:PE X o to)(ha:PA X (e::es) t)(kY:gu o name X.env (eval o X.env)=eval o X.env:=by rfl)(vN:((eh lI (aq (e::es) X.env)).all (fun x=>!x.1)&&(pj lI (km [] X.env)).all (fun x=>x.1.isSome) && decide ((e::es).length+([]:List sh).length+(if([]:List sh).isEmpty then 0 else 1)<30))=true:=by rfl)(kZ:(apos.endLine==lI.line)=true:=by rfl)(hs:aq (e::es) X.env=(false,eval e X.env)::aq es X.env:=by rfl)(tQ:(eh lI (aq es X.env)).any (·.1)=false:=by rfl):PE X (.Call (.Attribute o name apos) (e::es) [] lI) (Yg X.K T r to t):=by intro pz s σ H Q I h;refine wj kY vN kZ rfl (bF (ho pz s σ H _ I h) fun v s1 ⟨x,H1,I1,r1,ty,q1⟩=>?_);obtain⟨h1,h2⟩:=VD I1 r1 ty;refine⟨T,id,pa,slot,hty,h1,h2,?_⟩;have hA:=ha lI pz s1 σ H1 _ I1 q1;rw[hs]at hA ⊢;refine l4 (by show(false||(eh lI (aq es X.env)).any (·.1))=false;rw[tQ]<;>rfl) (qs ?_);exact bF hA fun us s2 ⟨vs,H2,I2,r2,q2⟩=>hm pz s2 σ H2 x vs v us Q I2 r1 r2 q2
end
end L2
namespace L2
open PySem PySem.Spec PyProof.Rows
def Nj (X:Cx)(id:String)(r:V->List V->Hp->VK->Prop):Prop :=∀(pz:List (Addr×Obj))(s:ag)(σ:St)(H:Hp)(x:V)(xs:List V)(v:ae)(us:List ae)(Q:VK),Inv X pz σ H s->RelV x v->aR xs us->r x xs H Q ->wpAny (model X.prog X.w) X.A (call (.builtin id) (v::us)) (EP X pz σ Q) X.xe s
theorem aR.one:∀{x:V}{us:List ae},aR [x] us->∃ u,us=[u]/\RelV x u |_,_,.cons r .nil=>⟨_,rfl,r⟩
theorem aR.zero:∀{us:List ae},aR [] us->us=[] |_,.nil=>rfl
variable {xs:List V}{us:List ae}
theorem aR.dropLast (h:aR xs us):aR xs.dropLast us.dropLast:=by induction h with|nil=>exact .nil|cons r t ih =>cases t with|nil=>exact .nil|cons q t'=>exact .cons r ih
theorem aR.reverse (h:aR xs us):aR xs.reverse us.reverse:=by induction h with|nil=>exact .nil|cons r t ih=>rw[jy,jy];exact aR.append ih (.cons r .nil)
theorem aR.rep {xs:List V}{us:List ae}(h:aR xs us):∀ k:Nat,aR (ao k xs).flatten (ao k us).flatten|0=>.nil|k+1=>by rw[i9,i9,mo,mo];exact aR.append h (aR.rep h k)
theorem SW {α:Type}(l:List α):l.eraseIdx (l.length-1)=l.dropLast:=by induction l with|nil=>rfl|cons a r ih =>cases r with|nil=>rfl|cons b r =>
   have e:(a::b::r).length-1=((b::r).length-1)+1:=by have h1:(a::b::r).length=r.length+2:=rfl;have h2:(b::r).length=r.length+1:=rfl;omega
   rw[e,List.eraseIdx_cons_succ,ih];all_goals rfl
theorem yk (aD:List ae):∀(k:Nat)(acc:List ae),qg (fun x1 x2=>x1++x2) acc.toArray (ao k aD.toArray)=(acc++(ao k aD).flatten).toArray
 |0,acc=>by simp|k+1,acc=>by
  have e:acc.toArray++aD.toArray=(acc++aD).toArray:=by simp
  have e2:(acc++aD)++(ao k aD).flatten=acc++(ao (k+1) aD).flatten:=by rw[i9,mo,p0]
  rw[<-e2,<-yk aD k (acc++aD),<-e,i9,jd]
variable {aD:List ae}
section
variable {X:Cx}{pz:List (Addr×Obj)}{σ:St}{H:Hp}{s:ag}{l b:Addr}{ys zs:List V}
theorem Inv.TN {mM:List ae}{n:Nat}{f:Array ae->Array ae}{t':Nat}(I:Inv X pz σ H s)(hH:H l=some (.lst xs))(e:s.heap.get? l=some { cls:=.type "list", data:=.seq aD.toArray n })(hf:f aD.toArray=mM.toArray)(hv:aR ys mM)(hz:ys.length<=sizeLine):Inv X pz σ (upd H l (.lst ys)) { s with heap:=s.heap.update l (kc f),toks:=t' }:=by have q:=PySem.IsL.update e f;rw[hf]at q;refine I.write (x:=l) (e:=l) (by rw[hH];exact trivial) (.inl rfl) (fun b' u hb hu=>(gf s.heap (kc f) (fj hb)).trans hu) ⟨_,q⟩ ?_;exact⟨hz,mM,_,hv,q⟩
theorem Inv.YM {t':Nat}(I:Inv X pz σ H s)(hv:aR ys aD)(hz:ys.length<=sizeLine):Inv X pz σ (upd H s.heap.objs.size (.lst ys)) { s with heap:=s.heap.push { cls:=.type "list", data:=.seq aD.toArray },toks:=t' } :=I.laid (fun _ _ q=>aj _ q) (aw _) ⟨hz,aD,0,hv,br _ rfl⟩
theorem Inv.fresh (I:Inv X pz σ H s):H s.heap.objs.size=none:=I.bO.fresh (aw _)
theorem Inv.xF (I:Inv X pz σ H s)(hH:H l=some (.lst xs)):xs.length<=sizeLine/\∃(aD:List ae)(n:Nat),aR xs aD/\xs.length=aD.length/\s.heap.get? l=some { cls:=.type "list", data:=.seq aD.toArray n }:=by obtain⟨z,aD,n,r,e⟩:=I.bO l _ hH;exact⟨z,aD,n,r,r.length,e⟩
theorem D4 {n:Nat}(h:n<=sizeLine):eu n=false:=by unfold eu;exact decide_eq_false (by omega)
end
section
variable {X:Cx}
def Dj:V->List V->Hp->VK->Prop:=fun x vs H Q=>∃ l xs y,x=.ref l/\vs=[y]/\H l=some (.lst xs)/\xs.length<sizeLine/\Q .non (upd H l (.lst (xs++[y])))
theorem uA:Nj X "list.append" Dj:=by intro pz s σ H x vs v us Q I rx rv h;obtain⟨l,xs,y,rfl,rfl,hH,hz,q⟩:=h;cases rx;obtain⟨u,rfl,ru⟩:=rv.one;obtain⟨z,aD,n,r,hl,e⟩:=I.xF hH;refine oj F.slot_list_append ⟨_,e,rfl⟩ F.entry_list_append (F.args_list_append_2 _ _) (PySem.list_append l aD.toArray n u (by rw[be];omega)) ⟨e,?_⟩;refine⟨.non,_,I.TN (mM:=aD++[u]) hH e (by simp) (r.append (.cons ru .nil)) ?_,rfl,q⟩;rw[bq,xb];omega
def Ft:V->List V->Hp->VK->Prop:=fun x vs H Q=>∃ l b xs zs,x=.ref l/\vs=[.ref b]/\H l=some (.lst xs)/\H b=some (.lst zs)/\xs.length+zs.length<=sizeLine/\Q .non (upd H l (.lst (xs++zs)))
theorem zQ:Nj X "list.extend" Ft:=by
 intro pz s σ H x vs v us Q I rx rv h;obtain⟨l,b,xs,zs,rfl,rfl,hH,hB,hz,q⟩:=h;cases rx;obtain⟨u,rfl,ru⟩:=rv.one;cases ru;obtain⟨z,aD,n,r,hl,e⟩:=I.xF hH;obtain⟨z2,pF,n2,r2,hl2,e2⟩:=I.xF hB;have iS:aD.toArray.size+pF.toArray.size<=sizeLine:=by rw[be,be];omega
 have hlong:¬(!aD.toArray.isEmpty&&eu (aD.toArray.size+pF.toArray.size))=true:=by rw[D4 iS,cx];exact fv
 refine oj zj ⟨_,e,rfl⟩ yn (xr _ _) (AutoSeq1.list_extend_list_list_0 l aD.toArray n b pF.toArray n2 hlong (by rw[be];omega) (by omega)) ⟨e,e2,?_⟩;refine⟨.non,_,I.TN (mM:=aD++pF) hH e (by simp) (r.append r2) ?_,rfl,q⟩;rw[bq];omega
def Up:V->List V->Hp->VK->Prop:=fun x vs H Q=>∃ l xs y,x=.ref l/\vs=[]/\H l=some (.lst xs)/\xs[xs.length-1]? = some y/\Q y (upd H l (.lst xs.dropLast))
theorem LK:Nj X "list.pop" Up:=by
 intro pz s σ H x vs v us Q I rx rv h;obtain⟨l,xs,y,rfl,rfl,hH,hy,q⟩:=h;cases rx;have hus:=rv.zero;subst hus;obtain⟨z,aD,n,r,hl,e⟩:=I.xF hH;obtain⟨u,hu,ru⟩:=r.get hy;have hy':aD.toArray[aD.toArray.size-1]? = some u:=by show aD.toArray[aD.length-1]? = some u;rw[<-Array.getElem?_toList,<-hl];exact hu
 refine oj F.slot_list_pop ⟨_,e,rfl⟩ F.entry_list_pop (F.args_list_pop_1 _) (MeetsSeq.list_pop_last l aD.toArray n u hy' (by rw[be];omega)) ⟨e,?_⟩;refine⟨y,_,I.TN (mM:=aD.dropLast) hH e ?_ r.dropLast ?_,ru,q⟩;·show aD.toArray.eraseIdxIfInBounds (aD.toArray.size-1)=aD.dropLast.toArray;rw[be,List.eraseIdxIfInBounds_toArray,SW]
 ·rw[List.length_dropLast];omega
noncomputable def Hi:R2:=fun x y H Q=>∃ l b xs zs,x=.ref l/\y=.ref b/\H l=some (.lst xs)/\H b=some (.lst zs)/\xs.length+zs.length<=sizeLine/\∀ p,H p=none->Q (.ref p) (upd H p (.lst (xs++zs)))
theorem Nf:iV X (jr .Add) Hi:=by
 intro pz s σ H x y v u Q I rx ry h;obtain⟨l,b,xs,zs,rfl,rfl,hH,hB,hz,q⟩:=h;cases rx;cases ry;obtain⟨z,aD,n,r,hl,e⟩:=I.xF hH;obtain⟨z2,pF,n2,r2,hl2,e2⟩:=I.xF hB;refine PySem.P.add_list e e2 ?_ (by rw[be,be];omega);have ea:aD.toArray++pF.toArray=(aD++pF).toArray:=by simp
 rw[ea];exact⟨.ref _,_,I.YM (t':=s.toks) (r.append r2) (by rw[bq];omega),rfl,q _ I.fresh⟩
noncomputable def Iv:R2:=fun x y H Q=>∃ l k xs,x=.ref l/\y=.int k/\H l=some (.lst xs)/\-(2 ^ 63)<=k/\k<2 ^ 63/\xs.length*k.toNat<=sizeLine /\ ∀ p,H p=none->Q (.ref p) (upd H p (.lst (ao k.toNat xs).flatten))
theorem len_rep {α:Type}(xs:List α)(k:Nat):(ao k xs).flatten.length=k*xs.length:=by induction k with|zero=>simp|succ k ih=>rw[i9,mo,bq,ih,Nat.succ_mul,Nat.add_comm]
theorem Jh:iV X (jr .Mult) Iv:=by
 intro pz s σ H x y v u Q I rx ry h;obtain⟨l,k,xs,rfl,rfl,hH,h1,h2,hz,q⟩:=h;cases rx;obtain⟨t,rfl⟩:=ry;obtain⟨z,aD,n,r,hl,e⟩:=I.xF hH;have hlen:aD.toArray.size*k.toNat<=sizeLine:=by rw[be,<-hl];exact hz
 have hcap:¬aD.toArray.size*k.toNat>(2 ^ 63-1) / 8:=by
  have:(sizeLine:Nat)<=(2 ^ 63-1) / 8:=by decide
  omega
 have pG:¬(!Builtin.List.listFitsIndex k)=true:=by rw[Zw h1 h2];exact fv
 have hlong:¬eu (aD.toArray.size*k.toNat)=true:=by rw[D4 hlen];exact fv
 have hnew:qg (fun x1 x2=>x1++x2) #[] (ao (if aD.toArray.isEmpty=true then 0 else k.toNat) aD.toArray)=(ao k.toNat aD).flatten.toArray:=by
  have f0:∀ m:Nat,qg (fun x1 x2=>x1++x2) #[] (ao m aD.toArray)=(ao m aD).flatten.toArray:=fun m=>by have:=yk aD m [];rw[av]at this;exact this
  rw[f0];cases aD with|nil=>simp|cons a r'=>rw[if_neg (by simp)]
 refine uc (T :="list") (U :="int") (by decide) ⟨_,e,rfl⟩ (fun s'=>zk s' k t) noFill_list_mul F.fills_int_mul Zl repeat_list F.slot_int_index.lookup (oj Zl (zk s k t) F.entry_int_rmul (F.args_int_rmul_2 _ _) (int___rmul___int_list k t l aD.toArray n) ⟨e,rfl,⟨_,e,rfl⟩,oj F.slot_list_mul ⟨_,e,rfl⟩ F.entry_list_mul (F.args_list_mul_2 _ _) (AutoListH.list___mul___list_int_3 l aD.toArray n k t pG hcap hlong) ⟨e,?_⟩⟩);rw[hnew];exact⟨.ref _,_,I.YM (t':=s.toks) (r.rep k.toNat) (by rw[len_rep,Nat.mul_comm];exact hz),rfl,q _ I.fresh⟩
end
end L2
namespace Att
open PySem PySem.W PySem.Calls PyProof.Rows
variable {P:Params}
theorem EE {h:Heap}:∀(ns:List Int)(vs:List ae),WellAll P h vs (ns.map WData.int)->wm vs ns:=by intro ns;induction ns with|nil =>intro vs w;rw[gg]at w;cases w;exact .nil|cons n ns ih =>intro vs w;rw[bb]at w;cases w with|cons a b =>cases a;exact .cons _ _ (ih _ b)
variable {l:OpenLaw}
theorem WQ {n:Nat}(hn:l.most=some n){h:Heap}{args:List WData}{vals:List ae}(hpre:l.row.toRowW.claim.pre args=true)(hwl:WellAll P h vals args): ∃ a vs ns,vals=[i5 a]/\args=[WData.list (ns.map WData.int)]/\h.get? a=some { cls:=.type "list", data:=.seq vs.toArray }/\wm vs ns/\ns.length<=n:=by
 have hsh:WShape.hasAll [] args [.list .int]=true:=(pre_splitW hpre).1;have hc:l.pre.holds [] { args:=args }=true:=(pre_splitW hpre).2;obtain⟨d,r,rfl,h1,h2⟩:=hasAllW_cons hsh;obtain rfl:=hasAllW_nil h2;obtain⟨xs,rfl,h3⟩:=hasW_list h1;obtain⟨ns,rfl⟩:=items_int h3;have hlen:ns.length<=n:=by
  unfold OpenLaw.pre at hc;have h4:(WTm.not (.lt (.lit (.int (n:Int))) (.len (.arg 0)))).holds [] { args:=[.list (ns.map .int)] }=true:=by have h4:=(holds_andW hc).1;rw[hn]at h4;exact h4
  have h5:=condW_of h4 (w_not (w_lt w_lit (w_len_list (w_arg rfl))));rw[ab]at h5;refine Yz fun q=>?_;have q':(n:Int)<((ns.length:Nat):Int):=by omega
  first|(rw[decide_eq_true q']at h5;exact absurd h5 (by decide))|(simp at h5;omega)
 cases hwl with|cons w1 w2 =>cases w2;cases w1 with|list ho rP=>exact⟨_,_,ns,rfl,rfl,ho,EE ns _ rP,hlen⟩
theorem WA (l:OpenLaw)(args:List WData):l.row.toRowW.claim.post args (.bool true) args=true :=postW_of (r:=l.row.toRowW) (X:=(true==true)) (show WShape.has [] (.bool true) .bool=true by first|rfl|decide|simp [WShape.has,WShape.arms,WShape.armsAll]) (show(WTm.eq .res (.lit (.bool true))).value [] { args:=args,res:=some (.bool true),after:=args }=some (.bool (true==true))from w_eq_bool (w_res rfl) w_lit) rfl
theorem O8 {n:Nat}{q:b7}{loose:List Str}{XP:(Str->Option ae)->Heap->Prop}{YP:c9->Heap->Prop}{d:DefRec}(hn:l.most=some n)(hdf:d.params.defaults=[])(call:∀(w:c9)(s₀ bv:ag)(mg mb:Str->Option ae)(fa:Addr)(o:Obj)(pm cd doc:ae)(a:Addr)(vs:List ae)(ns:List Int),Ground q loose [] XP w s₀ mg mb bv.heap->YP w bv.heap ->bv.heap.get? fa=some o->o.data=.func (docDef d.name d.params d.body d.scope pm cd doc)->bv.heap.CodeRec cd d.name->mg d.name=some (.ref fa) ->bv.heap.get? a=some { cls:=.type "list", data:=.seq vs.toArray }->wm vs ns->ns.length<=n->bv.gens = #[] ->lz (model l.prog w) yl (.call (.ref fa) ⟨[.ref a],[]⟩) (fun r s'=>r=.ok (.ret (.bool true))/\OldK bv.heap s'.heap/\s'.os=bv.os/\uq s'.gens) bv):WalkO q loose XP YP l.row.toRowW d [] (fun f vs=>PySem.call f vs):=by intro w s₀ bv mg mb G Y fa o pm cd doc dV kV ho hd hcd hD hmg hg args vals as hpre hlay hrd hwl hlo;obtain rfl:dV=.none:=Dflts.none hD hdf;obtain rfl:kV=.none:=Dflts.noKw hD;obtain⟨a,vs,ns,rfl,rfl,hobj,hints,hlen⟩:=WQ hn hpre hwl;refine enter_call (l0 (call w s₀ bv mg mb fa o pm cd doc a vs ns G Y ho (fd_plain hd) hcd hmg hobj hints hlen hg) fun r s' hq=>?_);obtain⟨rfl,h2,h3,h4⟩:=hq;exact⟨.inl ⟨.bool true,.bool true,[],rfl,fun _=>rfl,.bool true,WA l _,fun _=>⟨List.Pairwise.nil,fun _ hm=>(nomatch hm)⟩⟩,h2,h3,h4⟩
end Att
namespace L2
open PySem PySem.Spec PyProof.Rows
theorem KR:∀{vs:List ae}{ns:List Int},wm vs ns->aR (ns.map V.int) vs|_,_,.nil=>.nil|_,_,.cons n t h=>.cons ⟨t,rfl⟩ (KR h)
end L2
namespace L2
open PySem PySem.Spec PyProof.Rows
noncomputable def mN (s:Stmt):Arguments:=match s with|.FunctionDef _ a _ _ _ _ _ _ _ _=>a|_=>{ posonlyargs:=[],args:=[],vararg:=none,kwonlyargs:=[],kw_defaults:=[],kwarg:=none,defaults:=[] }
noncomputable def fL (s:Stmt):List Stmt:=match s with|.FunctionDef _ _ b _ _ _ _ _ _ _=>b|_=>[]
noncomputable def bA (s:Stmt):Scope:=match s with|.FunctionDef _ _ _ _ _ _ sc _ _ _=>sc|_=>{ kind:=.function,names:=[],isGenerator:=false,isCoroutine:=false }
noncomputable abbrev dZ:CY:=fun _ _ _ _ _ _=>False
noncomputable abbrev E0:XK:=fun _ _ _=>False
theorem K7 {X:Cx}:qL dZ X E0:=fun _ _ _ _ _ _ _ h=>h.elim
structure AO (K:aa)(x qual:Str)(st:Stmt)(f:Addr)(fd:h9):Prop where
 ex:∃(oc:ae)(od:Option Addr)(kV doc pm:ae)(an:Option Addr)(dC ct:ae)(osl:Array (Option ae)),fd=jk x qual (mN st) (fL st) (bA st) .none kV doc pm an dC ct/\K.lookup f=some ⟨oc,od,.func fd,osl⟩/\la K dC qual=true
 kp:fx K (.ref f)=true
variable {x qual:Str}{st:Stmt}{f:Addr}
section
variable {P:b7}{w:c9}{K:aa}{mg:Str->Option ae}{base:Heap}
theorem AO.ok {fd:h9}{N ps:List Str}{k:Nat}{sp:Sp}(F:AO K x qual st f fd)(S:nT N ps (bA st))(len:∀ vs H Q E,sp vs H Q E->vs.length=ps.length)(hbody:∀(dC:ae)(A:cp)(outer:List Env)(s:ag)(H:Hp)(vs:List V)(Q:VK)(E:XK),dM k (A.deeper (nk qual (bA st) s.heap.objs.size f dC))->sp vs H Q E -> ∃ t,mG (fH dZ P w K mg base N qual (bA st) f dC A outer s H E).jL (fL st) t/\t { nx:=fun _ H'=>Q .non H',rt:=Q } (start N vs) H):fP P w K mg base dZ (k+1) f fd ps sp:=by obtain⟨oc,od,kV,doc,pm,an,dC,ct,osl,rfl,lk,hcd⟩:=F.ex;refine Bq lk hcd S len fun A outer s H vs Q E hr hsp=>?_;obtain⟨t,h,q⟩:=hbody dC A outer s H vs Q E hr hsp;exact⟨t,h.jL,q⟩
theorem AO.binds {fd:h9}{ps:List Str}(F:AO K x qual st f fd)(h:∀(kV doc pm:ae)(an:Option Addr)(dC ct:ae)(us:List ae),us.length=ps.length->Zu (jk x qual (mN st) (fL st) (bA st) .none kV doc pm an dC ct) ⟨us,[]⟩=pure (ps.zip us)):Binds K fd ps []:=by obtain⟨oc,od,kV,doc,pm,an,dC,ct,osl,rfl,lk,hcd⟩:=F.ex;exact .all (h kV doc pm an dC ct)
theorem E9 {oc:ae}{od an:Option Addr}{osl:Array (Option ae)}{kV doc pm dC ct:ae}(l:K.lookup f=some ⟨oc,od,.func (jk x qual (mN st) (fL st) (bA st) .none kV doc pm an dC ct),osl⟩)(c:la K dC qual=true)(k:fx K (.ref f)=true):AO K x qual st f (jk x qual (mN st) (fL st) (bA st) .none kV doc pm an dC ct):=⟨⟨oc,od,kV,doc,pm,an,dC,ct,osl,rfl,l,c⟩,k⟩
end
theorem WH {n:Nat}(h:n<=1000):n<sizeLine:=tu h (by decide)
section
variable {X:Cx}
theorem pv (i:Nat){pos:Pos}(hN:X.N[i]? = some x:=by rfl)(hv:Ax X.env.scope x:=by first|exact Or.inl rfl|exact Or.inr (Or.inl rfl)|exact Or.inr (Or.inr rfl))(hd:(x==("__debug__" : Str))=false:=by decide)(hcd:(x==("__classdict__" : Str))=false:=by decide):PE X (.Name x pos) (YX i):=X6 hN hv hd hcd
end
end L2
end
section
namespace L3
inductive D where |non|bl (b:Bool)|int (i:Int)|str (x:List Nat)|tup (ds:List D)|ref (a:Nat)|dP (ks vs:List D)|bR (ds:List D)|exc (c:Nat)
structure CK where
 c:Nat
 ln:Nat
 col:Nat
 q:List Nat
inductive MO where|lst (ds:List D)|dic (ks vs:List D)/-- an instance of the class of this name: aD attributes -/|ins (c:List Nat)(fs:List (List Nat×D))/-- a dict that is filled: aD keys are tuples of texts and of such tuples -/|tab (ks vs:List D)/-- a def that was made in a def: aD number, what it caught -/|fn (f:Nat)(cs:List D)/-- the table of a code -/|cod (κ:CK)
noncomputable abbrev aB:=Nat->Option MO
noncomputable def put (st:aB)(a:Nat)(o:MO):aB:=fun b=>if b=a then some o else st b
inductive wQ where |add|sub|mul|fdiv|mod|pow
inductive sY where |eq|ne|lt|le|gt|ge|is_|isnot|in_|lS
inductive Ty where |int|str|bool|list|tuple|dict|err (c:Nat)
inductive BI where |len|all|any|max|min|sum|abs|list|tuple|int|str|bool|wY|sorted
inductive MT where |append|extend|pop|index|count|join|split|get|insert|remove
inductive IK where |range|zip|enum|rev|items|keys|values
inductive Ex where|c (d:D)|v (i:Nat)|tup (es:List Ex)|lst (es:List Ex)|bin (op:wQ)(a b:Ex)|neg (a:Ex)|cmp (op:sY)(a b:Ex)|chain (op op':sY)(a b c:Ex)|and_ (a b:Ex)|or_ (a b:Ex)|not_ (a:Ex)|ite (c a b:Ex)|call (f:Nat)(es:List Ex)|bi (f:BI)(es:List Ex)|isi (a:Ex)(ts:List Ty)|cM (m:MT)(o:Ex)(es:List Ex)|ix (a b:Ex)|sl (a:Ex)(lo hi:List Ex)/-- f(g(..)), g what is walked on the spot -/|bit (f:BI)(k:IK)(es:List Ex)|comp (n:Nat)(aL:List Nat)(tg:List Nat)(one:Bool)(k:Option IK)(aD:List Ex)(ifs:List Ex)(elt:Ex)|dic (ks vs:List Ex)/-- o.f of an instance of the class c; C(..), f aD __init__; o.m(..), f the def -/|fld (c f:List Nat)(o:Ex)|mk (c:List Nat)(f:Nat)(es:List Ex)|mcl (c m:List Nat)(f:Nat)(o:Ex)(es:List Ex)/-- {}; k in d; d[k] -/|cv (i:Nat)(es:List Ex)|callL (f:Nat)(es:List Ex)(g:Nat)(aL:List Nat)(κ:CK)|dnew|d1 (k v:Ex)|din (neg:Bool)(k d:Ex)|dix (d k:Ex)
inductive Tg where |nm (i:Nat)|tp (is:List Nat)|ix (o i:Ex)|fl (c f:List Nat)(o:Ex)|dk (o i:Ex)
inductive Sx where|ex (e:Ex)|asg (t:Tg)(e:Ex)|aug (i:Nat)(op:wQ)(e:Ex)|iff (c:Ex)(a b:List Sx)|whl (c:Ex)(b:List Sx)|jA (t:Tg)(k:Option IK)(aD:List Ex)(b:List Sx)|ret (e:Ex)|brk|cnt|pass|rais (c:Nat)(es:List Ex)|tryy (b:List Sx)(c:Nat)(n:Option Nat)(h:List Sx)
structure Fn where
 np:Nat
 nl:Nat
 body:List Sx
structure Prog where fns:Nat->Option Fn/-- class c is class c' or stands under it -/sub:Nat->Nat->Bool
noncomputable abbrev St:=List (Option D)
abbrev VK:=D->aB->Prop
abbrev XK:=Nat->aB->Prop
abbrev bG:=Nat->List D->aB->VK->XK->Prop
noncomputable abbrev bE:Nat:=16777216
noncomputable abbrev iC:Nat:=80
def W (x:String):List Nat:=x.toList.map Char.toNat
def Ext (st aA:aB):Prop:=∀ a o,st a=some o->aA a=some o
def fA (σ:St)(i:Nat)(Q:D->Prop):Prop:=match σ[i]? with|some (some d)=>Q d|_=>False
def rV (σ:St):List Nat->(List D->Prop)->Prop|[],Q=>Q []|i::is,Q=>fA σ i fun d=>rV σ is fun ds=>Q (d::ds)
def A0:D->aB->(Nat->Nat->List D->Prop)->Prop
 |.ref a,st,K=>match st a with|some (.fn f cs)=>K a f cs|_=>False
 |_,_,_=>False
noncomputable def del (st:aB)(a:Nat):aB:=fun b=>if b=a then none else st b
mutual
noncomputable def bT:D->D->Bool|.non,.non=>true|.bl a,.bl b=>a==b|.bl a,.int b=>(if a then 1 else 0)==b|.int a,.bl b=>a==(if b then 1 else 0)|.int a,.int b=>a==b|.str a,.str b=>a==b|.tup as,.tup bs=>gU as bs|_,_=>false
noncomputable def gU:List D->List D->Bool|[],[]=>true|a::as,b::bs=>bT a b&&gU as bs|_,_=>false
end
mutual
noncomputable def bQ:D->Bool|.non=>true|.bl _=>true|.int _=>true|.str _=>true|.tup ds=>cD ds|_=>false
noncomputable def cD:List D->Bool|[]=>true|d::ds=>bQ d&&cD ds
end
mutual
noncomputable def cT:D->Nat|.tup ds=>cX ds+1|_=>0
noncomputable def cX:List D->Nat|[]=>0|d::ds=>max (cT d) (cX ds)end
def plain (d:D):Prop:=bQ d=true/\cT d<=iC
def wO (ds:List D):Prop:=cD ds=true/\cX ds<=iC
noncomputable def Be:Option MO->Bool|some (.lst ds)=>cD ds&&decide (cX ds<=iC)|_=>false
mutual
noncomputable def iB (st:aB):D->Bool|.non=>true|.bl _=>true|.int _=>true|.str _=>true|.tup ds=>iP st ds|.ref a=>Be (st a)|.bR ds=>cD ds&&decide (cX ds<=iC)|_=>false
noncomputable def iP (st:aB):List D->Bool|[]=>true|d::ds=>iB st d&&iP st ds
end
noncomputable def J8:Option MO->Option MO->Bool|some (.lst xs),some (.lst ys)=>gU xs ys|_,_=>false
mutual
noncomputable def bW (st:aB):D->D->Bool|.non,.non=>true|.bl a,.bl b=>a==b|.bl a,.int b=>(if a then 1 else 0)==b|.int a,.bl b=>a==(if b then 1 else 0)|.int a,.int b=>a==b|.str a,.str b=>a==b|.tup as,.tup bs=>kD st as bs|.ref a,.ref b=>J8 (st a) (st b)|.bR xs,.ref b=>J8 (some (.lst xs)) (st b)|.ref a,.bR ys=>J8 (st a) (some (.lst ys))|.bR xs,.bR ys=>gU xs ys|_,_=>false
noncomputable def kD (st:aB):List D->List D->Bool|[],[]=>true|a::as,b::bs=>bW st a b&&kD st as bs|_,_=>false
end
def plainS (st:aB)(d:D):Prop:=iB st d=true/\cT d<=iC
def eF (st:aB)(ds:List D):Prop:=iP st ds=true/\cX ds<=iC
def Bg (x y:D)(st:aB)(P:Bool->Prop):Prop:=plainS st x/\plainS st y/\P (bW st x y)
noncomputable def occurs (x:List Nat):List Nat->Bool|[]=>x.isEmpty|c::r=>x.isPrefixOf (c::r)||occurs x r
def cO (st:aB)(a:Nat)(K:List D->Prop):Prop:=match st a with|some (.lst ds)=>K ds|_=>False
def dJ {α:Type}(o:Option α)(K:α->Prop):Prop:=match o with|some x=>K x|none=>False
def eQ (st:aB)(a:Nat)(K:List D->Prop)(M:List D->List D->Prop):Prop:=match st a with|some (.lst ds)=>K ds|some (.dic ks vs)=>M ks vs|_=>False
def MG:D->D->aB->(Bool->Prop)->Prop|x,.tup ds,st,P=>plainS st x/\eF st ds/\P (ds.any fun d=>bW st d x)|x,.ref a,st,P=>eQ st a (fun ds=>plainS st x/\eF st ds/\P (ds.any fun d=>bW st d x)) fun ks _=>plain x/\wO ks/\P (ks.any fun d=>bT d x)|.str w,.dP ks _,_,P=>P (ks.any fun d=>bT d (.str w))|x,.bR ds,st,P=>plainS st x/\eF st ds/\P (ds.any fun d=>bW st d x)|.str w,.str z,_,P=>P (occurs w z)|_,_,_,_=>False
def yK (f:Int->Int->Bool):D->D->(Bool->Prop)->Prop|.int i,.int j,P=>P (f i j)|_,_,_=>False
noncomputable def yC:D->Bool|.non=>true|_=>false
noncomputable def Y7 (b:Bool):D->Bool|.bl c=>c==b|_=>false
def FU:D->D->(Bool->Prop)->Prop|x,.non,P=>P (yC x)|x,.bl b,P=>P (Y7 b x)|_,_,_=>False
def dU:sY->D->D->aB->(Bool->Prop)->Prop|.eq,x,y,st,P=>Bg x y st P|.ne,x,y,st,P=>Bg x y st fun b=>P (!b)|.lt,x,y,_,P=>yK (fun i j=>decide (i<j)) x y P|.le,x,y,_,P=>yK (fun i j=>decide (i<=j)) x y P|.gt,x,y,_,P=>yK (fun i j=>decide (j<i)) x y P|.ge,x,y,_,P=>yK (fun i j=>decide (j<=i)) x y P|.is_,x,y,_,P=>FU x y P|.isnot,x,y,_,P=>FU x y fun b=>P (!b)|.in_,x,y,st,P=>MG x y st P|.lS,x,y,st,P=>MG x y st fun b=>P (!b)
def pC (i:Int):Prop:=-18446744073709551616<i/\i<18446744073709551616
def iK (ds:List D)(st:aB)(Q:VK):Prop:=ds.length<=bE/\∀ p,st p=none->Q (.ref p) (put st p (.lst ds))
def iY:wQ->D->D->aB->VK->Prop|.add,.int i,.int j,st,Q=>Q (.int (i+j)) st|.add,.str a,.str b,st,Q=>a.length+b.length<=bE/\Q (.str (a++b)) st|.add,.tup a,.tup b,st,Q=>a.length+b.length<=bE/\Q (.tup (a++b)) st|.add,.ref a,.ref b,st,Q=>cO st a fun xs=>cO st b fun ys=>iK (xs++ys) st Q|.sub,.int i,.int j,st,Q=>Q (.int (i-j)) st|.mul,.int i,.int j,st,Q=>(pC i∨pC j)/\Q (.int (i*j)) st|.mul,.ref a,.int k,st,Q=>cO st a fun xs=>xs.length*k.toNat<=bE/\(-9223372036854775808<=k/\k<9223372036854775808)/\iK (ao k.toNat xs).flatten st Q|.mul,.tup xs,.int k,st,Q=>(0<xs.length/\xs.length<=1000/\1<=k/\k<1000)/\Q (.tup (ao k.toNat xs).flatten) st|.fdiv,.int i,.int j,st,Q=>(0<j/\j<1073741824)/\Q (.int (i / j)) st|.mod,.int i,.int j,st,Q=>0<j/\Q (.int (i % j)) st|.pow,.int i,.int j,st,Q=>(0<=j/\j<=1000000/\i.natAbs<18446744073709551616)/\Q (.int (i ^ j.toNat)) st|_,_,_,_,_=>False
def HD:D->aB->VK->Prop|.int i,st,Q=>Q (.int (-i)) st|_,_,_=>False
noncomputable def bY:List (List Nat×D)->List Nat->Option D|[],_=>none|(g,d)::r,f=>if g=f then some d else bY r f
noncomputable def sR (f:List Nat)(d:D):List (List Nat×D)->List (List Nat×D)|[]=>[(f,d)]|(g,x)::r=>if g=f then(g,d)::r else(g,x)::sR f d r
def oS (st:aB)(a:Nat)(K:List Nat->List (List Nat×D)->Prop):Prop:=match st a with|some (.ins c fs)=>K c fs|_=>False
def tabAt (st:aB)(a:Nat)(K:List D->List D->Prop):Prop:=match st a with|some (.tab ks vs)=>K ks vs|_=>False
def rK (c f:List Nat):D->aB->VK->Prop|.ref a,st,Q=>oS st a fun c' fs=>c'=c/\dJ (bY fs f) fun d=>Q d st|_,_,_=>False
def FL (c f:List Nat)(v:D):D->aB->(aB->Prop)->Prop|.ref a,st,Q=>oS st a fun c' fs=>c'=c/\fs.length<900/\Q (put st a (.ins c (sR f v fs)))|_,_,_=>False
mutual
noncomputable def jO:D->Bool|.str _=>true|.bl _=>true|.tup ds=>jW ds|_=>false
noncomputable def jW:List D->Bool|[]=>true|d::ds=>jO d&&jW ds
end
def keyed:D->Prop|.tup ds=>jW ds=true/\cX ds<=7|_=>False
noncomputable def lP:List D->List D->D->Option D|k::ks,v::vs,x=>if bT k x then some v else lP ks vs x|_,_,_=>none
def yQ (x:D):D->aB->(Bool->Prop)->Prop|.ref a,st,P=>tabAt st a fun ks _=>keyed x/\P (ks.any fun k=>bT k x)|_,_,_=>False
def tF (x:D):D->aB->VK->Prop|.ref a,st,Q=>tabAt st a fun ks vs=>keyed x/\dJ (lP ks vs x) fun d=>Q d st|_,_,_=>False
def zU (x v:D):D->aB->(aB->Prop)->Prop|.ref a,st,Q=>tabAt st a fun ks vs=>keyed x/\(ks.any fun k=>bT k x)=false/\ks.length<10000/\Q (put st a (.tab (ks++[x]) (vs++[v])))|_,_,_=>False
def HI (c m:List Nat):D->aB->Prop|.ref a,st=>oS st a fun c' fs=>c'=c/\bY fs m=none|_,_=>False
def fB:D->aB->(Bool->Prop)->Prop|.non,_,P=>P false|.bl b,_,P=>P b|.int i,_,P=>P (i != 0)|.str x,_,P=>x.length<=bE/\P (!x.isEmpty)|.tup ds,_,P=>P (!ds.isEmpty)|.ref a,st,P=>eQ st a (fun ds=>P (!ds.isEmpty)) fun ks _=>P (!ks.isEmpty)|.bR ds,_,P=>P (!ds.isEmpty)|_,_,_=>False
def jX (sub:Nat->Nat->Bool):D->aB->Ty->(Bool->Prop)->Prop|.non,_,_,P=>P false|.bl _,_,.bool,P=>P true|.bl _,_,.int,P=>P true|.bl _,_,_,P=>P false|.int _,_,.int,P=>P true|.int _,_,_,P=>P false|.str _,_,.str,P=>P true|.str _,_,_,P=>P false|.tup _,_,.tuple,P=>P true|.tup _,_,_,P=>P false|.ref a,st,.list,P=>eQ st a (fun _=>P true) fun _ _=>P false|.ref a,st,.dict,P=>eQ st a (fun _=>P false) fun _ _=>P true|.ref a,st,_,P=>eQ st a (fun _=>P false) fun _ _=>P false|.bR _,_,.list,P=>P true|.bR _,_,_,P=>P false|.exc c,_,.err c',P=>P (sub c c')|_,_,_,_=>False
def xG (sub:Nat->Nat->Bool)(d:D)(st:aB):List Ty->(Bool->Prop)->Prop|[],_=>False|[t],P=>jX sub d st t P|t::u::ts,P=>jX sub d st t fun b=>if b=true then P true else xG sub d st (u::ts) P
noncomputable def oB (n:Nat)(i:Int):Option Nat:=if 0<=i then(if i<n then some i.toNat else none)else if -(n:Int)<=i then some (i+n).toNat else none
noncomputable def gP {α:Type}(xs:List α)(i:Int):Option α:=(oB xs.length i).bind fun j=>xs[j]?
noncomputable def xP:List D->List D->D->Option D|k::ks,v::vs,x=>if bT k x then some v else xP ks vs x|_,_,_=>none
def mY:D->D->aB->VK->Prop|.tup ds,.int i,st,Q=>dJ (gP ds i) fun d=>Q d st|.bR ds,.int i,st,Q=>dJ (gP ds i) fun d=>Q d st|.str z,.int i,st,Q=>z.length<=bE/\dJ (gP z i) fun c=>Q (.str [c]) st|.dP ks vs,.str w,st,Q=>dJ (xP ks vs (.str w)) fun d=>Q d st|.ref a,y,st,Q=>eQ st a (fun ds=>match y with|.int i=>dJ (gP ds i) fun d=>Q d st|_=>False) fun ks vs=>plain y/\wO ks/\dJ (xP ks vs y) fun d=>Q d st|_,_,_,_=>False
noncomputable def cS (n d:Nat):Option Int->Nat|none=>d|some v=>if v<0 then(v+(n:Int)).toNat else min v.toNat n
noncomputable def cut {α:Type}(xs:List α)(lo hi:Option Int):List α:=(xs.drop (cS xs.length 0 lo)).take (cS xs.length xs.length hi-cS xs.length 0 lo)
def qB:List D->(Option Int->Prop)->Prop|[],P=>P none|[.int i],P=>P (some i)|_,_=>False
def FY:D->Option Int->Option Int->aB->VK->Prop|.tup ds,lo,hi,st,Q=>Q (.tup (cut ds lo hi)) st|.ref a,lo,hi,st,Q=>cO st a fun ds=>∀ p,st p=none->Q (.ref p) (put st p (.lst (cut ds lo hi)))|_,_,_,_,_=>False
def eR:D->aB->(List Nat->List D->Prop)->Prop|.tup ds,_,K=>K [] ds|.ref a,st,K=>cO st a fun ds=>K [a] ds|.bR ds,_,K=>K [] ds|_,_,_=>False
def pY:D->aB->(List Nat->List D->Prop)->Prop|.tup ds,_,K=>K [] ds|.str x,_,K=>x.length<=bE/\K [] (x.map fun c=>.str [c])|.ref a,st,K=>cO st a fun ds=>K [a] ds|.bR ds,_,K=>K [] ds|_,_,_=>False
noncomputable def zip2:List D->List D->List D|x::xs,y::ys=>.tup [x,y]::zip2 xs ys|_,_=>[]
noncomputable def nH:Nat->List D->List D|_,[]=>[]|i,x::xs=>.tup [.int i,x]::nH (i+1) xs
noncomputable def jE (lo:Int)(n:Nat):List D:=(ay n).map fun k=>.int (lo+(k:Nat))
noncomputable def En (hi:Int)(n:Nat):List D:=(ay n).map fun k=>.int (hi-(k:Nat))
def gF (i:Int):Prop:=-4611686018427387904<=i/\i<4611686018427387904
def gZ:Option IK->List D->aB->(List Nat->List D->Prop)->Prop|none,[x],st,P=>pY x st P|some .range,[.int j],_,P=>gF j/\P [] (jE 0 j.toNat)|some .range,[.int i,.int j],_,P=>gF i/\gF j/\P [] (jE i (j-i).toNat)|some .range,[.int i,.int j,.int c],_,P=>c = -1/\gF i/\gF j/\P [] (En i (i-j).toNat)|some .zip,[.ref a,.ref b],st,P=>cO st a fun xs=>cO st b fun ys=>P [a,b] (zip2 xs ys)|some .enum,[.ref a],st,P=>cO st a fun xs=>P [a] (nH 0 xs)|some .rev,[x],st,P=>eR x st fun as xs=>P as xs.reverse|_,_,_,_=>False
noncomputable def boolsOf:List D->Option (List Bool)|[]=>some []|.bl b::r=>(boolsOf r).map (b :: ·)|_=>none
noncomputable def intsOf:List D->Option (List Int)|[]=>some []|.int i::r=>(intsOf r).map (i :: ·)|_=>none
def rG:D->aB->(Nat->Prop)->Prop|.tup ds,_,P=>P ds.length|.str x,_,P=>x.length<=bE/\P x.length|.ref a,st,P=>eQ st a (fun ds=>P ds.length) fun ks _=>P ks.length|.bR ds,_,P=>P ds.length|_,_,_=>False
noncomputable def Kx:Int->List Int->Int|m,[]=>m|m,i::r=>Kx (if i>m then i else m) r
noncomputable def Nm:Int->List Int->Int|m,[]=>m|m,i::r=>Nm (if i<m then i else m) r
def fK:BI->List D->aB->VK->Prop
 |.all,xs,st,Q=>dJ (boolsOf xs) fun bs=>Q (.bl (bs.all id)) st|.any,xs,st,Q=>dJ (boolsOf xs) fun bs=>Q (.bl (bs.any id)) st|.max,xs,st,Q=>dJ (intsOf xs) fun is=>match is with|i::r=>Q (.int (Kx i r)) st|[]=>False
 |.min,xs,st,Q=>dJ (intsOf xs) fun is=>match is with|i::r=>Q (.int (Nm i r)) st|[]=>False
 |.sum,xs,st,Q=>dJ (intsOf xs) fun is=>Q (.int is.sum) st|.list,xs,st,Q=>iK xs st Q|.tuple,xs,st,Q=>xs.length<=bE/\Q (.tup xs) st|_,_,_,_=>False
noncomputable def strsOf:List D->Option (List (List Nat))|[]=>some []|.str w::r=>(strsOf r).map (w :: ·)|_=>none
noncomputable def AF:List (List Nat)->List (List Nat)->Nat|_,[]=>0|seen,w::r=>(if seen.any (·== w)then 0 else 1)+AF (seen++[w]) r
def iU:BI->List D->aB->VK->Prop|.len,[d],st,Q=>rG d st fun n=>Q (.int (n:Nat)) st|.wY,[.tup ds],st,Q=>dJ (strsOf ds) fun ws=>ws.length<4000/\Q (.int (AF [] ws:Nat)) st|.max,[.int i,.int j],st,Q=>Q (.int (if j>i then j else i)) st|.min,[.int i,.int j],st,Q=>Q (.int (if j<i then j else i)) st|.abs,[.int i],st,Q=>Q (.int (if i<0 then -i else i)) st|.int,[.int i],st,Q=>Q (.int i) st|.int,[.bl b],st,Q=>Q (.int (if b then 1 else 0)) st|.bool,[.int i],st,Q=>Q (.bl (i != 0)) st|.bool,[.bl b],st,Q=>Q (.bl b) st|f,[d],st,Q=>eR d st fun _ xs=>fK f xs st Q|_,_,_,_=>False
def AQ:D->aB->(List D->Prop)->Prop|.tup ds,_,K=>K ds|.ref a,st,K=>cO st a K|_,_,_=>False
noncomputable def findD (st:aB)(d:D):List D->Option Nat|[]=>none|e::r=>if bW st e d=true then some 0 else(findD st d r).map (·+ 1)
def lK:MT->D->List D->aB->VK->Prop|.append,.ref a,[d],st,Q=>cO st a fun xs=>xs.length<bE/\Q .non (put st a (.lst (xs++[d])))|.extend,.ref a,[d],st,Q=>cO st a fun xs=>AQ d st fun ys=>xs.length+ys.length<=bE/\Q .non (put st a (.lst (xs++ys)))|.pop,.ref a,[],st,Q=>cO st a fun xs=>dJ (xs[xs.length-1]?) fun d=>Q d (put st a (.lst xs.dropLast))|.index,x,[d],st,Q=>eR x st fun _ ds=>plainS st d/\eF st ds/\dJ (findD st d ds) fun i=>Q (.int (i:Nat)) st|_,_,_,_,_=>False
def AZ:MT->D->aB->Prop|.append,.ref a,st=>cO st a fun _=>True|.extend,.ref a,st=>cO st a fun _=>True|.pop,.ref a,st=>cO st a fun _=>True|.index,x,st=>eR x st fun _ _=>True|_,_,_=>False
def lM:Bool->List Nat->D->St->(St->Prop)->Prop|true,[i],x,σ,P=>P (σ.set i (some x))|false,is,.tup ds,σ,P=>ds.length=is.length/\P ((is.zip ds).foldl (fun σ p=>σ.set p.1 (some p.2)) σ)|_,_,_,_,_=>False
def kM (g:aB->Prop)(turn:D->aB->(Option D->aB->Prop)->Prop):List D->List D->aB->(List D->aB->Prop)->Prop|[],acc,st,R=>g st/\R acc st|x::xs,acc,st,R=>g st/\acc.length<bE/\turn x st fun o aA=>kM g turn xs (match o with|none=>acc|some d=>acc++[d]) aA R
def same (as:List Nat)(st aA:aB):Prop:=∀ a∈as,aA a=st a
mutual
def aG (C:bG)(sub:Nat->Nat->Bool)(E:XK):Ex->St->aB->VK->Prop|.c d,_,st,Q=>Q d st|.v i,σ,st,Q=>fA σ i fun d=>Q d st|.tup es,σ,st,Q=>bM C sub E es σ st fun ds aA=>Q (.tup ds) aA|.lst es,σ,st,Q=>bM C sub E es σ st fun ds aA=>iK ds aA Q|.bin op a b,σ,st,Q=>aG C sub E a σ st fun x aC=>aG C sub E b σ aC fun y aF=>iY op x y aF Q|.neg a,σ,st,Q=>aG C sub E a σ st fun x aC=>HD x aC Q|.cmp op a b,σ,st,Q=>aG C sub E a σ st fun x aC=>aG C sub E b σ aC fun y aF=>dU op x y aF fun k=>Q (.bl k) aF|.chain op op' a b c,σ,st,Q=>aG C sub E a σ st fun x aC=>aG C sub E b σ aC fun y aF=>dU op x y aF fun k =>if k=true then aG C sub E c σ aF fun z aX=>dU op' y z aX fun k=>Q (.bl k) aX else Q (.bl false) aF|.and_ a b,σ,st,Q=>aG C sub E a σ st fun x aC=>fB x aC fun k=>if k=true then aG C sub E b σ aC Q else Q x aC|.or_ a b,σ,st,Q=>aG C sub E a σ st fun x aC=>fB x aC fun k=>if k=true then Q x aC else aG C sub E b σ aC Q|.not_ a,σ,st,Q=>aG C sub E a σ st fun x aC=>fB x aC fun k=>Q (.bl (!k)) aC|.ite c a b,σ,st,Q=>aG C sub E c σ st fun x aC=>fB x aC fun k=>if k=true then aG C sub E a σ aC Q else aG C sub E b σ aC Q|.call f es,σ,st,Q=>bM C sub E es σ st fun ds aA=>C f ds aA Q E|.bi f es,σ,st,Q=>bM C sub E es σ st fun ds aA=>iU f ds aA Q|.isi a ts,σ,st,Q=>aG C sub E a σ st fun x aC=>xG sub x aC ts fun k=>Q (.bl k) aC|.cM m o es,σ,st,Q=>aG C sub E o σ st fun x aC=>AZ m x aC/\bM C sub E es σ aC fun ds aF=>lK m x ds aF Q|.ix a b,σ,st,Q=>aG C sub E a σ st fun x aC=>aG C sub E b σ aC fun y aF=>mY x y aF Q|.sl a lo hi,σ,st,Q=>aG C sub E a σ st fun x aC=>bM C sub E lo σ aC fun ls aF=>qB ls fun l=>bM C sub E hi σ aF fun hs aX=>qB hs fun h=>FY x l h aX Q|.bit f k es,σ,st,Q=>bM C sub E es σ st fun ds aC=>gZ (some k) ds aC fun _ xs=>fK f xs aC Q|.comp n aL tg one k aD ifs elt,σ,st,Q=>bM C sub E aD σ st fun ds aC=>gZ k ds aC fun as xs =>kM (same as aC) (fun x aF K=>lM one tg x (ao n none++aL.map fun i=>(σ[i]?).getD none) fun bn =>iZ C sub E ifs bn aF fun b aX=>if b=true then aG C sub E elt bn aX fun d cG=>K (some d) cG else K none aX) xs [] aC fun ds cW=>iK ds cW Q|.dic _ _,_,_,_=>False|.fld c f o,σ,st,Q=>aG C sub E o σ st fun x aC=>rK c f x aC Q|.mk c f es,σ,st,Q=>bM C sub E es σ st fun ds aC=>∀ p,aC p=none->C f (.ref p::ds) (put aC p (.ins c [])) (fun d aF=>d=.non/\Q (.ref p) aF) E|.mcl c m f o es,σ,st,Q=>aG C sub E o σ st fun x aC=>HI c m x aC/\bM C sub E es σ aC fun ds aF=>C f (x::ds) aF Q E|.cv i es,σ,st,Q=>fA σ i fun d=>A0 d st (fun _ _ _=>True)/\bM C sub E es σ st fun ds aA=>A0 d aA fun a f cs=>C f (cs++ds) (del aA a) (fun d2 aF=>Q d2 (put aF a (.fn f cs))) (fun c aF=>E c (put aF a (.fn f cs)))|.callL f es g aL κ,σ,st,Q=>bM C sub E es σ st fun ds aC=>(∃ P,aC P=some (.cod κ))/\rV σ aL fun cs=>∀ a,aC a=none->C f (ds++[.ref a]) (put aC a (.fn g cs)) (fun d aF=>Q d (del aF a)) (fun c aF=>E c (del aF a))|.dnew,σ,st,Q=>∀ p,st p=none->Q (.ref p) (put st p (.tab [] []))|.d1 k v,σ,st,Q=>∀ p,st p=none->aG C sub E k σ (put st p (.tab [] [])) fun x aC=>aG C sub E v σ aC fun y aF=>zU x y (.ref p) aF fun aX=>Q (.ref p) aX|.din neg k d,σ,st,Q=>aG C sub E k σ st fun x aC=>aG C sub E d σ aC fun y aF=>yQ x y aF fun b=>Q (.bl (if neg=true then !b else b)) aF|.dix d k,σ,st,Q=>aG C sub E d σ st fun y aC=>aG C sub E k σ aC fun x aF=>tF x y aF Q
def bM (C:bG)(sub:Nat->Nat->Bool)(E:XK):List Ex->St->aB->(List D->aB->Prop)->Prop|[],_,st,Q=>Q [] st|e::es,σ,st,Q=>aG C sub E e σ st fun d aA=>bM C sub E es σ aA fun ds aV=>Q (d::ds) aV/-- all tests, one after another -/def iZ (C:bG)(sub:Nat->Nat->Bool)(E:XK):List Ex->St->aB->(Bool->aB->Prop)->Prop|[],_,st,Q=>Q true st|e::es,σ,st,Q=>aG C sub E e σ st fun d aA=>fB d aA fun k=>if k=true then iZ C sub E es σ aA Q else Q false aA
end
structure gN where
 nx:St->aB->Prop
 rt:D->aB->Prop
 bk:St->aB->Prop
 ct:St->aB->Prop
 ex:Nat->St->aB->Prop
def notRef:D->Prop|.ref _=>False|_=>True
def DG:D->D->D->aB->(aB->Prop)->Prop|.ref a,.int k,v,st,Q=>cO st a fun xs=>dJ (oB xs.length k) fun j=>Q (put st a (.lst (xs.set j v)))|_,_,_,_,_=>False
def oF (C:bG)(sub:Nat->Nat->Bool)(E:XK):Tg->D->St->aB->(St->aB->Prop)->Prop|.nm i,d,σ,st,Q=>Q (σ.set i (some d)) st|.tp is,d,σ,st,Q=>lM false is d σ fun bn=>Q bn st|.ix o i,d,σ,st,Q=>aG C sub E o σ st fun x aC=>aG C sub E i σ aC fun y aF=>DG x y d aF fun aX=>Q σ aX|.fl c f o,d,σ,st,Q=>aG C sub E o σ st fun x aC=>FL c f d x aC fun aF=>Q σ aF|.dk o i,d,σ,st,Q=>aG C sub E o σ st fun x aC=>aG C sub E i σ aC fun y aF=>zU y d x aF fun aX=>Q σ aX
def BE (g:aB->Prop)(turn:D->(St->aB->Prop)->St->aB->Prop)(N:St->aB->Prop):List D->St->aB->Prop|[],σ,st=>g st/\N σ st|x::xs,σ,st=>g st/\turn x (BE g turn N xs) σ st
def qH (turn:(St->aB->Prop)->St->aB->Prop):Nat->St->aB->Prop|0,_,_=>False|n+1,σ,st=>turn (qH turn n) σ st
noncomputable def GX (n:Option Nat)(o:Option D)(σ:St):St:=match n with|some i=>σ.set i o|none=>σ
noncomputable def Vx (sub:Nat->Nat->Bool)(c:Nat)(n:Option Nat)(P:gN)(h:gN->St->aB->Prop):gN :=⟨P.nx,P.rt,P.bk,P.ct,fun c' bn aA=>if sub c' c=true then h ⟨fun cr aF=>P.nx (GX n none cr) aF,P.rt,fun _ _=>False,fun _ _=>False,fun _ _ _=>False⟩ (GX n (some (.exc c')) bn) aA else P.ex c' bn aA⟩
noncomputable def OQ:bG:=fun _ _ _ _ _=>False
mutual
def wpS (C:bG)(sub:Nat->Nat->Bool):Sx->gN->St->aB->Prop|.ex e,P,σ,st=>aG C sub (fun c aA=>P.ex c σ aA) e σ st fun _ aA=>P.nx σ aA|.asg t e,P,σ,st=>aG C sub (fun c aA=>P.ex c σ aA) e σ st fun d aA=>oF C sub (fun c aA=>P.ex c σ aA) t d σ aA P.nx|.aug i op e,P,σ,st=>fA σ i fun x=>aG C sub (fun c aA=>P.ex c σ aA) e σ st fun y aA=>notRef x/\iY op x y aA fun d aV=>P.nx (σ.set i (some d)) aV|.iff c a b,P,σ,st=>aG C sub (fun c aA=>P.ex c σ aA) c σ st fun d aA=>fB d aA fun k=>if k=true then dD C sub a P σ aA else dD C sub b P σ aA|.whl c b,P,σ,st=>∃ n,qH (fun next σ st=>aG C sub (fun c aA=>P.ex c σ aA) c σ st fun d aA=>fB d aA fun k =>if k=true then dD C sub b { P with nx:=next,ct:=next,bk:=P.nx } σ aA else P.nx σ aA) n σ st|.jA t k aD b,P,σ,st=>bM C sub (fun c aA=>P.ex c σ aA) aD σ st fun ds aC=>gZ k ds aC fun as xs=>BE (same as aC) (fun x next σ st=>oF C sub (fun c aA=>P.ex c σ aA) t x σ st fun bn aA=>dD C sub b { P with nx:=next,ct:=next,bk:=P.nx } bn aA) P.nx xs σ aC|.ret e,P,σ,st=>aG C sub (fun c aA=>P.ex c σ aA) e σ st P.rt|.brk,P,σ,st=>P.bk σ st|.cnt,P,σ,st=>P.ct σ st|.pass,P,σ,st=>P.nx σ st|.rais c es,P,σ,st=>bM C sub (fun c aA=>P.ex c σ aA) es σ st fun _ aA=>P.ex c σ aA|.tryy b c n h,P,σ,st=>dD C sub b (Vx sub c n P fun P' bn aA=>dD OQ sub h P' bn aA) σ st
def dD (C:bG)(sub:Nat->Nat->Bool):List Sx->gN->St->aB->Prop|[],P,σ,st=>P.nx σ st|s::ss,P,σ,st=>wpS C sub s { P with nx:=dD C sub ss P } σ st
end
noncomputable def start (np nl:Nat)(ds:List D):St:=ds.map some++ao (nl-np) none
noncomputable def aH (G:Prog):Nat->bG|0=>fun _ _ _ _ _=>False|k+1=>fun f ds st Q E=>match G.fns f with|none=>False|some fn=>ds.length=fn.np/\dD (aH G k) G.sub fn.body ⟨fun _ aA=>Q .non aA,Q,fun _ _=>False,fun _ _=>False,fun c _ aA=>E c aA⟩ (start fn.np fn.nl ds) st
variable {σ:St}{Q Q':VK}
theorem uS {i:Nat}{Q Q':D->Prop}(h:∀ d,Q d->Q' d):fA σ i Q->fA σ i Q':=by
 unfold fA;split;·exact h _
 ·exact id
theorem FJ {σ:St}:∀{is:List Nat}{Q Q':List D->Prop},(∀ d,Q d->Q' d)->rV σ is Q->rV σ is Q'|[],_,_,h=>h _|_::_,_,_,h=>uS fun _=>FJ fun _=>h _
variable {st:aB}{K':List D->Prop}
theorem Aq {d:D}{K K':Nat->Nat->List D->Prop}(h:∀ a f cs,K a f cs->K' a f cs):A0 d st K->A0 d st K':=by
 cases d<;>first|exact id|skip
 unfold A0;simp only;split;·exact h _ _ _
 ·exact id
variable {M:List D->List D->Prop}
theorem oM {a:Nat}{K:List D->Prop}{M':List D->List D->Prop}(h:∀ ds,K ds->K' ds)(h':∀ ks vs,M ks vs->M' ks vs):eQ st a K M->eQ st a K' M':=by
 unfold eQ;split;·exact h _
 ·exact h' _ _
 ·exact id
theorem dI {a:Nat}{K:List D->Prop}(h:∀ ds,K ds->K' ds):cO st a K->cO st a K':=by
 unfold cO;split;·exact h _
 ·exact id
variable {α:Type}{o:MO}
theorem fG {o:Option α}{K K':α->Prop}(h:∀ x,K x->K' x):dJ o K->dJ o K':=by
 unfold dJ;split;·exact h _
 ·exact id
variable {P P':Bool->Prop}
theorem kG {d:D}(h:∀ b,P b->P' b):fB d st P->fB d st P':=by unfold fB;split;all_goals first|exact h _|exact id|exact(fun x=>⟨x.1,h _ x.2⟩)|exact oM (fun _=>h _) fun _ _=>h _
variable {ds:List D}
theorem qV (h:∀ d st,Q d st->Q' d st):iK ds st Q->iK ds st Q':=fun x=>⟨x.1,fun p hp=>h _ _ (x.2 p hp)⟩
variable {x y:D}
theorem J9 {op:wQ}(h:∀ d st,Q d st->Q' d st):iY op x y st Q->iY op x y st Q':=by cases op<;>cases x<;>first|exact id|(cases y<;>first|exact id|exact h _ _|exact(fun z=>⟨z.1,h _ _ z.2⟩)|exact dI (fun _=>dI fun _=>qV h)|exact dI (fun _ z=>⟨z.1,z.2.1,qV h z.2.2⟩))
theorem VC (h:∀ d st,Q d st->Q' d st):HD x st Q->HD x st Q':=by
 unfold HD;split;·exact h _ _
 ·exact id
theorem NG (h:∀ b,P b->P' b):Bg x y st P->Bg x y st P':=fun z=>⟨z.1,z.2.1,h _ z.2.2⟩
theorem NL (h:∀ b,P b->P' b):MG x y st P->MG x y st P':=by unfold MG;split;all_goals first|exact(fun z=>⟨z.1,z.2.1,h _ z.2.2⟩)|exact h _|exact id|exact oM (fun _ z=>⟨z.1,z.2.1,h _ z.2.2⟩) fun _ _ z=>⟨z.1,z.2.1,h _ z.2.2⟩
theorem tW {f:Int->Int->Bool}(h:∀ b,P b->P' b):yK f x y P->yK f x y P':=by
 unfold yK;split;·exact h _
 ·exact id
theorem ON (h:∀ b,P b->P' b):FU x y P->FU x y P':=by unfold FU;split;all_goals first|exact h _|exact id
theorem AG {op:sY}(h:∀ b,P b->P' b):dU op x y st P->dU op x y st P':=by
 cases op;·exact NG h
 ·exact NG fun b=>h (!b)
 ·exact tW h
 ·exact tW h
 ·exact tW h
 ·exact tW h
 ·exact ON h
 ·exact ON fun b=>h (!b)
 ·exact NL h
 ·exact NL fun b=>h (!b)
variable {t:Ty}
theorem EA {sub:Nat->Nat->Bool}(h:∀ b,P b->P' b):jX sub x st t P->jX sub x st t P':=by cases x<;>first|exact id|exact h _|(cases t<;>first|exact id|exact h _|exact oM (fun _=>h _) fun _ _=>h _)
theorem J2 {sub:Nat->Nat->Bool}{x:D}{st:aB}{P P':Bool->Prop}(h:∀ b,P b->P' b):∀{ts:List Ty},xG sub x st ts P->xG sub x st ts P'
 |[]=>id|[t]=>EA h|t::u::ts=>by
  unfold xG;refine EA fun b=>?_;split;·exact h _
  ·exact J2 h
theorem Y9 (h:∀ d st,Q d st->Q' d st):mY x y st Q->mY x y st Q':=by
 unfold mY;split;all_goals first|exact id|exact fG (fun _=>h _ _)|exact(fun z=>⟨z.1,fG (fun _=>h _ _) z.2⟩)|exact(fun z=>⟨z.1,z.2.1,fG (fun _=>h _ _) z.2.2⟩)|skip
 refine oM (fun _=>?_) (fun _ _ z=>⟨z.1,z.2.1,fG (fun _=>h _ _) z.2.2⟩);split;·exact fG fun _=>h _ _
 ·exact id
theorem EO {P P':Option Int->Prop}(h:∀ o,P o->P' o):qB ds P->qB ds P':=by unfold qB;split;all_goals first|exact h _|exact id
variable {hi:Option Int}
theorem ZO {lo:Option Int}(h:∀ d st,Q d st->Q' d st):FY x lo hi st Q->FY x lo hi st Q':=by
 unfold FY;split;·exact h _ _
 ·exact dI fun _ z p hp=>h _ _ (z p hp)
 ·exact id
theorem TK {d:D}{K K':List Nat->List D->Prop}(h:∀ as xs,K as xs->K' as xs):pY d st K->pY d st K':=by unfold pY;split;all_goals first|exact h _ _|exact id|exact(fun z=>⟨z.1,h _ _ z.2⟩)|exact dI (fun _=>h _ _)
theorem AE {d:D}{K K':List Nat->List D->Prop}(h:∀ as xs,K as xs->K' as xs):eR d st K->eR d st K':=by unfold eR;split;all_goals first|exact h _ _|exact id|exact dI (fun _=>h _ _)
variable {k:Bool}
theorem AK {k:Option IK}{P P':List Nat->List D->Prop}(h:∀ as xs,P as xs->P' as xs):gZ k ds st P->gZ k ds st P':=by
 rcases k with _|k;·rcases ds with _|⟨x,_|⟨y,r⟩⟩<;>first|exact id|exact TK h
 ·cases k<;>first|exact id|(rcases ds with _|⟨x,_|⟨y,_|⟨w,_|⟨v,r⟩⟩⟩⟩<;>first|exact id|exact AE (fun _ _=>h _ _)|(cases x<;>first|exact id|exact(fun z=>⟨z.1,h _ _ z.2⟩)|exact dI (fun _=>h _ _)|(cases y<;>first|exact id|exact(fun z=>⟨z.1,z.2.1,h _ _ z.2.2⟩)|exact dI (fun _=>dI fun _=>h _ _)|(cases w<;>first|exact id|exact fun z=>⟨z.1,z.2.1,z.2.2.1,h _ _ z.2.2.2⟩))))
theorem U4 {d:D}{P P':Nat->Prop}(h:∀ n,P n->P' n):rG d st P->rG d st P':=by unfold rG;split;all_goals first|exact h _|exact id|exact(fun z=>⟨z.1,h _ z.2⟩)|exact oM (fun _=>h _) fun _ _=>h _
variable {xs:List D}
theorem lG {f:BI}(h:∀ d st,Q d st->Q' d st):fK f xs st Q->fK f xs st Q':=by
 unfold fK;split;all_goals first|exact id|exact qV h|exact(fun z=>⟨z.1,h _ _ z.2⟩)|exact fG (fun _=>h _ _)|skip
 all_goals refine fG fun is=>?_
 all_goals cases is
 all_goals first|exact id|exact h _ _
variable {f:List Nat}
theorem YK {f:BI}(h:∀ d st,Q d st->Q' d st):iU f ds st Q->iU f ds st Q':=by
 rcases ds with _|⟨x,_|⟨y,_|⟨w,r⟩⟩⟩;·cases f<;>exact id
 ·cases f<;>first|exact U4 (fun _=>h _ _)|exact AE (fun _ _=>lG h)|(cases x<;>first|exact id|exact h _ _|exact fG (fun _ z=>⟨z.1,h _ _ z.2⟩)|exact lG (f:=.max) h|exact dI (fun _=>lG (f:=.max) h)|exact lG (f:=.min) h|exact dI (fun _=>lG (f:=.min) h))
 ·cases f<;>first|exact id|(cases x<;>first|exact id|(cases y<;>first|exact id|exact h _ _))
 ·cases f<;>first|exact id|(cases x<;>first|exact id|(cases y<;>exact id))
theorem WL {d:D}{K:List D->Prop}(h:∀ xs,K xs->K' xs):AQ d st K->AQ d st K':=by unfold AQ;split;all_goals first|exact h _|exact id|exact dI h
theorem TV {m:MT}{o:D}(h:∀ d st,Q d st->Q' d st):lK m o ds st Q->lK m o ds st Q':=by cases m<;>first|exact id|(rcases ds with _|⟨d,_|⟨e,r⟩⟩<;>first|exact id|exact(AE fun _ _ z=>⟨z.1,z.2.1,fG (fun _=>h _ _) z.2.2⟩)|(cases o<;>first|exact id|exact(dI fun _ z=>⟨z.1,h _ _ z.2⟩)|exact(dI fun _=>WL fun _ z=>⟨z.1,h _ _ z.2⟩)|exact(dI fun _=>fG fun _=>h _ _)))
theorem EB {one:Bool}{tg:List Nat}{P P':St->Prop}(h:∀ σ,P σ->P' σ):lM one tg x σ P->lM one tg x σ P':=by
 unfold lM;split;·exact h _
 ·exact fun z=>⟨z.1,h _ z.2⟩
 ·exact id
theorem FK {g:aB->Prop}{turn uX:D->aB->(Option D->aB->Prop)->Prop}{R R':List D->aB->Prop}(ht:∀ x st K K',(∀ o st,K o st->K' o st)->turn x st K->uX x st K')(h:∀ ds st,R ds st->R' ds st):∀{xs acc:List D}{st:aB},kM g turn xs acc st R->kM g uX xs acc st R'|[],_,_,z=>⟨z.1,h _ _ z.2⟩|_::_,_,_,z=>⟨z.1,z.2.1,ht _ _ _ _ (fun _ _ y=>FK ht h y) z.2.2⟩
theorem FE {a:Nat}{K K':List Nat->List (List Nat×D)->Prop}(h:∀ c fs,K c fs->K' c fs):oS st a K->oS st a K':=by
 unfold oS;split;·exact h _ _
 ·exact id
theorem xH {a:Nat}{K K':List D->List D->Prop}(h:∀ c fs,K c fs->K' c fs):tabAt st a K->tabAt st a K':=by
 unfold tabAt;split;·exact h _ _
 ·exact id
theorem UG {c:List Nat}(h:∀ d st,Q d st->Q' d st):rK c f x st Q->rK c f x st Q':=by
 unfold rK;split;·exact FE fun _ _ z=>⟨z.1,fG (fun _=>h _ _) z.2⟩
 ·exact id
variable {v:D}
theorem YV {c:List Nat}{Q Q':aB->Prop}(h:∀ st,Q st->Q' st):FL c f v x st Q->FL c f v x st Q':=by
 unfold FL;split;·exact FE fun _ _ z=>⟨z.1,z.2.1,h _ z.2.2⟩
 ·exact id
theorem U1 (h:∀ b,P b->P' b):yQ x y st P->yQ x y st P':=by
 unfold yQ;split;·exact xH fun _ _ z=>⟨z.1,h _ z.2⟩
 ·exact id
theorem VR (h:∀ d st,Q d st->Q' d st):tF x y st Q->tF x y st Q':=by
 unfold tF;split;·exact xH fun _ _ z=>⟨z.1,fG (fun _=>h _ _) z.2⟩
 ·exact id
variable {Q Q':aB->Prop}
theorem NY (h:∀ st,Q st->Q' st):zU x v y st Q->zU x v y st Q':=by
 unfold zU;split;·exact xH fun _ _ z=>⟨z.1,z.2.1,z.2.2.1,h _ z.2.2.2⟩
 ·exact id
def bU (C C':bG):Prop:=∀ f ds st Q Q' E E',(∀ d st,Q d st->Q' d st)->(∀ c st,E c st->E' c st)->C f ds st Q E->C' f ds st Q' E'
mutual
theorem bC {C C':bG}{sub}{E E':XK}(hC:bU C C')(hE:∀ c st,E c st->E' c st):∀(e:Ex){σ:St}{st:aB}{Q Q':VK},(∀ d st,Q d st->Q' d st)->aG C sub E e σ st Q->aG C' sub E' e σ st Q'
 |.c d,σ,st,Q,Q',h=>by exact h _ _|.v i,σ,st,Q,Q',h=>by exact uS fun d=>h _ _|.tup es,σ,st,Q,Q',h=>by exact dF hC hE es fun _ _=>h _ _|.lst es,σ,st,Q,Q',h=>by exact dF hC hE es fun _ _=>qV h|.bin op a b,σ,st,Q,Q',h=>by exact bC hC hE a fun _ _=>bC hC hE b fun _ _=>J9 h|.neg a,σ,st,Q,Q',h=>by exact bC hC hE a fun _ _=>VC h|.cmp op a b,σ,st,Q,Q',h=>by exact bC hC hE a fun _ _=>bC hC hE b fun _ _=>AG fun _=>h _ _|.chain op op' a b c,σ,st,Q,Q',h=>by
  refine bC hC hE a fun _ _=>bC hC hE b fun _ _=>AG fun k=>?_;split;·exact bC hC hE c fun _ _=>AG fun _=>h _ _
  ·exact h _ _|.and_ a b,σ,st,Q,Q',h=>by
  refine bC hC hE a fun _ _=>kG fun k=>?_;split;·exact bC hC hE b h
  ·exact h _ _|.or_ a b,σ,st,Q,Q',h=>by
  refine bC hC hE a fun _ _=>kG fun k=>?_;split;·exact h _ _
  ·exact bC hC hE b h|.not_ a,σ,st,Q,Q',h=>by exact bC hC hE a fun _ _=>kG fun k=>h _ _|.ite c a b,σ,st,Q,Q',h=>by
  refine bC hC hE c fun _ _=>kG fun k=>?_;split;·exact bC hC hE a h
  ·exact bC hC hE b h|.call f es,σ,st,Q,Q',h=>by exact dF hC hE es fun _ _=>hC _ _ _ _ _ _ _ h hE|.bi f es,σ,st,Q,Q',h=>by exact dF hC hE es fun _ _=>YK h|.isi a ts,σ,st,Q,Q',h=>by exact bC hC hE a fun _ _=>J2 fun _=>h _ _|.cM m o es,σ,st,Q,Q',h=>by exact bC hC hE o fun _ _ z=>⟨z.1,dF hC hE es (fun _ _=>TV h) z.2⟩|.ix a b,σ,st,Q,Q',h=>by exact bC hC hE a fun _ _=>bC hC hE b fun _ _=>Y9 h|.sl a lo hi,σ,st,Q,Q',h=>by exact bC hC hE a fun _ _=>dF hC hE lo fun _ _=>EO fun _=>dF hC hE hi fun _ _=>EO fun _=>ZO h|.bit f k es,σ,st,Q,Q',h=>by exact dF hC hE es fun _ _=>AK fun _ _=>lG h|.comp n aL tg one k aD ifs elt,σ,st,Q,Q',h=>by
  refine dF hC hE aD fun d aC=>AK fun as xs=>?_;intro z;refine FK (fun x st K K' hK=>?_) (fun _ _=>qV h) z;refine EB fun bn=>J0 hC hE ifs fun b st=>?_;split;·exact bC hC hE elt fun _ _=>hK _ _
  ·exact hK _ _|.dic _ _,σ,st,Q,Q',h=>by exact id|.fld c f o,σ,st,Q,Q',h=>by exact bC hC hE o fun _ _=>UG h|.mk c f es,σ,st,Q,Q',h=>by exact dF hC hE es fun _ _ z p hp=>hC _ _ _ _ _ _ _ (fun _ _ y=>⟨y.1,h _ _ y.2⟩) hE (z p hp)|.mcl c m f o es,σ,st,Q,Q',h=>by exact bC hC hE o fun _ _ z=>⟨z.1,dF hC hE es (fun _ _=>hC _ _ _ _ _ _ _ h hE) z.2⟩|.cv i es,σ,st,Q,Q',h=>by exact uS fun _ z=>⟨z.1,dF hC hE es (fun _ _=>Aq fun _ _ _=>hC _ _ _ _ _ _ _ (fun _ _=>h _ _) (fun _ _=>hE _ _)) z.2⟩|.callL f es g aL κ,σ,st,Q,Q',h=>by exact dF hC hE es fun _ _ z=>⟨z.1,FJ (fun _ y a ha=>hC _ _ _ _ _ _ _ (fun _ _=>h _ _) (fun _ _=>hE _ _) (y a ha)) z.2⟩|.dnew,σ,st,Q,Q',h=>by exact fun z p hp=>h _ _ (z p hp)|.d1 k v,σ,st,Q,Q',h=>by exact fun z p hp=>bC hC hE k (fun _ _=>bC hC hE v fun _ _=>NY fun _=>h _ _) (z p hp)|.din neg k d,σ,st,Q,Q',h=>by exact bC hC hE k fun _ _=>bC hC hE d fun _ _=>U1 fun _=>h _ _|.dix d k,σ,st,Q,Q',h=>by exact bC hC hE d fun _ _=>bC hC hE k fun _ _=>VR h;theorem dF {C C':bG}{sub}{E E':XK}(hC:bU C C')(hE:∀ c st,E c st->E' c st):∀(es:List Ex){σ:St}{st:aB}{Q Q':List D->aB->Prop},(∀ d st,Q d st->Q' d st)->bM C sub E es σ st Q->bM C' sub E' es σ st Q'|[],σ,st,Q,Q',h=>by exact h _ _|e::es,σ,st,Q,Q',h=>by exact bC hC hE e fun _ _=>dF hC hE es fun _ _=>h _ _;theorem J0 {C C':bG}{sub}{E E':XK}(hC:bU C C')(hE:∀ c st,E c st->E' c st):∀(es:List Ex){σ:St}{st:aB}{Q Q':Bool->aB->Prop},(∀ d st,Q d st->Q' d st)->iZ C sub E es σ st Q->iZ C' sub E' es σ st Q'
 |[],σ,st,Q,Q',h=>by exact h _ _|e::es,σ,st,Q,Q',h=>by
  refine bC hC hE e fun _ _=>kG fun k=>?_;split;·exact J0 hC hE es h
  ·exact h _ _;end
structure gN.Le (P P':gN):Prop where
 nx:∀ σ st,P.nx σ st->P'.nx σ st
 rt:∀ d st,P.rt d st->P'.rt d st
 bk:∀ σ st,P.bk σ st->P'.bk σ st
 ct:∀ σ st,P.ct σ st->P'.ct σ st
 ex:∀ c σ st,P.ex c σ st->P'.ex c σ st
variable {i:Int}
theorem V7 {o i:D}(h:∀ st,Q st->Q' st):DG o i v st Q->DG o i v st Q':=by
 unfold DG;split;·exact dI fun _=>fG fun _=>h _
 ·exact id
theorem yM {C C':bG}{sub}{E E':XK}(hC:bU C C')(hE:∀ c st,E c st->E' c st){d:D}{Q Q':St->aB->Prop}(h:∀ σ st,Q σ st->Q' σ st):∀(t:Tg){σ:St}{st:aB},oF C sub E t d σ st Q->oF C' sub E' t d σ st Q'|.nm i,_,_=>by exact h _ _|.tp is,_,_=>by exact EB fun _=>h _ _|.ix o i,_,_=>by exact bC hC hE o fun _ _=>bC hC hE i fun _ _=>V7 fun _=>h _ _|.fl c f o,_,_=>by exact bC hC hE o fun _ _=>YV fun _=>h _ _|.dk o i,_,_=>by exact bC hC hE o fun _ _=>bC hC hE i fun _ _=>NY fun _=>h _ _
theorem KD {g:aB->Prop}{turn uX:D->(St->aB->Prop)->St->aB->Prop}{N N':St->aB->Prop}(ht:∀ x M M' σ st,(∀ σ st,M σ st->M' σ st)->turn x M σ st->uX x M' σ st)(h:∀ σ st,N σ st->N' σ st):∀{xs:List D}{σ:St}{st:aB},BE g turn N xs σ st->BE g uX N' xs σ st|[],_,_,z=>⟨z.1,h _ _ z.2⟩|_::_,_,_,z=>⟨z.1,ht _ _ _ _ _ (fun _ _=>KD ht h) z.2⟩
theorem DC {turn uX:(St->aB->Prop)->St->aB->Prop}(ht:∀ M M' σ st,(∀ σ st,M σ st->M' σ st)->turn M σ st->uX M' σ st):∀{n:Nat}{σ:St}{st:aB},qH turn n σ st->qH uX n σ st|0,_,_,z=>z|n+1,_,_,z=>ht _ _ _ _ (fun _ _=>DC ht) z
theorem PB:bU OQ OQ:=fun _ _ _ _ _ _ _ _ _ x=>x
mutual
theorem wpS_mono {C C':bG}{sub}(hC:bU C C'):∀(s:Sx){P P':gN}{σ:St}{st:aB},P.Le P'->wpS C sub s P σ st->wpS C' sub s P' σ st
 |.ex e,P,P',σ,st,h=>by exact bC hC (fun _ _=>h.ex _ _ _) e fun _ _=>h.nx _ _|.asg t e,P,P',σ,st,h=>by exact bC hC (fun _ _=>h.ex _ _ _) e fun _ _=>yM hC (fun _ _=>h.ex _ _ _) h.nx t|.aug i op e,P,P',σ,st,h=>by exact uS fun x=>bC hC (fun _ _=>h.ex _ _ _) e fun _ _ z=>⟨z.1,J9 (fun _ _=>h.nx _ _) z.2⟩|.iff c a b,P,P',σ,st,h=>by
  refine bC hC (fun _ _=>h.ex _ _ _) c fun _ _=>kG fun k=>?_;split;·exact jM hC a h
  ·exact jM hC b h|.whl c b,P,P',σ,st,h=>by
  rintro⟨n,z⟩;refine⟨n,DC (fun M M' σ st hM=>bC hC (fun _ _=>h.ex _ _ _) c fun _ _=>kG fun k=>?_) z⟩;split;·exact jM hC b ⟨hM,h.rt,h.nx,hM,h.ex⟩
  ·exact h.nx _ _|.jA t k aD b,P,P',σ,st,h=>by refine dF hC (fun _ _=>h.ex _ _ _) aD fun _ _=>AK fun as xs=>?_;exact KD (fun x M M' σ st hM=>yM hC (fun _ _=>h.ex _ _ _) (fun _ _=>jM hC b (P:={ P with nx:=M,ct:=M,bk:=P.nx }) (P':={ P' with nx:=M',ct:=M',bk:=P'.nx }) ⟨hM,h.rt,h.nx,hM,h.ex⟩) t) h.nx|.ret e,P,P',σ,st,h=>by exact bC hC (fun _ _=>h.ex _ _ _) e h.rt|.brk,P,P',σ,st,h=>by exact h.bk _ _|.cnt,P,P',σ,st,h=>by exact h.ct _ _|.pass,P,P',σ,st,h=>by exact h.nx _ _|.rais c es,P,P',σ,st,h=>by exact dF hC (fun _ _=>h.ex _ _ _) es fun _ _=>h.ex _ _ _|.tryy b c n hh,P,P',σ,st,h=>by
  refine jM hC b ⟨h.nx,h.rt,h.bk,h.ct,fun c' σ st=>?_⟩;show(if sub c' c=true then _ else _)->(if sub c' c=true then _ else _);split;·exact jM PB hh ⟨fun _ _=>h.nx _ _,h.rt,fun _ _=>id,fun _ _=>id,fun _ _ _=>id⟩
  ·exact h.ex _ _ _;theorem jM {C C':bG}{sub}(hC:bU C C'):∀(ss:List Sx){P P':gN}{σ:St}{st:aB},P.Le P'->dD C sub ss P σ st->dD C' sub ss P' σ st|[],P,P',σ,st,h=>by exact h.nx _ _|s::ss,P,P',σ,st,h=>by exact wpS_mono hC s ⟨fun _ _=>jM hC ss h,h.rt,h.bk,h.ct,h.ex⟩end
theorem kJ (G:Prog):∀{j k:Nat},j<=k->bU (aH G j) (aH G k)
 |0,k,_=>fun _ _ _ _ _ _ _ _ _ x=>x.elim|j+1,0,h=>by omega|j+1,k+1,h=>fun f ds st Q Q' E E' hQ hE=>by
  simp only[aH];split;·exact id
  ·have hj:j<=k:=by omega
   exact fun z=>⟨z.1,jM (kJ G hj) _ (P:=⟨fun _ aA=>Q .non aA,Q,fun _ _=>False,fun _ _=>False,fun c _ aA=>E c aA⟩) (P':=⟨fun _ aA=>Q' .non aA,Q',fun _ _=>False,fun _ _=>False,fun c _ aA=>E' c aA⟩) ⟨fun _ _=>hQ _ _,hQ,fun _ _=>id,fun _ _=>id,fun _ _ _=>hE _ _⟩ z.2⟩
variable {x y:α}{x:List Nat}{xs r:List α}{R:List Nat->List D->Prop}{R:Nat->Prop}{R:St->Prop}{ss:List Sx}{n:Nat}
section
variable {C:bG}{sub:Nat->Nat->Bool}{E:XK}{Q:VK}{e a b c:Ex}{es:List Ex}{x y:D}{j:Int}{u v:List Nat}{xs ys ks vs:List D}{p q:Nat}{K:List D->Prop}
theorem aI {R:gN}:dD C sub [] R σ st=R.nx σ st:=rfl
theorem XR {R:gN}{s:Sx}:dD C sub (s::ss) R σ st=wpS C sub s { R with nx:=dD C sub ss R } σ st:=rfl
theorem fT {R:gN}{s:Sx}(h:wpS C sub s { R with nx:=dD C sub ss R } σ st):dD C sub (s::ss) R σ st:=h
theorem eI (h:st p=some (.lst ds)):eQ st p K M=K ds:=by unfold eQ;rw[h]
theorem aE (h:st p=some (.lst ds)):cO st p K=K ds:=by unfold cO;rw[h]
theorem bB {x:α}{K:α->Prop}:dJ (some x) K=K x:=rfl
theorem VQ {K:α->Prop}:dJ none K=False:=rfl
theorem Mi {d:D}{r:St}{R:D->Prop}:fA (some d::r) 0 R=R d:=rfl
theorem Ja {o:Option D}{r:St}{R:D->Prop}:fA (o::r) (n+1) R=fA r n R:=rfl
theorem aN:put st p o p=some o:=by unfold put;rw[if_pos rfl]
theorem aM (h:q≠p):put st p o q=st q:=by unfold put;rw[if_neg h]
theorem sC {u:MO}(h:st p=none)(h':st q=some u):put st p o q=some u:=by rw[aM];exact h';intro e;rw[e,h]at h';cases h'
theorem Ci {u:MO}:put (put st p o) p u=put st p u:=by funext b;unfold put;split<;>rfl
theorem Fw:fB .non st P=P false:=rfl
theorem Lw:fB (.bl k) st P=P k:=rfl
theorem Gx:fB (.int i) st P=P (i != 0):=rfl
theorem Gz:fB (.tup ds) st P=P (!ds.isEmpty):=rfl
theorem QT:fB (.ref p) st P=eQ st p (fun ds=>P (!ds.isEmpty)) fun ks _=>P (!ks.isEmpty):=rfl
theorem ZN:fB (.bR ds) st P=P (!ds.isEmpty):=rfl
theorem Hy:dU .eq x y st P=(plainS st x/\plainS st y/\P (bW st x y)):=rfl
theorem Nv:dU .ne x y st P=(plainS st x/\plainS st y/\P (!bW st x y)):=rfl
theorem Ly:dU .lt (.int i) (.int j) st P=P (decide (i<j)):=rfl
theorem Jc:dU .le (.int i) (.int j) st P=P (decide (i<=j)):=rfl
theorem cmp_gt:dU .gt (.int i) (.int j) st P=P (decide (j<i)):=rfl
theorem Im:dU .ge (.int i) (.int j) st P=P (decide (j<=i)):=rfl
theorem Gv:dU .is_ x .non st P=P (yC x):=rfl
theorem Cf:dU .is_ x (.bl k) st P=P (Y7 k x):=rfl
theorem ZR:dU .isnot x .non st P=P (!yC x):=rfl
theorem Z0:dU .isnot x (.bl k) st P=P (!Y7 k x):=rfl
theorem R8:dU .in_ x (.tup ds) st P=(plainS st x/\eF st ds/\P (ds.any fun d=>bW st d x)):=rfl
theorem O9 {w:List Nat}:dU .in_ (.str w) (.dP ks vs) st P=P (ks.any fun d=>bT d (.str w)):=rfl
theorem RV:dU .in_ (.str u) (.str v) st P=P (occurs u v):=rfl
theorem PN:dU .lS x (.tup ds) st P=(plainS st x/\eF st ds/\P (!ds.any fun d=>bW st d x)):=rfl
theorem PY:dU .lS x (.ref p) st P=eQ st p (fun ds=>plainS st x/\eF st ds/\P (!ds.any fun d=>bW st d x)) fun ks _=>plain x/\wO ks/\P (!ks.any fun d=>bT d x):=rfl
theorem L8 {w:List Nat}:dU .lS (.str w) (.dP ks vs) st P=P (!ks.any fun d=>bT d (.str w)):=rfl
theorem PL:dU .lS (.str u) (.str v) st P=P (!occurs u v):=rfl
theorem add_int:iY .add (.int i) (.int j) st Q=Q (.int (i+j)) st:=rfl
theorem add_str:iY .add (.str u) (.str v) st Q=(u.length+v.length<=bE/\Q (.str (u++v)) st):=rfl
theorem HJ:iY .add (.tup xs) (.tup ys) st Q=(xs.length+ys.length<=bE/\Q (.tup (xs++ys)) st):=rfl
theorem Cu:iY .add (.ref p) (.ref q) st Q=cO st p fun xs=>cO st q fun ys=>iK (xs++ys) st Q:=rfl
theorem sub_int:iY .sub (.int i) (.int j) st Q=Q (.int (i-j)) st:=rfl
theorem mul_int:iY .mul (.int i) (.int j) st Q=((pC i∨pC j)/\Q (.int (i*j)) st):=rfl
theorem Er:iY .mul (.tup xs) (.int i) st Q=((0<xs.length/\xs.length<=1000/\1<=i/\i<1000)/\Q (.tup (ao i.toNat xs).flatten) st):=rfl
theorem YS:iY .fdiv (.int i) (.int j) st Q=((0<j/\j<1073741824)/\Q (.int (i / j)) st):=rfl
theorem mod_int:iY .mod (.int i) (.int j) st Q=(0<j/\Q (.int (i % j)) st):=rfl
theorem pow_int:iY .pow (.int i) (.int j) st Q=((0<=j/\j<=1000000/\i.natAbs<18446744073709551616)/\Q (.int (i ^ j.toNat)) st):=rfl
theorem neg_int:HD (.int i) st Q=Q (.int (-i)) st:=rfl
theorem Ga:xG sub x st [t] P=jX sub x st t P:=rfl
theorem El {t':Ty}{ts:List Ty}:xG sub x st (t::t'::ts) P=jX sub x st t fun b=>if b=true then P true else xG sub x st (t'::ts) P:=rfl
theorem mX:mY (.tup ds) (.int i) st Q=dJ (gP ds i) fun d=>Q d st:=rfl
theorem RK:mY (.bR ds) (.int i) st Q=dJ (gP ds i) fun d=>Q d st:=rfl
theorem OB:mY (.str u) (.int i) st Q=(u.length<=bE/\dJ (gP u i) fun c=>Q (.str [c]) st):=rfl
theorem Ez {w:List Nat}:mY (.dP ks vs) (.str w) st Q=dJ (xP ks vs (.str w)) fun d=>Q d st:=rfl
theorem dN (h:st p=some (.lst ds)):mY (.ref p) (.int i) st Q=dJ (gP ds i) fun d=>Q d st:=by show eQ st p _ _=_;rw[eI h]
theorem dG {xs:List α}(h:n<xs.length):gP xs (n:Int)=xs[n]?:=by unfold gP oB;rw[if_pos (by omega),if_pos (by omega)];simp
theorem DL {x:α}:gP (x::r) 0=some x:=dG (n:=0) (by simp)
theorem ZY {x y:α}:gP (x::y::r) 1=some y:=dG (n:=1) (by simp)
theorem ZU {x y z:α}:gP (x::y::z::r) 2=some z:=dG (n:=2) (by simp)
theorem Wq {x y z w:α}:gP (x::y::z::w::r) 3=some w:=dG (n:=3) (by simp)
theorem Vo {x y z w t:α}:gP (x::y::z::w::t::r) 4=some t:=dG (n:=4) (by simp)
theorem Hv {R:Option Int->Prop}:qB [] R=R none:=rfl
theorem Lz {R:Option Int->Prop}:qB [.int i] R=R (some i):=rfl
theorem MD {lo:Option Int}:FY (.tup ds) lo hi st Q=Q (.tup (cut ds lo hi)) st:=rfl
theorem Jj {lo:Option Int}:FY (.ref p) lo hi st Q=cO st p fun ds=>∀ p,st p=none->Q (.ref p) (put st p (.lst (cut ds lo hi))):=rfl
theorem Sq {d:α}{ds:List α}:cut (d::ds) (some 1) none=ds:=by simp [cut,cS]
theorem BN {xs:List α}{lo:Option Int}:(cut xs lo hi).length<=xs.length:=by simp only[cut,qf,vn];omega
theorem Gh {R:List Nat->List D->Prop}:gZ none [x] st R=pY x st R:=rfl
theorem ZH {R:List Nat->List D->Prop}:pY (.tup ds) st R=R [] ds:=rfl
theorem ZS {R:List Nat->List D->Prop}:pY (.str u) st R=(u.length<=bE/\R [] (u.map fun c=>.str [c])):=rfl
theorem nO {R:List Nat->List D->Prop}:pY (.ref p) st R=cO st p fun ds=>R [p] ds:=rfl
theorem W7 {R:List Nat->List D->Prop}:pY (.bR ds) st R=R [] ds:=rfl
theorem HK {R:List Nat->List D->Prop}:eR (.tup ds) st R=R [] ds:=rfl
theorem wR {R:List Nat->List D->Prop}:eR (.ref p) st R=cO st p fun ds=>R [p] ds:=rfl
theorem Y5 {R:List Nat->List D->Prop}:eR (.bR ds) st R=R [] ds:=rfl
theorem SO {R:List Nat->List D->Prop}:gZ (some .range) [.int j] st R=(gF j/\R [] (jE 0 j.toNat)):=rfl
theorem TY {R:List Nat->List D->Prop}:gZ (some .range) [.int i,.int j] st R=(gF i/\gF j/\R [] (jE i (j-i).toNat)):=rfl
theorem Dx {R:List Nat->List D->Prop}:gZ (some .zip) [.ref p,.ref q] st R=cO st p fun xs=>cO st q fun ys=>R [p,q] (zip2 xs ys):=rfl
theorem ZF {R:List Nat->List D->Prop}:gZ (some .enum) [.ref p] st R=cO st p fun xs=>R [p] (nH 0 xs):=rfl
theorem Dd {R:List Nat->List D->Prop}:gZ (some .rev) [x] st R=eR x st fun as xs=>R as xs.reverse:=rfl
theorem XO:iU .len [x] st Q=rG x st fun n=>Q (.int (n:Nat)) st:=rfl
theorem Ey {R:Nat->Prop}:rG (.tup ds) st R=R ds.length:=rfl
theorem M0 {R:Nat->Prop}:rG (.bR ds) st R=R ds.length:=rfl
theorem len_str {R:Nat->Prop}:rG (.str u) st R=(u.length<=bE/\R u.length):=rfl
theorem HP {R:Nat->Prop}:rG (.ref p) st R=eQ st p (fun ds=>R ds.length) fun ks _=>R ks.length:=rfl
theorem X0:iU .all [x] st Q=eR x st fun _ xs=>fK .all xs st Q:=rfl
theorem VP:iU .any [x] st Q=eR x st fun _ xs=>fK .any xs st Q:=rfl
theorem Lo:iU .max [x] st Q=eR x st fun _ xs=>fK .max xs st Q:=by cases x<;>rfl
theorem Mh:iU .min [x] st Q=eR x st fun _ xs=>fK .min xs st Q:=by cases x<;>rfl
theorem US:iU .sum [x] st Q=eR x st fun _ xs=>fK .sum xs st Q:=by cases x<;>rfl
theorem QI:iU .list [x] st Q=eR x st fun _ xs=>fK .list xs st Q:=rfl
theorem MS:iU .tuple [x] st Q=eR x st fun _ xs=>fK .tuple xs st Q:=rfl
theorem IM:iU .wY [.tup ds] st Q=dJ (strsOf ds) fun ws=>ws.length<4000/\Q (.int (AF [] ws:Nat)) st:=rfl
theorem Cg:iU .max [.int i,.int j] st Q=Q (.int (if j>i then j else i)) st:=rfl
theorem Ij:iU .int [.int i] st Q=Q (.int i) st:=rfl
theorem Gf:iU .int [.bl k] st Q=Q (.int (if k then 1 else 0)) st:=rfl
theorem Jw:fK .all xs st Q=dJ (boolsOf xs) fun bs=>Q (.bl (bs.all id)) st:=rfl
theorem Mj:fK .any xs st Q=dJ (boolsOf xs) fun bs=>Q (.bl (bs.any id)) st:=rfl
theorem Jl:fK .sum xs st Q=dJ (intsOf xs) fun is=>Q (.int is.sum) st:=rfl
theorem Dl:fK .list xs st Q=iK xs st Q:=rfl
theorem Ap:fK .tuple xs st Q=(xs.length<=bE/\Q (.tup xs) st):=rfl
theorem Dr:AQ (.tup ds) st K=K ds:=rfl
theorem P5:AQ (.ref p) st K=cO st p K:=rfl
theorem xU:AZ .append (.ref p) st=cO st p fun _=>True:=rfl
theorem S2:AZ .extend (.ref p) st=cO st p fun _=>True:=rfl
theorem Ef:AZ .pop (.ref p) st=cO st p fun _=>True:=rfl
theorem JK:AZ .index x st=eR x st fun _ _=>True:=rfl
theorem OG {d:D}:lK .index x [d] st Q=eR x st fun _ ds=>plainS st d/\eF st ds/\dJ (findD st d ds) fun i=>Q (.int (i:Nat)) st:=rfl
theorem uA:lK .append (.ref p) [x] st Q=cO st p fun xs=>xs.length<bE/\Q .non (put st p (.lst (xs++[x]))):=rfl
theorem zQ:lK .extend (.ref p) [x] st Q=cO st p fun xs=>AQ x st fun ys=>xs.length+ys.length<=bE/\Q .non (put st p (.lst (xs++ys))):=rfl
theorem LK:lK .pop (.ref p) [] st Q=cO st p fun xs=>dJ (xs[xs.length-1]?) fun d=>Q d (put st p (.lst xs.dropLast)):=rfl
theorem RP {R:aB->Prop}:DG (.ref p) (.int i) x st R=cO st p fun xs=>dJ (oB xs.length i) fun j=>R (put st p (.lst (xs.set j x))):=rfl
theorem Jt:lM true [n] x σ R=R (σ.set n (some x)):=rfl
theorem WX {is:List Nat}:lM false is (.tup ds) σ R=(ds.length=is.length/\R ((is.zip ds).foldl (fun σ p=>σ.set p.1 (some p.2)) σ)):=by cases is<;>rfl
end
theorem Ext.refl:Ext st st:=fun _ _ h=>h
theorem Ext.trans {a b c:aB}(h:Ext a b)(h':Ext b c):Ext a c:=fun x o e=>h' x o (h x o e)
theorem Ext.new {p:Nat}(h:st p=none):Ext st (put st p o):=fun a u e=>sC h e
theorem MR {aA:aB}:same [] st aA:=fun _ h=>nomatch h
theorem comp_map {g:aB->Prop}{turn:D->aB->(Option D->aB->Prop)->Prop}{R:List D->aB->Prop}(f:D->D):∀(xs acc:List D)(st:aB),(∀ aA,Ext st aA->g aA)->(∀ x∈xs,∀ aA (K:Option D->aB->Prop),Ext st aA->(∀ aV,Ext aA aV->K (some (f x)) aV)->turn x aA K) ->acc.length+xs.length<=bE->(∀ aA,Ext st aA->R (acc++xs.map f) aA)->kM g turn xs acc st R|[],acc,st,hg,_,_,hR=>⟨hg st .refl,by simpa using hR st .refl⟩|x::xs,acc,st,hg,ht,hl,hR=>by refine⟨hg st .refl,by simp at hl;omega,ht x (by simp) st _ .refl fun aV h''=>?_⟩;refine comp_map f xs (acc++[f x]) aV (fun aA h=>hg aA (h''.trans h)) (fun y hy aA K h=>ht y (by simp [hy]) aA K (h''.trans h)) (by simp at hl ⊢;omega) fun aA h=>?_;simpa using hR aA (h''.trans h)
mutual
theorem pV {st:aB}:∀ d:D,bQ d=true->iB st d=true|.non,_=>rfl|.bl _,_=>rfl|.int _,_=>rfl|.str _,_=>rfl|.tup ds,h=>by simp only[bQ]at h;simp only[iB];exact qF ds h|.ref _,h=>by simp [bQ]at h|.dP _ _,h=>by simp [bQ]at h|.bR _,h=>by simp [bQ]at h|.exc _,h=>by simp [bQ]at h;theorem qF {st:aB}:∀ ds:List D,cD ds=true->iP st ds=true|[],_=>rfl|d::ds,h=>by simp only[cD,bc]at h;simp only[iP,bc];exact⟨pV d h.1,qF ds h.2⟩end
theorem plain.s {d:D}(h:plain d):plainS st d:=⟨pV d h.1,h.2⟩
theorem wO.s (h:wO ds):eF st ds:=⟨qF ds h.1,h.2⟩
theorem KE:plain (.str x):=⟨rfl,dt _⟩
theorem KA:plain (.int i):=⟨rfl,dt _⟩
theorem OU {b:Bool}:plain (.bl b):=⟨rfl,dt _⟩
theorem KN:plain .non:=⟨rfl,dt _⟩
theorem GG:plainS st (.str x):=KE.s
theorem UB:plainS st (.int i):=KA.s
theorem A6 {b:Bool}:plainS st (.bl b):=OU.s
theorem RX:plainS st .non:=KN.s
theorem qD:∀ xs:List (List Nat),wO (xs.map .str)|[]=>⟨rfl,dt _⟩|x::xs=>by have h:=qD xs;exact⟨by simp only[bb,cD,bQ,jm];exact h.1,by simp only[bb,cX,cT];exact Nat.max_le.mpr ⟨Nat.zero_le _,h.2⟩⟩
theorem jD {y:List Nat}:bW st (.str x) (.str y)=(x==y):=by simp only[bW]
theorem Cs {x y:Int}:bW st (.int x) (.int y)=(x==y):=by simp only[bW]
theorem Lf {x y:Bool}:bW st (.bl x) (.bl y)=(x==y):=by simp only[bW]
theorem De {y:List Nat}:bT (.str x) (.str y)=(x==y):=by simp only[bT]
theorem yB {st:aB}(x:List Nat):∀ xs:List (List Nat),((xs.map D.str).any fun d=>bW st d (.str x))=xs.contains x|[]=>rfl|y::xs=>by simp only[bb,kx,jD,yB x xs,om];congr 1;exact Bool.beq_comm
end L3
end
section
namespace L3
open PySem PySem.Spec PyProof.Rows L2
mutual
noncomputable def rW (w:c9):D->Int|.str x=>hashStr w ⟨x.toArray⟩|.bl b=>Zx (if b=true then 1 else 0)|.tup ds=>Zx (gk (iO w ds))|_=>0
noncomputable def iO (w:c9):List D->List Int|[]=>[]|d::ds=>rW w d::iO w ds
end
mutual
noncomputable def uH:D->Nat|.tup ds=>lD ds+1|_=>1
noncomputable def lD:List D->Nat|[]=>0|d::ds=>uH d+lD ds
end
noncomputable def Wb (w:c9)(x:D×Addr×Value):DictEntry:=⟨rW w x.1,.ref x.2.1,x.2.2⟩
def SI (a:Addr)(xs:List (D×Addr×Value))(w:c9)(h:Heap):Prop:=∃ o es ep,h.get? a=some o/\o.ExactDict/\o.data=.dict es ep/\es.toList=xs.map (Wb w)
noncomputable def sM (a:Addr)(xs:List (D×Addr×Value)):HO:=.ext fun _ w h=>SI a xs w h
def clsAt (K:aa)(c:List Nat)(C:Addr):Prop:=jo K cz ⟨c.toArray⟩=some (some (.ref C))
theorem clsAt.inj {K:aa}{c:List Nat}{C C':Addr}(h:clsAt K c C)(h':clsAt K c C'):C=C':=by have:=h.symm.trans h';injection this with e;injection e with e;injection e
structure lL where
 params:Arguments
 body:Expr
 scope:Scope
 aL:List Str
 ps:List Str
 q:Str
noncomputable def Oj (e:Expr)(aL ps:List Str)(q:Str):lL:=match e with|.Lambda params body scope _=>⟨params,body,scope,aL,ps,q⟩|e=>⟨{ posonlyargs:=[],args:=[],vararg:=none,kwonlyargs:=[],kw_defaults:=[],kwarg:=none,defaults:=[] },e,{ kind:=.function,names:=[],isGenerator:=false,isCoroutine:=false },aL,ps,q⟩
noncomputable def Tb (s:Stmt):Expr:=match s with|.Return (some (.Subscript (.Call _ as _ _) _ _)) _=>as.getD 2 (.Name "" ⟨0,0,0,0⟩)|.Return (some (.Call _ as _ _)) _=>as.getD 2 (.Name "" ⟨0,0,0,0⟩)|.Assign _ (.Call _ as _ _) _=>as.getD 2 (.Name "" ⟨0,0,0,0⟩)|_=>.Name "" ⟨0,0,0,0⟩
noncomputable abbrev bd (n:Nat):Stmt:=PySem.Challenge.pw_leastloss_k11_whole_breaking_walked.main.body.getD n (.Pass ⟨0,0,0,0⟩)
noncomputable def eZ:lL:=Oj (Tb ((fL (bd 43)).getD 3 (.Pass ⟨0,0,0,0⟩))) ["rules"] ["held"] "first_breaks.<locals>.<lambda>"
noncomputable def LT:Nat->Option lL|55=>some eZ|_=>none
def nR (K:aa)(H:Hp)(a:Addr)(vs:List V):Prop :=(∃ o,H a=some (.frz o (.lst vs)))∨∃(o:Obj)(aD:Array ae)(n:Nat),K.lookup a=some o/\o.cls=.type "list" /\ o.dict=none/\o.data=.seq aD n/\aD.size<=sizeLine/\aR vs aD.toList
variable {H:Hp}{vs:List V}
theorem nR.sq {K:aa}{a:Addr}:nR K H a vs->dA K H a vs|.inl ⟨o,h⟩=>.inl (.inr ⟨o,h⟩)|.inr h=>.inr h
noncomputable def uE:Zy->D|.bool b=>.bl b|.int i=>.int i|.str x=>.str x.cps.toList|_=>.non
noncomputable def pJ:Zy->Bool|.none=>true|.bool _=>true|.int _=>true|.str _=>true|_=>false
def Nl (K:aa)(a:Addr)(ks vs:List D):Prop:=∃ T:List (Str×PyData),xt uz (fun b=>K.lookup b) a T=true/\(T.all fun p=>pJ p.2)=true/\ks=T.map (fun p=>.str p.1.cps.toList)/\vs=T.map (fun p=>uE p.2)
mutual
inductive Rep (K:aa)(H:Hp):D->V->Prop where|non:Rep K H .non .non|bl (b:Bool):Rep K H (.bl b) (.bl b)|int (i:Int):Rep K H (.int i) (.int i)|str (x:List Nat):Rep K H (.str x) (.str ⟨x.toArray⟩)|tup {ds:List D}{a:Addr}{vs:List V}(h:eU K H a vs)(r:aJ K H ds vs):Rep K H (.tup ds) (.ref a)|ref (a:Addr):Rep K H (.ref a) (.ref a)|bR {ds:List D}{a:Addr}{vs:List V}(h:nR K H a vs)(r:aJ K H ds vs):Rep K H (.bR ds) (.ref a)|dP {ks vs:List D}{a:Addr}(h:Nl K a ks vs):Rep K H (.dP ks vs) (.ref a)inductive aJ (K:aa)(H:Hp):List D->List V->Prop where|nil:aJ K H [] []|cons {d:D}{v:V}{ds:List D}{vs:List V}(h:Rep K H d v)(r:aJ K H ds vs):aJ K H (d::ds) (v::vs)end
def jG (K:aa)(H:Hp)(fs:List (List Nat×D))(ws:List (Str×V)):Prop:=ws.map (·.1)=fs.map (fun p=>(⟨p.1.toArray⟩:Str))/\aJ K H (fs.map (·.2)) (ws.map (·.2))
noncomputable def bears:HO->Bool|.lst _=>true|.ins _ _ _=>true|.ext _=>true|.tbl _=>true|.frz _ (.frz _ _)=>true|_=>false
def UA (oc:Obj)(q:Str):Prop:=∃ vs t,oc.data=.fields vs/\vs[1]? = some (.str q t)
inductive kC (H:Hp)(a:Addr)(clos:List (Str×Addr)):List Str->List V->Prop where|nil:kC H a clos [] []|cons {x:Str}{xs:List Str}{v:V}{vs:List V}(cl:Addr)(o:Obj)(u:ae)(l:clos.lookup x=some cl)(k:H cl=some (.frz o (.own a))) (d:o.data=.cell (some u)) (r:RelV v u) (t:kC H a clos xs vs):kC H a clos (x::xs) (v::vs)
variable {H':Hp}{clos:List (Str×Addr)}{xs:List Ex}
theorem kC.of {a:Addr}{xs:List Str}(h:kC H a clos xs vs)(k:∀ b o,H b=some (.frz o (.own a))->H' b=some (.frz o (.own a))):kC H' a clos xs vs:=by induction h with|nil=>exact .nil|cons cl o u l q d r t ih=>exact .cons cl o u l (k _ _ q) d r ih
inductive Cc (H:Hp)(a:Addr)(f:Nat)(vs:List V):Prop where|mk (T:lL)(clos:List (Str×Addr))(pm ctv:ae)(c':Addr)(oc:Obj)(ne:a≠0)(t:LT f=some T)(e:H a=some (.frz (og "<lambda>" T.q T.params T.body T.scope clos pm c' ctv) (.frz (og "<lambda>" T.q T.params T.body T.scope clos pm c' ctv) (.own a))))(ec:H c'=some (.frz oc (.own 0)))(co:UA oc T.q)(inj:∀ x y c,clos.lookup x=some c->clos.lookup y=some c->x=y)(dom:∀ x c,clos.lookup x=some c->x∈T.aL)(cap:kC H a clos T.aL vs):Cc H a f vs
def SJ (K:aa)(H:Hp)(a:Addr)(κ:CK):Prop :=qh K κ.c a=true/\(H a=some (.tbl #[])∨∃ c' oc,H a=some (.tbl #[g8 κ.ln,g8 κ.col,.ref c'])/\H c'=some (.frz oc (.own 0))/\UA oc ⟨κ.q.toArray⟩)
def vM (K:aa)(H:Hp)(a:Addr):MO->Prop|.lst ds=>∃ vs,H a=some (.lst vs)/\aJ K H ds vs|.dic _ _=>False|.ins c fs=>∃ C dx ws,clsAt K c C/\H a=some (.ins C dx ws)/\jG K H fs ws|.tab ks vs=>∃(xs:List (D×Addr×Value))(ws:List V),H a=some (sM a xs)/\(a==qe)=false/\xs.map (·.1)=ks/\(xs.map (·.1)).Nodup/\aJ K H ks (xs.map fun x=>.ref x.2.1)/\(∀ x∈xs,keyed x.1)/\aR ws (xs.map (·.2.2))/\aJ K H vs ws|.fn f cs=>∃ vs,Cc H a f vs/\aJ K H cs vs|.cod κ=>SJ K H a κ
def aS (K:aa)(st:aB)(H:Hp):Prop:=∀ a o,st a=some o->vM K H a o
def Step (H:Hp)(st:aB)(H':Hp)(aA:aB):Prop:=∀ a o,H a=some o->st a=none->H' a=some o/\aA a=none
variable {st:aB}
theorem Step.refl:Step H st H st:=fun _ _ h n=>⟨h,n⟩
theorem Step.trans {H1 H2:Hp}{aC aF:aB}(a:Step H st H1 aC)(b:Step H1 aC H2 aF):Step H st H2 aF:=fun x o h n=>let⟨h1,n1⟩:=a x o h n;b x o h1 n1
variable {v:V}{ds:List D}{m:MO}{o:HO}{R:VK}
section
variable {K:aa}{H1:Hp}{aA aC:aB}{a p:Addr}{d:D}
theorem vM.bears (h:vM K H a m):∃ o,H a=some o/\L3.bears o=true:=by cases m with|lst ds=>obtain⟨vs,q,_⟩:=h;exact⟨_,q,rfl⟩|dic _ _=>exact h.elim|ins c fs=>obtain⟨_,_,_,_,q,_⟩:=h;exact⟨_,q,rfl⟩|tab ks vs=>obtain⟨_,_,q,_⟩:=h;exact⟨_,q,rfl⟩|fn f cs=>obtain⟨_,⟨_,_,_,_,_,_,_,_,q⟩,_⟩:=h;exact⟨_,q,rfl⟩|cod κ=>obtain⟨_,q|⟨_,_,q,_⟩⟩:=h<;>exact⟨_,q,rfl⟩
theorem aS.vR (ok:aS K st H)(h:H a=some o)(n:L3.bears o=false):st a=none:=by cases e:st a with|none=>rfl|some u =>obtain⟨o',e1,e2⟩:=(ok a u e).bears;rw[h]at e1;cases e1;rw[n]at e2;cases e2
theorem aS.fresh (ok:aS K st H)(h:H a=none):st a=none:=by cases e:st a with|none=>rfl|some u =>obtain⟨o',e1,e2⟩:=(ok a u e).bears;rw[h]at e1;cases e1
theorem yN (ok:aS K st H)(s:Step H st H' aA)(h:eU K H a vs):eU K H' a vs:=by
 rcases h with(h|⟨o,h⟩)|h;·exact .inl (.inl (s a _ h (ok.vR h rfl)).1)
 ·exact .inl (.inr ⟨o,(s a _ h (ok.vR h rfl)).1⟩)
 ·exact .inr h
theorem uI (ok:aS K st H)(s:Step H st H' aA)(h:nR K H a vs):nR K H' a vs:=by
 rcases h with⟨o,h⟩|h;·exact .inl ⟨o,(s a _ h (ok.vR h rfl)).1⟩
 ·exact .inr h
mutual
theorem Rep.step (ok:aS K st H)(s:Step H st H' aA):∀{d:D}{v:V},Rep K H d v->Rep K H' d v|_,_,.non=>.non|_,_,.bl b=>.bl b|_,_,.int i=>.int i|_,_,.str x=>.str x|_,_,.tup h r=>.tup (yN ok s h) (aJ.step ok s r)|_,_,.ref a=>.ref a|_,_,.bR h r=>.bR (uI ok s h) (aJ.step ok s r)|_,_,.dP h=>.dP h
theorem aJ.step (ok:aS K st H)(s:Step H st H' aA):∀{ds:List D}{vs:List V},aJ K H ds vs->aJ K H' ds vs|_,_,.nil=>.nil|_,_,.cons h r=>.cons (Rep.step ok s h) (aJ.step ok s r)end
theorem VA (ok:aS K st H)(s:Step H st H' aA){c:Addr}{xs:List Str}(h:kC H c clos xs vs):kC H' c clos xs vs:=by induction h with|nil=>exact .nil|cons cl o u l k d r t ih=>exact .cons cl o u l (s _ _ k (ok.vR k rfl)).1 d r ih
theorem vM.step (ok:aS K st H)(s:Step H st H' aA)(h:vM K H a m)(e:H' a=H a):vM K H' a m:=by cases m with|lst ds=>obtain⟨vs,q,r⟩:=h;exact⟨vs,e.trans q,r.step ok s⟩|dic _ _=>exact h|ins c fs=>obtain⟨C,dx,ws,q,q2,q3,r⟩:=h;exact⟨C,dx,ws,q,e.trans q2,q3,r.step ok s⟩|tab ks vs=>obtain⟨xs,ws,q,q0,q1,q2,q3,q4,q5,r⟩:=h;exact⟨xs,ws,e.trans q,q0,q1,q2,q3.step ok s,q4,q5,r.step ok s⟩|fn f cs =>obtain⟨vs,⟨T,clos,pm,ctv,c',oc,ne0,t,q,ec,co,inj,dom,cap⟩,r⟩:=h;exact⟨vs,⟨T,clos,pm,ctv,c',oc,ne0,t,e.trans q,(s _ _ ec (ok.vR ec rfl)).1,co,inj,dom,VA ok s cap⟩,r.step ok s⟩|cod κ =>
 obtain⟨q0,q|⟨c',oc,q,ec,co⟩⟩:=h;·exact⟨q0,.inl (e.trans q)⟩
 ·exact⟨q0,.inr ⟨c',oc,e.trans q,(s _ _ ec (ok.vR ec rfl)).1,co⟩⟩
theorem aJ.length:∀{ds:List D}{vs:List V},aJ K H ds vs->ds.length=vs.length|_,_,.nil=>rfl|_,_,.cons _ r=>by simp [aJ.length r]
theorem aJ.get:∀{ds:List D}{vs:List V}{i:Nat}{d:D},aJ K H ds vs->ds[i]? = some d->∃ v,vs[i]? = some v/\Rep K H d v|_,_,_,_,.nil,e=>by simp at e|_,_,0,_,.cons h _,e=>by simp at e;subst e;exact⟨_,rfl,h⟩|_,_,i+1,d,.cons _ r,e=>by obtain⟨v,e1,e2⟩:=aJ.get (i:=i) (d:=d) r (by simpa using e);exact⟨v,by simpa using e1,e2⟩
theorem aJ.append:∀{ds es:List D}{vs us:List V},aJ K H ds vs->aJ K H es us->aJ K H (ds++es) (vs++us)|_,_,_,_,.nil,s=>s|_,_,_,_,.cons h r,s=>.cons h (aJ.append r s)
theorem aJ.take:∀{ds:List D}{vs:List V}(n:Nat),aJ K H ds vs->aJ K H (ds.take n) (vs.take n)|_,_,0,_=>by simp;exact .nil|_,_,_+1,.nil=>by simp;exact .nil|_,_,n+1,.cons h r=>by simp only[List.take_succ_cons];exact .cons h (aJ.take n r)
theorem aJ.drop:∀{ds:List D}{vs:List V}(n:Nat),aJ K H ds vs->aJ K H (ds.drop n) (vs.drop n)|_,_,0,r=>by simpa using r|_,_,_+1,.nil=>by simp;exact .nil|_,_,n+1,.cons _ r=>by simp only[yo];exact aJ.drop n r
theorem aJ.set (h:Rep K H d v):∀{ds:List D}{vs:List V}(i:Nat),aJ K H ds vs->aJ K H (ds.set i d) (vs.set i v)|_,_,_,.nil=>by simp;exact .nil|_,_,0,.cons _ r=>by simp only[dy];exact .cons h r|_,_,i+1,.cons q r=>by simp only[ey];exact .cons q (aJ.set h i r)
theorem aJ.dropLast (r:aJ K H ds vs):aJ K H ds.dropLast vs.dropLast:=by rw[xf,xf,r.length];exact r.take _
theorem aJ.reverse:∀{ds:List D}{vs:List V},aJ K H ds vs->aJ K H ds.reverse vs.reverse|_,_,.nil=>by simp;exact .nil|_,_,.cons h r=>by simp only[jy];exact(aJ.reverse r).append (.cons h .nil)
inductive QD (K:aa)(H:Hp)(st:aB)(R:VK)(v:V)(H':Hp):Prop where |mk (d:D)(aA:aB)(s:Step H st H' aA)(ok:aS K aA H')(r:Rep K H' d v)(q:R d aA):QD K H st R v H'
inductive Tu (K:aa)(H:Hp)(st:aB)(R:List D->aB->Prop)(vs:List V)(H':Hp):Prop where |mk (ds:List D)(aA:aB)(s:Step H st H' aA)(ok:aS K aA H')(r:aJ K H' ds vs)(q:R ds aA):Tu K H st R vs H'
inductive QX (K:aa)(H:Hp)(st:aB)(R:aB->Prop)(H':Hp):Prop where |mk (aA:aB)(s:Step H st H' aA)(ok:aS K aA H')(q:R aA):QX K H st R H'
theorem QD.here (ok:aS K st H)(r:Rep K H d v)(h:R d st):QD K H st R v H:=⟨d,st,.refl,ok,r,h⟩
theorem QD.after (s:Step H st H1 aC)(h:QD K H1 aC R v H'):QD K H st R v H':=let⟨d,aA,s',ok,r,q⟩:=h;⟨d,aA,s.trans s',ok,r,q⟩
theorem kR (hp:H p=none):Step H st (upd H p o) st:=fun a u h n=>by
 have e:a≠p:=fun e=>by rw[e,hp]at h;cases h
 exact⟨by rw[bI e];exact h,n⟩
theorem nV (hp:H p=none):Step H st (upd H p o) (put st p m):=fun a u h n=>by
 have e:a≠p:=fun e=>by rw[e,hp]at h;cases h
 exact⟨by rw[bI e];exact h,by rw[aM e];exact n⟩
theorem aS.new (ok:aS K st H)(hp:H p=none):aS K st (upd H p o):=fun a u e=>by
 have ne:a≠p:=fun z=>by obtain⟨o',q,_⟩:=(ok a u e).bears;rw[z,hp]at q;cases q
 exact(ok a u e).step ok (kR (st:=st) hp) (bI ne)
theorem aS.ZM (ok:aS K st H)(hp:H p=none)(r:vM K (upd H p o) p m):aS K (put st p m) (upd H p o):=fun a u e=>by
 have s:Step H st (upd H p o) (put st p m):=nV hp;by_cases ha:a=p;·subst ha;rw[aN]at e;cases e;exact r
 ·rw[aM ha]at e;exact(ok a u e).step ok s (bI ha)
theorem aS.iK (ok:aS K st H)(hp:H p=none)(r:aJ K H ds vs):aS K (put st p (.lst ds)) (upd H p (.lst vs)):=fun a u e=>by
 have s:Step H st (upd H p (.lst vs)) (put st p (.lst ds)):=nV hp;by_cases ha:a=p;·subst ha;rw[aN]at e;cases e;exact⟨vs,dE,r.step ok s⟩
 ·rw[aM ha]at e;exact(ok a u e).step ok s (bI ha)
theorem QD.MF (ok:aS K st H)(r:aJ K H ds vs)(hp:H p=none)(h:R (.tup ds) st):QD K H st R (.ref p) (upd H p (.tup vs)) :=⟨.tup ds,st,kR hp,ok.new hp,.tup (eU.of dE) (r.step ok (kR (st:=st) hp)),h⟩
theorem QD.iK (ok:aS K st H)(r:aJ K H ds vs)(hp:H p=none)(h:∀ p,st p=none->R (.ref p) (put st p (.lst ds))):QD K H st R (.ref p) (upd H p (.lst vs)) :=⟨.ref p,put st p (.lst ds),nV hp,ok.iK hp r,.ref p,h p (ok.fresh hp)⟩
theorem aS.lst (ok:aS K st H)(h:st a=some (.lst ds)):∃ vs,H a=some (.lst vs)/\aJ K H ds vs:=ok a _ h
theorem mF {m':MO}(h:st a=some m):Step H st (upd H a o) (put st a m'):=fun b u hb n=>by
 have e:b≠a:=fun e=>by rw[e,h]at n;cases n
 exact⟨by rw[bI e];exact hb,by rw[aM e];exact n⟩
theorem aS.set (ok:aS K st H)(h:st a=some m)(r:aJ K H ds vs):aS K (put st a (.lst ds)) (upd H a (.lst vs)):=fun b u e=>by
 have s:Step H st (upd H a (.lst vs)) (put st a (.lst ds)):=mF h;by_cases ha:b=a;·subst ha;rw[aN]at e;cases e;exact⟨vs,dE,r.step ok s⟩
 ·rw[aM ha]at e;exact(ok b u e).step ok s (bI ha)
theorem aS.GX {m':MO}(ok:aS K st H)(h:st a=some m)(r:vM K (upd H a o) a m'):aS K (put st a m') (upd H a o):=fun b u e=>by
 have s:Step H st (upd H a o) (put st a m'):=mF h;by_cases ha:b=a;·subst ha;rw[aN]at e;cases e;exact r
 ·rw[aM ha]at e;exact(ok b u e).step ok s (bI ha)
theorem QD.set (ok:aS K st H)(h:st a=some m)(r:aJ K H ds vs)(rd:Rep K H d v)(q:R d (put st a (.lst ds))):QD K H st R v (upd H a (.lst vs)) :=⟨d,put st a (.lst ds),mF h,ok.set h r,rd.step ok (mF (m':=.lst ds) h),q⟩
end
def dY (K:aa)(H:Hp)(ap:St)(σ:L2.St):Prop:=ap.length=σ.length/\∀(i:Nat)(d:D),ap[i]? = some (some d)->∃ v,σ[i]? = some (some v)/\Rep K H d v
variable {ap:St}{σ:L2.St}
theorem dY.step {K:aa}{aA:aB}(r:dY K H ap σ)(ok:aS K st H)(s:Step H st H' aA):dY K H' ap σ :=⟨r.1,fun i d e=>let⟨v,e1,e2⟩:=r.2 i d e;⟨v,e1,e2.step ok s⟩⟩
theorem dY.set {K:aa}{d:D}(r:dY K H ap σ)(i:Nat)(h:Rep K H d v):dY K H (ap.set i (some d)) (σ.set i (some v)):=by
 refine⟨by simpa using r.1,fun j e hj=>?_⟩;by_cases q:j=i
 ·subst q;by_cases hl:j<ap.length;·rw[lx hl]at hj;cases hj;exact⟨v,by rw[lx (by rw[<-r.1];exact hl)],h⟩
  ·rw[cu (by simp;omega)]at hj;cases hj
 ·rw[gy (fj q)]at hj;obtain⟨u,e1,e2⟩:=r.2 j e hj;exact⟨u,by rw[gy (fj q)];exact e1,e2⟩
abbrev Ih:=St->aB->VK->Prop
inductive cF (K:aa)(te:Ih)(σ:L2.St)(H:Hp)(Q:L2.VK):Prop where |mk (ap:St)(st:aB)(R:VK)(r:dY K H ap σ)(ok:aS K st H)(q:te ap st R)(hq:∀ v H',QD K H st R v H'->Q v H'):cF K te σ H Q
inductive kU (K:aa)(te:St->aB->(List D->aB->Prop)->Prop)(σ:L2.St)(H:Hp)(Q:List V->Hp->Prop):Prop where |mk (ap:St)(st:aB)(R:List D->aB->Prop)(r:dY K H ap σ)(ok:aS K st H)(q:te ap st R)(hq:∀ vs H',Tu K H st R vs H'->Q vs H'):kU K te σ H Q
inductive kW (K:aa)(te:Ih)(σ:L2.St)(H:Hp)(Q:Bool->Hp->Prop):Prop where |mk (ap:St)(st:aB)(R:Bool->aB->Prop)(r:dY K H ap σ)(ok:aS K st H)(q:te ap st (fun d aA=>fB d aA fun b=>R b aA))(hq:∀(b:Bool) H',QX K H st (R b) H'->Q b H'):kW K te σ H Q
variable {X:Cx}{e:Expr}
theorem _root_.L2.PE.imp {t t':L2.TE}(i:∀ σ H Q,t' σ H Q->t σ H Q)(h:PE X e t):PE X e t':=fun pz s σ H Q I q=>h pz s σ H Q I (i σ H Q q)
variable {t:L2.TT}
theorem _root_.L2.PT.imp {t':L2.TT}(i:∀ σ H Q,t' σ H Q->t σ H Q)(h:PT X e t):PT X e t':=fun pz s σ H Q I q=>h pz s σ H Q I (i σ H Q q)
theorem _root_.L2.PW.imp {t':L2.TT}(i:∀ σ H Q,t' σ H Q->t σ H Q)(h:PW X e t):PW X e t':=fun wh pz s σ H Q I q=>h wh pz s σ H Q I (i σ H Q q)
variable {es:List Expr}
theorem _root_.L2.PA.imp {t t':L2.TA}(i:∀ σ H Q,t' σ H Q->t σ H Q)(h:PA X es t):PA X es t':=fun pos pz s σ H Q I q=>h pos pz s σ H Q I (i σ H Q q)
variable {t:L2.TS}
theorem _root_.L2.PS.imp {e:Stmt}{t':L2.TS}(i:∀ D σ H,t' D σ H->t D σ H)(h:PS X e t):PS X e t':=fun pz s σ H D I q=>h pz s σ H D I (i D σ H q)
theorem _root_.L2.mG.imp {e:List Stmt}{t':L2.TS}(i:∀ D σ H,t' D σ H->t D σ H)(h:mG X e t):mG X e t':=fun pz s σ H D I q=>h pz s σ H D I (i D σ H q)
theorem gA:sizeLine=bE:=kl
variable {E:ae->ag->Prop}{g:Int->Int->V}{P:List D->Prop}
section
variable {C:bG}{sub:Nat->Nat->Bool}{E:XK}{a b c:Expr}{x y z:Ex}{pos:Pos}
theorem wK {d:D}(h:PE X e (tC v))(r:∀ H,Rep X.K H d v):PE X e (cF X.K (aG C sub E (.c d))) :=h.imp fun σ H Q ⟨ap,st,R,_,ok,q,hq⟩=>by exact hq v H (.here ok (r H) q)
set_option tactic.hygienic true in
theorem TJ {i:Nat}(h:PE X e (YX i)):PE X e (cF X.K (aG C sub E (.v i))) :=h.imp fun σ H Q ⟨ap,st,R,r,ok,q,hq⟩=>by
 have q:fA ap i (fun d=>R d st):=q;unfold fA at q;split at q;·rename_i d ed;obtain⟨v,e1,e2⟩:=r.2 i d ed;exact⟨v,e1,hq v H (.here ok e2 q)⟩
 ·exact q.elim
theorem Ti:PA X [] (kU X.K (bM C sub E [])) :=WS.imp fun σ H Q ⟨ap,st,R,r,ok,q,hq⟩=>by exact hq [] H ⟨[],st,.refl,ok,.nil,q⟩
theorem Mz (h:PE X e (cF X.K (aG C sub E x)))(hs:PA X es (kU X.K (bM C sub E xs)))(eV:aq (e::es) X.env=(false,eval e X.env)::aq es X.env):PA X (e::es) (kU X.K (bM C sub E (x::xs))) :=(HF h hs eV).imp fun σ H Q ⟨ap,st,R,r,ok,q,hq⟩=>by refine⟨ap,st,_,r,ok,q,fun v H1 ⟨d,aC,s1,aO,r1,q1⟩=>?_⟩;refine⟨ap,aC,_,r.step ok s1,aO,q1,fun vs H2 ⟨ds,aF,s2,bZ,r2,q2⟩=>?_⟩;exact hq _ _ ⟨d::ds,aF,s1.trans s2,bZ,.cons (r1.step aO s2) r2,q2⟩
theorem pR:∀(xs:List Ex){σ:St}{st:aB}{R:List D->aB->Prop},bU C C->bM C sub E xs σ st R->bM C sub E xs σ st (fun ds aA=>ds.length=xs.length/\R ds aA)|[],σ,st,R,_,h=>by exact⟨rfl,h⟩|x::xs,σ,st,R,hC,h=>by refine bC hC (fun _ _ z=>z) x (fun d aA h'=>?_) h;exact dF hC (fun _ _ z=>z) xs (fun ds aV z=>⟨by simp [z.1],z.2⟩) (pR xs hC h')
theorem Pj {k:Nat}(hC:bU C C)(hs:PA X es (kU X.K (bM C sub E xs)))(hl:xs.length<=bE):PE X (.Tuple es k pos) (cF X.K (aG C sub E (.tup xs))) :=(Jd hs).imp fun σ H Q ⟨ap,st,R,r,ok,q,hq⟩=>by
 refine⟨ap,st,_,r,ok,pR xs hC q,fun vs H1 ⟨ds,aC,s1,aO,r1,l1,q1⟩=>⟨?_,fun p hp=>?_⟩⟩;·rw[gA,<-r1.length,l1];exact hl
 ·exact hq _ _ (.after s1 (.MF aO r1 hp q1))
theorem Qg (hs:PA X es (kU X.K (bM C sub E xs))):PE X (.List es pos) (cF X.K (aG C sub E (.lst xs))) :=(Ll hs).imp fun σ H Q ⟨ap,st,R,r,ok,q,hq⟩=>by
 refine⟨ap,st,_,r,ok,q,fun vs H1 ⟨ds,aC,s1,aO,r1,q1⟩=>⟨?_,fun p hp=>?_⟩⟩;·rw[gA,<-r1.length];exact q1.1
 ·exact hq _ _ (.after s1 (.iK aO r1 hp q1.2))
theorem two {r:R2}{te tf:Ih}{Q:L2.VK}{W:D->D->aB->Prop}(sr:dY X.K H ap σ)(ok:aS X.K st H)(q:te ap st fun d aC=>tf ap aC fun d' aF=>W d d' aF)(hq:∀ v H',QD X.K H st R v H'->Q v H')(op:∀ d d' v v' H2 aF,aS X.K aF H2->Rep X.K H2 d v->Rep X.K H2 d' v'->W d d' aF->r v v' H2 (QD X.K H2 aF R))(mono:∀ v v' H (Q Q':L2.VK),(∀ v H,Q v H->Q' v H)->r v v' H Q->r v v' H Q'):Hf r (cF X.K te) (cF X.K tf) σ H Q:=by refine⟨ap,st,_,sr,ok,q,fun v H1 ⟨d,aC,s1,aO,r1,q1⟩=>?_⟩;refine⟨ap,aC,_,sr.step ok s1,aO,q1,fun v' H2 ⟨d',aF,s2,bZ,r2,q2⟩=>?_⟩;refine mono _ _ _ _ _ (fun u H' z=>hq u H' (.after (s1.trans s2) z)) (op d d' v v' H2 aF bZ (r1.step aO s2) r2 q2)
theorem NW (v v':V)(H:Hp)(Q Q':L2.VK)(h:∀ v H,Q v H->Q' v H)(z:OA g v v' H Q):OA g v v' H Q':=let⟨i,j,e,e',q⟩:=z;⟨i,j,e,e',h _ _ q⟩
theorem BX {P:Int->Int->Prop}(v v':V)(H:Hp)(Q Q':L2.VK)(h:∀ v H,Q v H->Q' v H)(z:rI P g v v' H Q):rI P g v v' H Q':=let⟨i,j,e,e',p,q⟩:=z;⟨i,j,e,e',p,h _ _ q⟩
end
theorem DX:fillsNumberSlot (.type "tuple") "mul" = pure false:=by kernel_rfl
theorem MX:seqRepeat? (.type "tuple")=pure (some (.builtin "tuple.__mul__")):=by kernel_rfl
theorem GY (a:Int)(t:Tok)(l:Addr)(items:Array ae)(n:Nat)(dd:Option Addr)(sl:Array (Option ae)):Meets (Builtin.«int.__rmul__» ⟨[.int a t,.ref l],[]⟩) (fun _ R s=>s.heap.get? l=some { cls:=.type "tuple", dict:=dd,data:=.seq items n,slots:=sl }/\R (.ok (.ret Value.notImplemented)) s) :=.of_wp fun prog w A R s h=>by obtain⟨hp,g,d,tk,os⟩:=s;obtain⟨hl,h⟩:=h;wp_walk;exact⟨_,rfl,h⟩
section
variable {prog:b7}{w:c9}{A:cp}{s:ag}
theorem LQ {l:Addr}{items:Array ae}{n:Nat}{dd:Option Addr}{sl:Array (Option ae)}{k:Int}{t:Tok}{Q:PySem.Fin->ag->Prop}(hl:s.heap.get? l=some { cls:=.type "tuple", dict:=dd,data:=.seq items n,slots:=sl })(h1:1<=k)(h2:k<1000)(hm:0<items.size)(hm2:items.size<=1000)(nS:k=1->Q (.done (.ret (.ref l))) s)(h:Q (.done (.ret (.ref s.heap.objs.size))) { s with heap:=s.heap.push { cls:=.type "tuple", data:=.seq ((ao k.toNat items).foldl (·++ ·) #[]) } }):wpAny (model prog w) A (Builtin.«tuple.__mul__» ⟨[.ref l,.int k t],[]⟩) Q E s:=by
 have hT:s.TypeIs (.ref l) "tuple":=⟨_,hl,rfl⟩;unfold Builtin.«tuple.__mul__»;wp_walk;rw[if_neg (by simp;omega)];show wpAny _ _ (ig (.ref l) >>= _) _ _ s;refine af (zl hl rfl ?_);have hne:items.isEmpty=false:=by rw[Array.isEmpty_eq_false_iff];intro z;rw[z]at hm;simp at hm
 have jp:wpAny (model prog w) A (if(decide (k<=0)||items.isEmpty)=true then do let __do_lift <-gv #[]ret __do_lift else have __do_jp:=fun(__r:Unit) =>have __do_jp:=fun(__r:Unit)=>do let __do_lift <- gv (qg (fun x1 x2=>x1++x2) #[] (ao k.toNat items))ret __do_lift;;if tw (↑items.size*k)=true then do let __r <-unsupported "tuple.__mul__:memory"__do_jp __r else __do_jp ();if ↑items.size*k>(2 ^ 63-1) / 8 then do
      rule "tuple.repeat.no-memory"let __do_lift <-newExc (gp "MemoryError") []let __r <-raiseNew __do_lift
      __do_jp __r else __do_jp ()) Q E s:=by
  rw[if_neg (by rw[hne];simp;omega)];have hmul:(items.size:Int)*k<=1000*1000:=Int.mul_le_mul (by omega) (by omega) (by omega) (by decide);have hmul0:0<=(items.size:Int)*k:=Int.mul_nonneg (by omega) (by omega);dsimp only;rw[if_neg (by omega),if_neg (by simp [tw,kl];omega)];wp_walk;have iS:¬(qg (fun x1 x2=>x1++x2) #[] (ao k.toNat items)).size>sizeLine:=by
   have e1:=yk items.toList k.toNat [];rw[av]at e1;have e2:qg (fun x1 x2=>x1++x2) #[] (ao k.toNat items)=(ao k.toNat items.toList).flatten.toArray:=by simpa using e1
   rw[e2,be,List.length_flatten,zm,List.sum_replicate_nat,j4,kl];have:k.toNat*items.size<=1000*1000:=Zz (by omega) hm2;omega
  rw[if_neg iS];wp_walk;exact h
 show wpAny _ _ (if(items.isEmpty||k==1)=true then _ else _) _ _ s;by_cases hk:k=1;·subst hk;rw[if_pos (by simp)];wp_walk;exact nS rfl
 ·rw[if_neg (by rw[hne];simpa using hk)];exact jp
end
noncomputable def Bb (K:aa):R2:=fun x y H Q=>∃(a:Addr)(k:Int)(xs:List V),x=.ref a/\y=.int k/\eU K H a xs/\0<xs.length/\xs.length<=1000/\1<=k/\k<1000/\(k=1->Q (.ref a) H)/\∀ p,H p=none->Q (.ref p) (upd H p (.tup (ao k.toNat xs).flatten))
theorem Dn:iV X (jr .Mult) (Bb X.K):=by
 intro pz s σ H x y v u Q I rx ry h;obtain⟨a,k,xs,rfl,rfl,hH,h0,h00,h1,h2,nS,q⟩:=h;cases rx;obtain⟨t,rfl⟩:=ry;obtain⟨aD,r,⟨⟨cls,dd,data,sl⟩,ho,hc,n,hd⟩,z⟩:=I.tuple hH;simp only at hc hd;subst hc hd;have hl:xs.length=aD.length:=r.length;have hnew:qg (fun x1 x2=>x1++x2) #[] (ao k.toNat aD.toArray)=(ao k.toNat aD).flatten.toArray:=by have:=yk aD k.toNat [];rw[av]at this;exact this
 refine uc (T :="tuple") (U :="int") (by decide) ⟨_,ho,rfl⟩ (fun s'=>zk s' k t) DX PySem.F.fills_int_mul xg MX PySem.F.slot_int_index.lookup (oj xg (zk s k t) PySem.F.entry_int_rmul (PySem.F.args_int_rmul_2 _ _) (GY k t a aD.toArray n dd sl) ⟨ho,rfl,⟨_,ho,rfl⟩,gb PySem.F.slot_tuple_mul ⟨_,ho,rfl⟩ PySem.F.entry_tuple_mul (LQ ho h1 h2 (by simpa [<-hl]using h0) (by simpa [<-hl]using h00) (fun e=>?_) ?_) (PySem.F.args_tuple_mul_2 _ _)⟩);·exact⟨_,rfl,.ref a,H,I,rfl,nS e⟩
 ·refine⟨_,rfl,.ref s.heap.objs.size,_,I.laid (a:=s.heap.objs.size) (o:=.tup (ao k.toNat xs).flatten) (t':=s.toks) (fun b u e=>aj _ e) (aw _) ?_,rfl,q _ (I.bO.fresh (aw _))⟩;refine⟨by rw[len_rep,kl];have:k.toNat*xs.length<=1000*1000:=Zz (by omega) h00;omega,_,r.rep k.toNat,?_⟩;rw[hnew];exact pT.new s.heap _
section
theorem Df {prog:b7}{w:c9}{A:cp}{s:ag}{t b:Addr}{ws:List ae}{Q:ae->ag->Prop}(ht:IsTup s.heap t #[])(hb:IsTup s.heap b ws.toArray)(h:Q (.ref b) s):wpAny (model prog w) A (jr .Add (.ref t) (.ref b)) Q E s:=by obtain⟨⟨cls,dd,data,sl⟩,ho,hc,n,hd⟩:=id ht;obtain⟨⟨cls2,dd2,data2,sl2⟩,ho2,hc2,n2,hd2⟩:=id hb;simp only at hc hd hc2 hd2;subst hc hd hc2 hd2;exact Yj ⟨_,ho,rfl⟩ ⟨_,ho2,rfl⟩ vj yv pw ou (nv _ _) (tuple_addW0 t b #[] ws.toArray n n2 dd dd2 sl sl2 (by simp)) ⟨ho,ho2,h⟩
noncomputable def Ba (K:aa):R2:=fun x y H Q=>∃ a b ys,x=.ref a/\y=.ref b/\eU K H a []/\eU K H b ys/\Q (.ref b) H
theorem Gr:iV X (jr .Add) (Ba X.K):=by intro pz s σ H x y v u Q I rx ry h;obtain⟨a,b,ys,rfl,rfl,ha,hb,q⟩:=h;cases rx;cases ry;obtain⟨aD,r1,p1,_⟩:=I.tuple ha;obtain⟨pF,r2,p2,_⟩:=I.tuple hb;have e:aD=[]:=r1.BK.mpr rfl;subst e;exact Df p1 p2 ⟨.ref b,H,I,rfl,q⟩
noncomputable def Sf:R2:=fun x y H Q=>∃ i j,x=.str i/\y=.str j/\i.length+j.length<=sizeLine/\Q (.str (i++j)) H
noncomputable abbrev Ce (K:aa):R2:=fun x y H Q=>OA (fun i j=>.int (i+j)) x y H Q∨Sf x y H Q∨Av K x y H Q∨Ba K x y H Q∨Hi x y H Q
theorem Ha:iV X (jr .Add) (Ce X.K):=iV.or Hq (iV.or SV (iV.or Dh (iV.or Gr Nf)))
noncomputable abbrev Bn (K:aa):R2:=fun x y H Q=>rI R0 (fun i j=>.int (i*j)) x y H Q∨Iv x y H Q∨Bb K x y H Q
theorem Dc:iV X (jr .Mult) (Bn X.K):=iV.or He (iV.or Jh Dn)
noncomputable def La:wQ->Operator |.add=>.Add|.sub=>.Sub|.mul=>.Mult|.fdiv=>.FloorDiv|.mod=>.Mod|.pow=>.Pow
noncomputable def SM (K:aa):wQ->R2|.add=>Ce K|.sub=>OA fun i j=>.int (i-j)|.mul=>Bn K|.fdiv=>rI Nr fun i j=>.int (i / j)|.mod=>rI (fun _ j=>0<j) fun i j=>.int (i % j)|.pow=>rI Kg fun i j=>.int (i ^ j.toNat)
theorem Ma:∀ op:wQ,iV X (jr (La op)) (SM X.K op)|.add=>Ha|.sub=>Lu|.mul=>Dc|.fdiv=>Hd|.mod=>Jz|.pow=>Nn
theorem WU {K:aa}:∀(op:wQ)(v v':V)(H:Hp)(Q Q':L2.VK),(∀ v H,Q v H->Q' v H)->SM K op v v' H Q->SM K op v v' H Q'
 |.add,v,v',H,Q,Q',h,z=>by
  rcases z with z|⟨i,j,e,e',l,q⟩|⟨a,b,xs,ys,e,e',s,s',n,l,q,q'⟩|⟨a,b,ys,e,e',s,s',q⟩|⟨l,b,xs,zs,e,e',s,s',n,q⟩;·exact .inl (NW _ _ _ _ _ h z)
  ·exact .inr (.inl ⟨i,j,e,e',l,h _ _ q⟩)
  ·exact .inr (.inr (.inl ⟨a,b,xs,ys,e,e',s,s',n,l,fun z=>h _ _ (q z),fun z p hp=>h _ _ (q' z p hp)⟩))
  ·exact .inr (.inr (.inr (.inl ⟨a,b,ys,e,e',s,s',h _ _ q⟩)))
  ·exact .inr (.inr (.inr (.inr ⟨l,b,xs,zs,e,e',s,s',n,fun p hp=>h _ _ (q p hp)⟩)))|.sub,v,v',H,Q,Q',h,z=>NW _ _ _ _ _ h z|.mul,v,v',H,Q,Q',h,z=>by
  rcases z with z|⟨l,k,xs,e,e',s,b1,b2,b3,q⟩|⟨l,k,xs,e,e',s,b1,b2,b3,b4,q0,q⟩;·exact .inl (BX _ _ _ _ _ h z)
  ·exact .inr (.inl ⟨l,k,xs,e,e',s,b1,b2,b3,fun p hp=>h _ _ (q p hp)⟩)
  ·exact .inr (.inr ⟨l,k,xs,e,e',s,b1,b2,b3,b4,fun z=>h _ _ (q0 z),fun p hp=>h _ _ (q p hp)⟩)|.fdiv,v,v',H,Q,Q',h,z=>BX _ _ _ _ _ h z|.mod,v,v',H,Q,Q',h,z=>BX _ _ _ _ _ h z|.pow,v,v',H,Q,Q',h,z=>BX _ _ _ _ _ h z
end
variable {P:Bool->Prop}
section
variable {K:aa}
theorem Rep.int_inv {i:Int}(r:Rep K H (.int i) v):v=.int i:=by cases r;rfl
theorem Rep.str_inv {x:List Nat}(r:Rep K H (.str x) v):v=.str ⟨x.toArray⟩:=by cases r;rfl
theorem Rep.fU {b:Bool}(r:Rep K H (.bl b) v):v=.bl b:=by cases r;rfl
theorem Rep.gC (r:Rep K H .non v):v=.non:=by cases r;rfl
theorem Rep.cQ {a:Addr}(r:Rep K H (.ref a) v):v=.ref a:=by cases r;rfl
theorem Rep.cA (r:Rep K H (.tup ds) v):∃ a vs,v=.ref a/\eU K H a vs/\aJ K H ds vs:=by cases r with|tup h r=>exact⟨_,_,rfl,h,r⟩
theorem Rep.MB {ks vs:List D}(r:Rep K H (.dP ks vs) v):∃ a,v=.ref a/\Nl K a ks vs:=by cases r with|dP h=>exact⟨_,rfl,h⟩
theorem Rep.mJ (r:Rep K H (.bR ds) v):∃ a vs,v=.ref a/\nR K H a vs/\aJ K H ds vs:=by cases r with|bR h r=>exact⟨_,_,rfl,h,r⟩
set_option tactic.hygienic true in
theorem dQ {a:Nat}{P:List D->Prop}(h:cO st a P):∃ ds,st a=some (.lst ds)/\P ds:=by
 unfold cO at h;split at h;·rename_i ds e;exact⟨ds,e,h⟩
 ·exact h.elim
set_option tactic.hygienic true in
theorem uB {a:Nat}{P:List D->Prop}{M:List D->List D->Prop}(ok:aS K st H)(h:eQ st a P M):∃ ds,st a=some (.lst ds)/\P ds:=by
 unfold eQ at h;split at h;·rename_i ds e;exact⟨ds,e,h⟩
 ·rename_i e;exact(ok _ _ e).elim
 ·exact h.elim
theorem fE {α:Type}{o:Option α}{P:α->Prop}(h:dJ o P):∃ x,o=some x/\P x:=by
 unfold dJ at h;split at h;·exact⟨_,rfl,h⟩
 ·exact h.elim
theorem Ew (x y:List Nat):(⟨x.toArray⟩:Str)++⟨y.toArray⟩=⟨(x++y).toArray⟩:=by show Str.mk _=Str.mk _;simp
theorem aJ.nil_inv (r:aJ K H [] vs):vs=[]:=by cases r;rfl
theorem aJ.flat {ds:List D}{vs:List V}(r:aJ K H ds vs):∀ k:Nat,aJ K H (ao k ds).flatten (ao k vs).flatten|0=>.nil|k+1=>by simp only[i9,mo];exact r.append (aJ.flat r k)
set_option tactic.hygienic true in
theorem UO {op:wQ}{d d':D}{v':V}(ok:aS K st H)(r:Rep K H d v)(r':Rep K H d' v')(h:iY op d d' st R):SM K op v v' H (QD K H st R):=by
 unfold iY at h;split at h;·cases r.int_inv;cases r'.int_inv;exact .inl ⟨_,_,rfl,rfl,.here ok (.int _) h⟩
 ·rename_i a b;cases r.str_inv;cases r'.str_inv;refine .inr (.inl ⟨_,_,rfl,rfl,?_,?_⟩);·rw[gA];simpa [kv]using h.1
  ·rw[Ew];exact .here ok (.str _) h.2
 ·rename_i ds es;obtain⟨a,vs,rfl,s1,q1⟩:=r.cA;obtain⟨b,us,rfl,s2,q2⟩:=r'.cA;cases ds with|nil =>cases q1.nil_inv;exact .inr (.inr (.inr (.inl ⟨a,b,us,rfl,rfl,s1,s2,.here ok r' (by simpa using h.2)⟩)))|cons d ds =>
   refine .inr (.inr (.inl ⟨a,b,vs,us,rfl,rfl,s1,s2,?_,?_,fun e=>?_,fun _ p hp=>.MF ok (q1.append q2) hp h.2⟩));·intro e;subst e;cases q1
   ·rw[gA,<-q1.length,<-q2.length];exact h.1
   ·subst e;cases q2;exact .here ok r (by simpa using h.2)
 ·rename_i a b;cases r.cQ;cases r'.cQ;obtain⟨xs,e1,h⟩:=dQ h;obtain⟨ys,e2,h⟩:=dQ h;obtain⟨vs,g1,q1⟩:=ok.lst e1;obtain⟨us,g2,q2⟩:=ok.lst e2;refine .inr (.inr (.inr (.inr ⟨a,b,vs,us,rfl,rfl,g1,g2,?_,fun p hp=>.iK ok (q1.append q2) hp h.2⟩)));rw[gA,<-q1.length,<-q2.length];simpa using h.1
 ·cases r.int_inv;cases r'.int_inv;exact⟨_,_,rfl,rfl,.here ok (.int _) h⟩
 ·cases r.int_inv;cases r'.int_inv;exact .inl ⟨_,_,rfl,rfl,h.1.imp (fun z=>z) (fun z=>z),.here ok (.int _) h.2⟩
 ·rename_i a k;cases r.cQ;cases r'.int_inv;obtain⟨xs,e1,h1,h2,h⟩:=dQ h;obtain⟨vs,g1,q1⟩:=ok.lst e1;refine .inr (.inl ⟨a,k,vs,rfl,rfl,g1,by omega,by omega,?_,fun p hp=>.iK ok (q1.flat _) hp h.2⟩);rw[gA,<-q1.length];exact h1
 ·rename_i xs k;obtain⟨a,vs,rfl,f,g⟩:=r.cA;cases r'.int_inv;obtain⟨⟨c1,c2,c3,c4⟩,h⟩:=h;refine .inr (.inr ⟨a,k,vs,rfl,rfl,f,by rw[<-g.length];exact c1,by rw[<-g.length];exact c2,c3,c4,fun e=>?_,fun p hp=>.MF ok (g.flat _) hp h⟩);subst e;have e1:(ao (1:Int).toNat xs).flatten=xs:=by simp
  rw[e1]at h;exact .here ok r h
 ·cases r.int_inv;cases r'.int_inv;exact⟨_,_,rfl,rfl,h.1,.here ok (.int _) h.2⟩
 ·cases r.int_inv;cases r'.int_inv;exact⟨_,_,rfl,rfl,h.1,.here ok (.int _) h.2⟩
 ·cases r.int_inv;cases r'.int_inv;exact⟨_,_,rfl,rfl,h.1,.here ok (.int _) h.2⟩
 ·exact h.elim
end
variable {op:BoolOp}
section
variable {C:bG}{sub:Nat->Nat->Bool}{E:XK}{a b c:Expr}{x y z:Ex}{pos:Pos}
theorem Pl {op:wQ}(ha:PE X a (cF X.K (aG C sub E x)))(hb:PE X b (cF X.K (aG C sub E y))):PE X (.BinOp a (La op) b pos) (cF X.K (aG C sub E (.bin op x y))) :=(Qr (Ma op) ha hb).imp fun σ H Q ⟨ap,st,R,r,ok,q,hq⟩=>by exact two (W:=fun d d' aF=>iY op d d' aF R) r ok q hq (fun d d' v v' H2 aF bZ r1 r2 h=>UO bZ r1 r2 h) (WU op)
noncomputable def Um (d:D)(st:aB):Option Bool:=match d with
 |.non=>some false|.bl b=>some b|.int i=>some (i != 0)|.str x=>if x.length<=bE then some (!x.isEmpty)else none|.tup ds=>some (!ds.isEmpty)|.ref a=>match st a with|some (.lst ds)=>some (!ds.isEmpty)|some (.dic ks _)=>some (!ks.isEmpty)|some _=>none|none=>none
 |.bR ds=>some (!ds.isEmpty)|_=>none
set_option tactic.hygienic true in
theorem xQ {d:D}:fB d st P↔∃ k,Um d st=some k/\P k:=by cases d with
 |str x =>
  show(x.length<=bE/\P (!x.isEmpty))↔∃ k,(if x.length<=bE then some (!x.isEmpty)else none)=some k/\P k;split;·rename_i h;exact⟨fun z=>⟨_,rfl,z.2⟩,fun⟨k,e,q⟩=>⟨h,by cases e;exact q⟩⟩
  ·rename_i h;exact⟨fun z=>(h z.1).elim,fun⟨k,e,q⟩=>by cases e⟩|ref a =>show eQ st a _ _↔∃ k,(match st a with|some (.lst ds)=>some (!ds.isEmpty)|some (.dic ks _)=>some (!ks.isEmpty)|some _=>none|none=>none)=some k/\P k;unfold eQ;cases st a with|none=>exact⟨fun z=>z.elim,fun⟨k,e,q⟩=>by cases e⟩|some o=>cases o with|lst ds=>exact⟨fun z=>⟨_,rfl,z⟩,fun⟨k,e,q⟩=>by cases e;exact q⟩|dic ks vs=>exact⟨fun z=>⟨_,rfl,z⟩,fun⟨k,e,q⟩=>by cases e;exact q⟩|ins _ _=>exact⟨fun z=>z.elim,fun⟨k,e,q⟩=>by cases e⟩|tab _ _=>exact⟨fun z=>z.elim,fun⟨k,e,q⟩=>by cases e⟩|fn _ _=>exact⟨fun z=>z.elim,fun⟨k,e,q⟩=>by cases e⟩|cod _=>exact⟨fun z=>z.elim,fun⟨k,e,q⟩=>by cases e⟩
 |dP _ _=>exact⟨fun z=>z.elim,fun⟨k,e,q⟩=>by cases e⟩|exc _=>exact⟨fun z=>z.elim,fun⟨k,e,q⟩=>by cases e⟩|_=>exact⟨fun z=>⟨_,rfl,z⟩,fun⟨k,e,q⟩=>by cases e;exact q⟩
theorem jQ {α:Type}(x:List α):(!x.isEmpty)=(((x.length:Nat):Int) != 0):=by cases x with|nil=>rfl|cons a r =>simp only[uw,iq,bf];symm;rw[bne_iff_ne];omega
set_option tactic.hygienic true in
theorem tZ {K:aa}{d:D}(ok:aS K st H)(r:Rep K H d v)(h:fB d st P):∃ k,YQ K v H k/\P k:=by
 unfold fB at h;split at h;·cases r.gC;exact⟨_,rfl,h⟩
 ·cases r.fU;exact⟨_,rfl,h⟩
 ·cases r.int_inv;exact⟨_,rfl,h⟩
 ·rename_i x P;cases r.str_inv;refine⟨_,⟨by rw[gA];simpa [kv]using h.1,?_⟩,h.2⟩;rw[jQ];simp [kv]
 ·obtain⟨a,vs,rfl,s1,q1⟩:=r.cA;refine⟨_,.inr (.inl ⟨vs,s1,?_⟩),h⟩;rw[jQ,jQ,q1.length]
 ·cases r.cQ;obtain⟨ds,e,h⟩:=uB ok h;obtain⟨vs,g,q⟩:=ok.lst e;refine⟨_,.inl ⟨vs,dA.of g,?_⟩,h⟩;rw[jQ,jQ,q.length]
 ·obtain⟨a,vs,rfl,s1,q1⟩:=r.mJ;refine⟨_,.inl ⟨vs,s1.sq,?_⟩,h⟩;rw[jQ,jQ,q1.length]
 ·exact h.elim
theorem YW (h:PE X e (cF X.K (aG C sub E x)))(he:∀ whole,Yw e X.env whole=(do let v <-whole;pe e.pos;ky [v] (truthy v))):PT X e (kW X.K (aG C sub E x)) :=(ZV h he).imp fun σ H Q ⟨ap,st,R,r,ok,q,hq⟩=>by refine⟨ap,st,_,r,ok,q,fun v H1 ⟨d,aC,s1,aO,r1,q1⟩=>?_⟩;obtain⟨k,t,z⟩:=tZ aO r1 q1;exact⟨k,t,hq _ _ ⟨aC,s1,aO,z⟩⟩
theorem Jm (h:PT X e (kW X.K (aG C sub E x))):PT X (.UnaryOp .Not e pos) (kW X.K (aG C sub E (.not_ x))) :=(Mu h).imp fun σ H Q ⟨ap,st,R,r,ok,q,hq⟩=>by exact⟨ap,st,fun b aA=>R (!b) aA,r,ok,q,fun b H1 z=>hq _ _ z⟩
theorem Qa (h:PE X e (cF X.K (aG C sub E x))):PE X (.UnaryOp .Not e pos) (cF X.K (aG C sub E (.not_ x))):=by intro pz s σ H Q I ⟨ap,st,R,r,ok,q,hq⟩;refine UnaryOp_ (bF (h pz s σ H _ I ⟨ap,st,_,r,ok,q,fun v H' z=>z⟩) fun u s1 ⟨v,H1,I1,rv,d,aC,st1s,aO,r1,q1⟩=>?_);obtain⟨k,t,z⟩:=tZ aO r1 q1;exact not_of (bF (EY pz s1 σ H1 v u (fun b H'=>Q (.bl (!b)) H') I1 rv ⟨k,t,hq _ _ (.after st1s (.here aO (.bl _) z))⟩) fun b s2 ⟨H2,I2,w⟩=>⟨.bl (!b),H2,I2,rfl,w⟩)
theorem Jq (h:PT X e (kW X.K (aG C sub E x))):PW X (.BoolOp op [e] pos) (kW X.K (aG C sub E x)):=by
 cases op;·exact Gk h
 ·exact Me h
theorem Hw {rest:List Expr}(hC:bU C C)(ha:PT X a (kW X.K (aG C sub E x)))(hb:PW X (.BoolOp .And (b::rest) pos) (kW X.K (aG C sub E y))):PW X (.BoolOp .And (a::b::rest) pos) (kW X.K (aG C sub E (.and_ x y))) :=(Nh ha hb).imp fun σ H Q ⟨ap,st,R,r,ok,q,hq⟩=>by
 refine⟨ap,st,fun k aC=>if k=true then aG C sub E y ap aC (fun d aA=>fB d aA fun b=>R b aA)else R false aC,r,ok,bC hC (fun _ _ z=>z) x (fun d aC z=>?_) q,fun k H1 ⟨aC,s1,aO,z⟩=>?_⟩;·rw[xQ]at z ⊢;obtain⟨k,t,z⟩:=z;refine⟨k,t,?_⟩;cases k with|true=>exact z|false =>have z':fB d aC fun b=>R b aC:=z;rw[xQ]at z';obtain⟨k',t',z'⟩:=z';rw[t]at t';cases t';exact z'
 ·cases k with|true=>exact⟨ap,aC,R,r.step ok s1,aO,z,fun k H2 ⟨aF,s2,bZ,w⟩=>hq _ _ ⟨aF,s1.trans s2,bZ,w⟩⟩|false=>exact hq _ _ ⟨aC,s1,aO,z⟩
theorem Qm {rest:List Expr}(hC:bU C C)(ha:PT X a (kW X.K (aG C sub E x)))(hb:PW X (.BoolOp .Or (b::rest) pos) (kW X.K (aG C sub E y))):PW X (.BoolOp .Or (a::b::rest) pos) (kW X.K (aG C sub E (.or_ x y))) :=(Oy ha hb).imp fun σ H Q ⟨ap,st,R,r,ok,q,hq⟩=>by
 refine⟨ap,st,fun k aC=>if k=true then R true aC else aG C sub E y ap aC (fun d aA=>fB d aA fun b=>R b aA),r,ok,bC hC (fun _ _ z=>z) x (fun d aC z=>?_) q,fun k H1 ⟨aC,s1,aO,z⟩=>?_⟩;·rw[xQ]at z ⊢;obtain⟨k,t,z⟩:=z;refine⟨k,t,?_⟩;cases k with|false=>exact z|true =>have z':fB d aC fun b=>R b aC:=z;rw[xQ]at z';obtain⟨k',t',z'⟩:=z';rw[t]at t';cases t';exact z'
 ·cases k with|false=>exact⟨ap,aC,R,r.step ok s1,aO,z,fun k H2 ⟨aF,s2,bZ,w⟩=>hq _ _ ⟨aF,s1.trans s2,bZ,w⟩⟩|true=>exact hq _ _ ⟨aC,s1,aO,z⟩
theorem Si {rest:List Expr}(ha:PE X a (cF X.K (aG C sub E x)))(hb:PE X (.BoolOp .And (b::rest) pos) (cF X.K (aG C sub E y))):PE X (.BoolOp .And (a::b::rest) pos) (cF X.K (aG C sub E (.and_ x y))):=by intro pz s σ H Q I ⟨ap,st,R,r,ok,q,hq⟩;refine BoolOp_and (bF (ha pz s σ H _ I ⟨ap,st,_,r,ok,q,fun v H' z=>z⟩) fun u s1 ⟨v,H1,I1,rv,d,aC,st1s,aO,r1,q1⟩=>?_);obtain⟨k,t,z⟩:=tZ aO r1 q1;refine bF (EY pz s1 σ H1 v u (fun b H'=>b=k/\H'=H1) I1 rv ⟨k,t,rfl,rfl⟩) fun b s2 ⟨H2,I2,e,e'⟩=>?_;subst e e';cases b with|true=>exact hb pz s2 σ H2 Q I2 ⟨ap,aC,R,r.step ok st1s,aO,z,fun v H' w=>hq _ _ (.after st1s w)⟩|false=>exact⟨v,H2,I2,rv,hq _ _ (.after st1s (.here aO r1 z))⟩
theorem Vv {rest:List Expr}(ha:PE X a (cF X.K (aG C sub E x)))(hb:PE X (.BoolOp .Or (b::rest) pos) (cF X.K (aG C sub E y))):PE X (.BoolOp .Or (a::b::rest) pos) (cF X.K (aG C sub E (.or_ x y))):=by intro pz s σ H Q I ⟨ap,st,R,r,ok,q,hq⟩;refine BoolOp_or (bF (ha pz s σ H _ I ⟨ap,st,_,r,ok,q,fun v H' z=>z⟩) fun u s1 ⟨v,H1,I1,rv,d,aC,st1s,aO,r1,q1⟩=>?_);obtain⟨k,t,z⟩:=tZ aO r1 q1;refine bF (EY pz s1 σ H1 v u (fun b H'=>b=k/\H'=H1) I1 rv ⟨k,t,rfl,rfl⟩) fun b s2 ⟨H2,I2,e,e'⟩=>?_;subst e e';cases b with|false=>exact hb pz s2 σ H2 Q I2 ⟨ap,aC,R,r.step ok st1s,aO,z,fun v H' w=>hq _ _ (.after st1s w)⟩|true=>exact⟨v,H2,I2,rv,hq _ _ (.after st1s (.here aO r1 z))⟩
theorem Sl (h:PE X e (cF X.K (aG C sub E x))):PE X (.BoolOp op [e] pos) (cF X.K (aG C sub E x)):=Ky h
end
end L3
end
section
namespace L3
open PySem PySem.Spec PyProof.Rows L2 PySem.SeqAt
mutual
theorem yL:∀ d:D,bQ d=true->bT d d=true|.non,_=>rfl|.bl b,_=>by simp [bT]|.int i,_=>by simp [bT]|.str x,_=>by simp [bT]|.tup ds,h=>by simp only[bQ]at h;simp only[bT];exact lW ds h|.ref _,h=>by simp [bQ]at h|.dP _ _,h=>by simp [bQ]at h|.bR _,h=>by simp [bQ]at h|.exc _,h=>by simp [bQ]at h;theorem lW:∀ ds:List D,cD ds=true->gU ds ds=true|[],_=>rfl|d::ds,h=>by simp only[cD,bc]at h;simp only[gU,bc];exact⟨yL d h.1,lW ds h.2⟩end
theorem oH:∀{ds:List D}{d:D},cD ds=true->d∈ds->bQ d=true
 |e::ds,d,h,m=>by
  simp only[cD,bc]at h;rcases List.mem_cons.mp m with rfl|m;·exact h.1
  ·exact oH h.2 m
theorem kK:∀{ds:List D}{d:D},d∈ds->cT d<=cX ds
 |e::ds,d,m=>by
  simp only[cX];rcases List.mem_cons.mp m with rfl|m;·omega
  ·have:=kK m;omega
theorem yJ:∀{ds es:List D}(e:Nat->Bool),(∀ j d d',ds[j]? = some d->es[j]? = some d'->e j=bT d d')->((ay (min ds.length es.length)).all e&&ds.length==es.length)=gU ds es
 |[],[],e,h=>by simp [gU]|[],_::_,e,h=>by simp [gU]|_::_,[],e,h=>by simp [gU]|d::ds,d'::es,e,h=>by
  have ih:=yJ (fun j=>e (j+1)) fun j x x' e1 e2=>h (j+1) x x' (by simpa using e1) (by simpa using e2);have h0:=h 0 d d' rfl rfl;simp only[gU,bf,xi,iu,ny,p8,mq];rw[<-ih,h0];have hl:(ds.length+1==es.length+1)=(ds.length==es.length):=by simp
  rw[hl,Aaa]
variable {ds:List D}
theorem VS {es:List D}(e:Nat->Bool)(hl:ds.length=es.length)(h:∀ j d d',ds[j]? = some d->es[j]? = some d'->e j=bT d d'):(ay ds.length).all e=gU ds es:=by rw[<-yJ e h,<-hl];simp
theorem NS:∀{ds es:List D},ds.length≠es.length->gU ds es=false|[],[],h=>(h rfl).elim|[],_::_,h=>rfl|_::_,[],h=>rfl|d::ds,d'::es,h=>by simp only[gU,NS (ds:=ds) (es:=es) (by simpa using h),cx]
variable {X:Cx}{pz:List (Addr×Obj)}{σ:L2.St}{H:Hp}{st:aB}{vs us:List V}{aD:Array ae}{d':D}{v v':V}{u u':ae}{l b:Addr}
section
variable {s:ag}
theorem aR.at {aD:List ae}(r:aR vs aD){j:Nat}(h:j<aD.toArray.size):∃ v,vs[j]? = some v/\RelV v aD.toArray[j]:=by
 have hl:=r.length;have hj:j<vs.length:=by simp at h;omega
 obtain⟨u,e1,e2⟩:=aR.get r (ai hj);refine⟨vs[j],ai hj,?_⟩;rw[ue]at e1;obtain⟨h1,e1⟩:=e1;simp only[List.getElem_toArray,e1];exact e2
theorem aJ.get' {K:aa}:∀{ds:List D}{vs:List V}{i:Nat}{v:V},aJ K H ds vs->vs[i]? = some v->∃ d,ds[i]? = some d/\Rep K H d v|_,_,_,_,.nil,e=>by simp at e|_,_,0,_,.cons h _,e=>by simp at e;subst e;exact⟨_,rfl,h⟩|_,_,i+1,v,.cons _ r,e=>by obtain⟨d,e1,e2⟩:=aJ.get' (i:=i) (v:=v) r (by simpa using e);exact⟨d,by simpa using e1,e2⟩
set_option tactic.hygienic true in
theorem BP (I:Inv X pz σ H s):∀(n:Nat){d d':D}{v:V},cT d<=n->bQ d=true->bQ d'=true->Rep X.K H d v->Rep X.K H d' v->d=d':=by intro n;induction n with
 |zero =>intro d d' v hn p p' r r';cases r<;>cases r'<;>first|rfl|(simp [bQ]at p;done)|(simp [bQ]at p';done)|(simp [cT]at hn;done)
 |succ n ih =>
 intro d d' v hn p p' r r';cases r<;>cases r'<;>first|rfl|(simp [bQ]at p;done)|(simp [bQ]at p';done)|skip
 rename_i ds a vs h r es us r' h';cases I.uV h h';have go:∀(ds es:List D)(vs:List V),cX ds<=n->cD ds=true->cD es=true->aJ X.K H ds vs->aJ X.K H es vs->ds=es:=by intro ds;induction ds with|nil=>intro es vs _ _ _ r r';cases r;cases r';rfl|cons d ds ihs =>intro es vs hd pp pp' r r';cases r with|cons r1 r2=>cases r' with|cons r1' r2' =>simp only[cX]at hd;simp only[cD,bc]at pp pp';rw[ih (by omega) pp.1 pp'.1 r1 r1',ihs _ _ (by omega) pp.2 pp'.2 r2 r2']
 rw[go ds es vs (by simp only[cT]at hn;omega) (by simpa [bQ]using p) (by simpa [bQ]using p') r r']
def zH (A:cp)(s:ag)(u u':ae)(b:Bool):Prop:=RcAt A s u u' b/\EqAt A s u u' b/\RcNeAt A s u u' (!b)
noncomputable def qC:D->Bool|.non=>true|.bl _=>true|.int _=>true|.str _=>true|_=>false
theorem M1 (x y:List Nat):((⟨x.toArray⟩:Str)==⟨y.toArray⟩)=(x==y):=by rw[<-str_beq]
theorem xI {K:aa}{A:cp}{d:D}(p:qC d=true)(p':qC d'=true)(r:Rep K H d v)(rv:RelV v u)(r':Rep K H d' v')(bJ:RelV v' u'):zH A s u u' (bT d d'):=by cases d with
 |non=>cases d' with|non =>cases r.gC;cases rv;cases r'.gC;cases bJ;exact⟨RcAt.none_none,Za _,RcNeAt.none_none⟩|bl b' =>cases r.gC;cases rv;cases r'.fU;cases bJ;simp only[bT];exact⟨RcAt.none_bool _,EqAt.none_bool _,RcNeAt.none_bool _⟩|int i' =>cases r.gC;cases rv;cases r'.int_inv;obtain⟨_,rfl⟩:=bJ;simp only[bT];exact⟨RcAt.none_int _ _,EqAt.none_int _ _,RcNeAt.none_int _ _⟩|str x' =>cases r.gC;cases rv;cases r'.str_inv;obtain⟨_,rfl⟩:=bJ;simp only[bT];exact⟨RcAt.none_str _ _,EqAt.none_str _ _,RcNeAt.none_str _ _⟩|_=>cases p'
 |bl b=>cases d' with|non =>cases r.fU;cases rv;cases r'.gC;cases bJ;simp only[bT];exact⟨RcAt.bool_none _,EqAt.bool_none _,RcNeAt.bool_none _⟩|bl b' =>cases r.fU;cases rv;cases r'.fU;cases bJ;simp only[bT];exact⟨RcAt.bool_bool _ _,xv _ _,RcNeAt.bool_bool _ _⟩|int i' =>cases r.fU;cases rv;cases r'.int_inv;obtain⟨_,rfl⟩:=bJ;simp only[bT];exact⟨RcAt.bool_int _ _ _,EqAt.bool_int _ _ _,RcNeAt.bool_int _ _ _⟩|str x' =>cases r.fU;cases rv;cases r'.str_inv;obtain⟨_,rfl⟩:=bJ;simp only[bT];exact⟨RcAt.bool_str _ _ _,yz _ _ _,RcNeAt.bool_str _ _ _⟩|_=>cases p'
 |int i=>cases d' with|non =>cases r.int_inv;obtain⟨_,rfl⟩:=rv;cases r'.gC;cases bJ;simp only[bT];exact⟨RcAt.int_none _ _,EqAt.int_none _ _,RcNeAt.int_none _ _⟩|bl b' =>cases r.int_inv;obtain⟨_,rfl⟩:=rv;cases r'.fU;cases bJ;simp only[bT];exact⟨RcAt.int_bool _ _ _,EqAt.int_bool _ _ _,RcNeAt.int_bool _ _ _⟩|int i' =>cases r.int_inv;obtain⟨_,rfl⟩:=rv;cases r'.int_inv;obtain⟨_,rfl⟩:=bJ;simp only[bT];exact⟨RcAt.int_int _ _ _ _,EqAt.int_int _ _ _ _,RcNeAt.int_int _ _ _ _⟩|str x' =>cases r.int_inv;obtain⟨_,rfl⟩:=rv;cases r'.str_inv;obtain⟨_,rfl⟩:=bJ;simp only[bT];exact⟨RcAt.int_str _ _ _ _,EqAt.int_str _ _ _ _,RcNeAt.int_str _ _ _ _⟩|_=>cases p'
 |str x=>cases d' with|non =>cases r.str_inv;obtain⟨_,rfl⟩:=rv;cases r'.gC;cases bJ;simp only[bT];exact⟨RcAt.str_none _ _,EqAt.str_none _ _,RcNeAt.str_none _ _⟩|bl b' =>cases r.str_inv;obtain⟨_,rfl⟩:=rv;cases r'.fU;cases bJ;simp only[bT];exact⟨RcAt.str_bool _ _ _,zc _ _ _,RcNeAt.str_bool _ _ _⟩|int i' =>cases r.str_inv;obtain⟨_,rfl⟩:=rv;cases r'.int_inv;obtain⟨_,rfl⟩:=bJ;simp only[bT];exact⟨RcAt.str_int _ _ _ _,EqAt.str_int _ _ _ _,RcNeAt.str_int _ _ _ _⟩|str x' =>
   cases r.str_inv;obtain⟨_,rfl⟩:=rv;cases r'.str_inv;obtain⟨_,rfl⟩:=bJ;have e:bT (.str x) (.str x')=((⟨x.toArray⟩:Str)==⟨x'.toArray⟩):=by rw[M1];simp only[bT]
   rw[e];exact⟨RcAt.str_str _ _ _ _,Yl _ _ _ _,RcNeAt.str_str _ _ _ _⟩|_=>cases p'
 |_=>cases p
theorem iH {K:aa}{A:cp}(hl:s.heap.IsTuple l aD)(hu:A.units<cLine)(p':qC d'=true)(r':Rep K H d' v')(bJ:RelV v' u'):zH A s (.ref l) u' false/\zH A s u' (.ref l) false:=by cases d' with|non =>cases r'.gC;cases bJ;exact⟨⟨RcAt.tuple_none hl hu,EqAt.tuple_none hl hu,RcNeAt.tuple_none hl hu⟩,⟨RcAt.none_tuple hl hu,EqAt.none_tuple hl hu,RcNeAt.none_tuple hl hu⟩⟩|bl b =>cases r'.fU;cases bJ;exact⟨⟨RcAt.tuple_bool _ hl hu,Zm _ hl hu,RcNeAt.tuple_bool _ hl hu⟩,⟨RcAt.bool_tuple _ hl hu,w5 _ hl hu,RcNeAt.bool_tuple _ hl hu⟩⟩|int i =>cases r'.int_inv;obtain⟨_,rfl⟩:=bJ;exact⟨⟨RcAt.tuple_int _ _ hl hu,EqAt.tuple_int _ _ hl hu,RcNeAt.tuple_int _ _ hl hu⟩,⟨RcAt.int_tuple _ _ hl hu,EqAt.int_tuple _ _ hl hu,RcNeAt.int_tuple _ _ hl hu⟩⟩|str x =>cases r'.str_inv;obtain⟨_,rfl⟩:=bJ;exact⟨⟨RcAt.tuple_str _ _ hl hu,Aab _ _ hl hu,RcNeAt.tuple_str _ _ hl hu⟩,⟨RcAt.str_tuple _ _ hl hu,xw _ _ hl hu,RcNeAt.str_tuple _ _ hl hu⟩⟩|_=>cases p'
theorem nE {K:aa}{A:cp}(hl:s.heap.IsList l aD)(hu:A.units<cLine)(p':qC d'=true)(r':Rep K H d' v')(bJ:RelV v' u'):zH A s (.ref l) u' false/\zH A s u' (.ref l) false:=by cases d' with|non =>cases r'.gC;cases bJ;exact⟨⟨RcAt.list_none hl hu,EqAt.list_none hl hu,RcNeAt.list_none hl hu⟩,⟨RcAt.none_list hl hu,EqAt.none_list hl hu,RcNeAt.none_list hl hu⟩⟩|bl b =>cases r'.fU;cases bJ;exact⟨⟨RcAt.list_bool _ hl hu,EqAt.list_bool _ hl hu,RcNeAt.list_bool _ hl hu⟩,⟨RcAt.bool_list _ hl hu,EqAt.bool_list _ hl hu,RcNeAt.bool_list _ hl hu⟩⟩|int i =>cases r'.int_inv;obtain⟨_,rfl⟩:=bJ;exact⟨⟨RcAt.list_int _ _ hl hu,EqAt.list_int _ _ hl hu,RcNeAt.list_int _ _ hl hu⟩,⟨RcAt.int_list _ _ hl hu,EqAt.int_list _ _ hl hu,RcNeAt.int_list _ _ hl hu⟩⟩|str x =>cases r'.str_inv;obtain⟨_,rfl⟩:=bJ;exact⟨⟨RcAt.list_str _ _ hl hu,EqAt.list_str _ _ hl hu,RcNeAt.list_str _ _ hl hu⟩,⟨RcAt.str_list _ _ hl hu,EqAt.str_list _ _ hl hu,RcNeAt.str_list _ _ hl hu⟩⟩|_=>cases p'
theorem M5 (I:Inv X pz σ H s){A:cp}{a:Addr}{b0:Bool}(e:Nat->Bool)(ha:eU X.K H a vs)(hb:eU X.K H b us)(hu:A.units<cLine)(hs:a=b->b0=true)(he:∀ j v v' u u',vs[j]? = some v->us[j]? = some v'->RelV v u->RelV v' u'->EqAt A.in1 s u u' (e j))(hb0:((ay (min vs.length us.length)).all e&&vs.length==us.length)=b0):zH A s (.ref a) (.ref b) b0:=by
 obtain⟨aD,r1,p1,_⟩:=I.tuple ha;obtain⟨jts,r2,p2,_⟩:=I.tuple hb;have l1:aD.toArray.size=vs.length:=by rw[be];exact r1.length.symm
 have l2:jts.toArray.size=us.length:=by rw[be];exact r2.length.symm
 have hi:∀ j (h1:j<aD.toArray.size)(h2:j<jts.toArray.size),EqAt A.in1 s aD.toArray[j] jts.toArray[j] (e j):=fun j h1 h2=>by obtain⟨v,e1,q1⟩:=aR.at r1 h1;obtain⟨v',e2,q2⟩:=aR.at r2 h2;exact he j v v' _ _ e1 e2 q1 q2
 have rc:RcAt A s (.ref a) (.ref b) b0:=by have:=AaK (e:=e) p1 p2 hu hi;rw[l1,l2,hb0]at this;exact this
 have rn:RcNeAt A s (.ref a) (.ref b) (!b0):=by have:=RcNeAt.tuples (e:=e) p1 p2 hu hi;rw[l1,l2,hb0]at this;exact this
 refine⟨rc,?_,rn⟩;by_cases q:a=b;·rw[hs q,q];exact Za _
 ·exact Ym q rc
theorem Z2 (I:Inv X pz σ H s){A:cp}{a:Addr}{b0:Bool}(e:Nat->Bool)(ha:dA X.K H a vs)(hb:dA X.K H b us)(hu:A.units<cLine)(hs:a=b->b0=true)(he:∀ j v v' u u',vs[j]? = some v->us[j]? = some v'->RelV v u->RelV v' u'->EqAt A.in1 s u u' (e j))(hn:vs.length≠us.length->b0=false)(hb0:vs.length=us.length->(ay vs.length).all e=b0):zH A s (.ref a) (.ref b) b0:=by
 obtain⟨aD,r1,p1,_⟩:=I.list ha;obtain⟨jts,r2,p2,_⟩:=I.list hb;have l1:aD.toArray.size=vs.length:=by rw[be];exact r1.length.symm
 have l2:jts.toArray.size=us.length:=by rw[be];exact r2.length.symm
 have hi:∀ j (h1:j<aD.toArray.size)(h2:j<jts.toArray.size),EqAt A.in1 s aD.toArray[j] jts.toArray[j] (e j):=fun j h1 h2=>by obtain⟨v,e1,q1⟩:=aR.at r1 h1;obtain⟨v',e2,q2⟩:=aR.at r2 h2;exact he j v v' _ _ e1 e2 q1 q2
 have both:RcAt A s (.ref a) (.ref b) b0/\RcNeAt A s (.ref a) (.ref b) (!b0):=by
  by_cases hl:vs.length=us.length;·have:=RcAt.lists (e:=e) p1.isList p2.isList (by rw[l1,l2,hl]) hu hi;have rn:=RcNeAt.lists (e:=e) p1.isList p2.isList (by rw[l1,l2,hl]) hu hi;rw[l1,hb0 hl]at this rn;exact⟨this,rn⟩
  ·rw[hn hl];have hz:(aD.toArray.size != jts.toArray.size)=true:=by rw[l1,l2,bne_iff_ne];exact hl
   exact⟨RcAt.lists_lengths p1.isList p2.isList hz hu,RcNeAt.lists_lengths p1.isList p2.isList hz hu⟩
 refine⟨both.1,?_,both.2⟩;by_cases q:a=b;·rw[hs q,q];exact Za _
 ·exact Ym q both.1
theorem vV {d:D}(p:bQ d=true):qC d=true∨∃ ds,d=.tup ds:=by cases d<;>first|exact .inl rfl|exact .inr ⟨_,rfl⟩|cases p
theorem Yd (I:Inv X pz σ H s):∀(n:Nat){d d':D}{A:cp}{v v':V}{u u':ae},cT d<=n->bQ d=true->bQ d'=true->Rep X.K H d v->RelV v u->Rep X.K H d' v'->RelV v' u'->A.units+n+2<cLine -> zH A s u u' (bT d d'):=by
 intro n;induction n with|zero =>
  intro d d' A v v' u u' hn p p' r rv r' bJ hu;have kE:A.units<cLine:=by omega
  rcases vV p with q|⟨ds,rfl⟩
  ·rcases vV p' with q'|⟨kL,rfl⟩;·exact xI q q' r rv r' bJ
   ·obtain⟨b,us,rfl,h2,q2⟩:=r'.cA;cases bJ;obtain⟨aD,r1,p1,_⟩:=I.tuple h2;have:=(iH p1 kE q r rv).2;have e:bT d (.tup kL)=false:=by cases d<;>first|rfl|cases q
    rw[e];exact this
  ·simp only[cT]at hn;omega|succ n ih =>
  intro d d' A v v' u u' hn p p' r rv r' bJ hu;have kE:A.units<cLine:=by omega
  rcases vV p with q|⟨ds,rfl⟩
  ·rcases vV p' with q'|⟨kL,rfl⟩;·exact xI q q' r rv r' bJ
   ·obtain⟨b,us,rfl,h2,q2⟩:=r'.cA;cases bJ;obtain⟨aD,r1,p1,_⟩:=I.tuple h2;have:=(iH p1 kE q r rv).2;have e:bT d (.tup kL)=false:=by cases d<;>first|rfl|cases q
    rw[e];exact this
  ·obtain⟨a,vs,rfl,h1,q1⟩:=r.cA;cases rv;rcases vV p' with q'|⟨kL,rfl⟩
   ·obtain⟨aD,r1,p1,_⟩:=I.tuple h1;have:=(iH p1 kE q' r' bJ).1;have e:bT (.tup ds) d'=false:=by cases d'<;>first|rfl|cases q'
    rw[e];exact this
   ·obtain⟨b,us,rfl,h2,q2⟩:=r'.cA;cases bJ;have pd:cD ds=true:=by simpa [bQ]using p
    have pd':cD kL=true:=by simpa [bQ]using p'
    have e0:bT (.tup ds) (.tup kL)=gU ds kL:=by simp only[bT]
    rw[e0];refine M5 I (fun j=>match ds[j]?,kL[j]? with|some x,some y=>bT x y|_,_=>true) h1 h2 kE (fun e=>?_) (fun j v v' u u' e1 e2 rv bJ=>?_) ?_;·subst e;have:=BP I (cT (.tup ds)) (aw _) p p' r r';cases this;exact lW ds pd
    ·obtain⟨x,f1,g1⟩:=aJ.get' q1 e1;obtain⟨y,f2,g2⟩:=aJ.get' q2 e2;simp only[f1,f2];have hx:=kK (bp f1);simp only[cT]at hn;exact(ih (by omega) (oH pd (bp f1)) (oH pd' (bp f2)) g1 rv g2 bJ (by simp only[gh];omega)).2.1
    ·rw[<-q1.length,<-q2.length];exact yJ _ fun j x y e1 e2=>by simp only[e1,e2]
end
noncomputable def sL (st:aB):D->Option (List D)
 |.ref a=>match st a with|some (.lst xs)=>some xs|_=>none
 |.bR xs=>some xs|_=>none
variable {xs ys:List D}
theorem kinds {d:D}(p:iB st d=true):qC d=true∨(∃ ds,d=.tup ds/\iP st ds=true)∨∃ xs,sL st d=some xs/\cD xs=true/\cX xs<=iC:=by cases d with
 |tup ds=>exact .inr (.inl ⟨ds,rfl,by simpa [iB]using p⟩)|ref a =>simp only[iB]at p;cases q:st a with|none=>rw[q]at p;cases p|some o=>cases o with|lst xs =>rw[q]at p;simp only[Be,bc,decide_eq_true_eq]at p;exact .inr (.inr ⟨xs,by simp [sL,q],p⟩)|dic _ _=>rw[q]at p;cases p|ins _ _=>rw[q]at p;cases p|tab _ _=>rw[q]at p;cases p|fn _ _=>rw[q]at p;cases p|cod _=>rw[q]at p;cases p
 |bR xs =>simp only[iB,bc,decide_eq_true_eq]at p;exact .inr (.inr ⟨xs,rfl,p⟩)|dP _ _=>cases p|exc _=>cases p|_=>exact .inl rfl
set_option tactic.hygienic true in
theorem E7 {d:D}(h:sL st d=some xs)(h':sL st d'=some ys):bW st d d'=gU xs ys:=by cases d with
 |ref a =>
  simp only[sL]at h;split at h;·rename_i zs e;cases h;cases d' with
   |ref b =>
    simp only[sL]at h';split at h';·rename_i ws e';cases h';simp only[bW,e,e',J8]
    ·cases h'|bR ws=>cases h';simp only[bW,e,J8]|_=>cases h'
  ·cases h|bR zs =>cases h;cases d' with
  |ref b =>
   simp only[sL]at h';split at h';·rename_i ws e';cases h';simp only[bW,e',J8]
   ·cases h'|bR ws=>cases h';simp only[bW]|_=>cases h'
 |_=>cases h
theorem FX {d:D}(h:sL st d=some xs)(p:qC d'=true):bW st d d'=false/\bW st d' d=false:=by
 cases d<;>first|(cases h;done)|skip
 all_goals (cases d'<;>first|(cases p;done)|exact⟨rfl,rfl⟩|(simp [bW];done))
theorem NJ {d:D}(h:sL st d=some xs):bW st d (.tup ds)=false/\bW st (.tup ds) d=false:=by cases d<;>first|(cases h;done)|exact⟨rfl,rfl⟩|(simp [bW];done)
theorem EV {d:D}(p:qC d=true)(p':qC d'=true):bW st d d'=bT d d':=by
 cases d<;>first|(cases p;done)|skip
 all_goals (cases d'<;>first|(cases p';done)|rfl|(simp [bW,bT];done))
theorem OD {d:D}(p:qC d=true):bW st d (.tup ds)=false/\bW st (.tup ds) d=false:=by cases d<;>first|(cases p;done)|exact⟨rfl,rfl⟩|(simp [bW];done)
theorem iD {st:aB}:∀{ds:List D}{d:D},iP st ds=true->d∈ds->iB st d=true
 |e::ds,d,h,m=>by
  simp only[iP,bc]at h;rcases List.mem_cons.mp m with rfl|m;·exact h.1
  ·exact iD h.2 m
theorem LS {st:aB}:∀{ds es:List D}(e:Nat->Bool),(∀ j d d',ds[j]? = some d->es[j]? = some d'->e j=bW st d d')->((ay (min ds.length es.length)).all e&&ds.length==es.length)=kD st ds es
 |[],[],e,h=>by simp [kD]|[],_::_,e,h=>by simp [kD]|_::_,[],e,h=>by simp [kD]|d::ds,d'::es,e,h=>by
  have ih:=LS (fun j=>e (j+1)) fun j x x' e1 e2=>h (j+1) x x' (by simpa using e1) (by simpa using e2);have h0:=h 0 d d' rfl rfl;simp only[kD,bf,xi,iu,ny,p8,mq];rw[<-ih,h0];have hl:(ds.length+1==es.length+1)=(ds.length==es.length):=by simp
  rw[hl,Aaa]
section
variable {s:ag}
set_option tactic.hygienic true in
theorem gO {K:aa}{d:D}(ok:aS K st H)(h:sL st d=some xs)(r:Rep K H d v):∃ a vs,v=.ref a/\dA K H a vs/\aJ K H xs vs:=by cases r with
 |ref a =>
 simp only[sL]at h;split at h;·rename_i zs e;cases h;obtain⟨vs,g,q⟩:=ok.lst e;exact⟨a,vs,rfl,dA.of g,q⟩
 ·cases h|bR f q=>cases h;exact⟨_,_,rfl,f.sq,q⟩|_=>cases h
theorem tB (I:Inv X pz σ H s):∀{ds es:List D}{vs:List V},cD ds=true->cD es=true->aJ X.K H ds vs->aJ X.K H es vs->ds=es|_,_,_,_,_,.nil,.nil=>rfl|_,_,_,p,p',.cons h r,.cons h' r'=>by simp only[cD,bc]at p p';rw[BP I _ (aw _) p.1 p'.1 h h',tB I p.2 p'.2 r r']
theorem HX (I:Inv X pz σ H s){a:Addr}(h:dA X.K H a vs)(h':eU X.K H a us):False:=by obtain⟨aD,_,p1,_⟩:=I.list h;obtain⟨jts,_,p2,_⟩:=I.tuple h';exact ne_of_list_tuple p1.isList p2 rfl
theorem Ge (I:Inv X pz σ H s)(ok:aS X.K st H):∀(n:Nat){d d':D}{v:V},cT d<=n->iB st d=true->iB st d'=true->Rep X.K H d v->Rep X.K H d' v->bW st d d'=true:=by
 intro n;induction n with|zero =>
  intro d d' v hn p p' r r';rcases kinds p with q|⟨ds,rfl,q⟩|⟨xs,q,q1,q2⟩
  ·rcases kinds p' with q'|⟨kL,rfl,q'⟩|⟨ys,q',q1',q2'⟩
   ·rw[EV q q'];have pd:bQ d=true:=by cases d<;>first|rfl|cases q
    have pd':bQ d'=true:=by cases d'<;>first|rfl|cases q'
    rw[BP I _ (aw _) pd pd' r r'];exact yL d' pd'
   ·obtain⟨a,vs,rfl,_⟩:=r'.cA;cases r<;>cases q
   ·obtain⟨a,vs,rfl,_⟩:=gO ok q' r';cases r<;>cases q
  ·simp only[cT]at hn;omega
  ·obtain⟨a,vs,rfl,f1,g1⟩:=gO ok q r;rcases kinds p' with q'|⟨kL,rfl,q'⟩|⟨ys,q',q1',q2'⟩;·cases r'<;>cases q'
   ·obtain⟨b,us,e,f2,g2⟩:=r'.cA;cases e;exact(HX I f1 f2).elim
   ·obtain⟨b,us,e,f2,g2⟩:=gO ok q' r';cases e;cases I.mI f1 f2;rw[E7 q q',tB I q1 q1' g1 g2];exact lW _ q1'|succ n ih =>
  intro d d' v hn p p' r r';rcases kinds p with q|⟨ds,rfl,q⟩|⟨xs,q,q1,q2⟩
  ·rcases kinds p' with q'|⟨kL,rfl,q'⟩|⟨ys,q',q1',q2'⟩
   ·rw[EV q q'];have pd:bQ d=true:=by cases d<;>first|rfl|cases q
    have pd':bQ d'=true:=by cases d'<;>first|rfl|cases q'
    rw[BP I _ (aw _) pd pd' r r'];exact yL d' pd'
   ·obtain⟨a,vs,rfl,_⟩:=r'.cA;cases r<;>cases q
   ·obtain⟨a,vs,rfl,_⟩:=gO ok q' r';cases r<;>cases q
  ·obtain⟨a,vs,rfl,f1,g1⟩:=r.cA;rcases kinds p' with q'|⟨kL,rfl,q'⟩|⟨ys,q',q1',q2'⟩;·cases r'<;>cases q'
   ·obtain⟨b,us,e,f2,g2⟩:=r'.cA;cases e;cases I.uV f1 f2;simp only[cT]at hn;have go:∀(ds es:List D)(vs:List V),cX ds<=n->iP st ds=true->iP st es=true->aJ X.K H ds vs->aJ X.K H es vs->kD st ds es=true:=by intro ds;induction ds with|nil=>intro es vs _ _ _ r r';cases r;cases r';rfl|cons d ds ihs =>intro es vs hd pp pp' r r';cases r with|cons r1 r2=>cases r' with |cons r1' r2' =>simp only[cX]at hd;simp only[iP,bc]at pp pp';simp only[kD,bc];exact⟨ih (by omega) pp.1 pp'.1 r1 r1',ihs _ _ (by omega) pp.2 pp'.2 r2 r2'⟩
    simp only[bW];exact go ds kL vs (by omega) q q' g1 g2
   ·obtain⟨b,us,e,f2,g2⟩:=gO ok q' r';cases e;exact(HX I f2 f1).elim
  ·obtain⟨a,vs,rfl,f1,g1⟩:=gO ok q r;rcases kinds p' with q'|⟨kL,rfl,q'⟩|⟨ys,q',q1',q2'⟩;·cases r'<;>cases q'
   ·obtain⟨b,us,e,f2,g2⟩:=r'.cA;cases e;exact(HX I f1 f2).elim
   ·obtain⟨b,us,e,f2,g2⟩:=gO ok q' r';cases e;cases I.mI f1 f2;rw[E7 q q',tB I q1 q1' g1 g2];exact lW _ q1'
theorem pU {A:cp}{jts:Array ae}(hl:s.heap.IsList l aD)(hb:s.heap.IsTuple b jts)(hu:A.units<cLine):zH A s (.ref l) (.ref b) false/\zH A s (.ref b) (.ref l) false :=⟨⟨RcAt.list_tuple hl hb hu,EqAt.list_tuple hl hb hu,RcNeAt.list_tuple hl hb hu⟩,⟨RcAt.tuple_list hb hl hu,EqAt.tuple_list hb hl hu,RcNeAt.tuple_list hb hl hu⟩⟩
theorem X4 (I:Inv X pz σ H s){A:cp}{a:Addr}(f1:dA X.K H a vs)(g1:aJ X.K H xs vs)(f2:dA X.K H b us)(g2:aJ X.K H ys us)(p1:cD xs=true)(d1:cX xs<=iC)(p2:cD ys=true)(hu:A.units+85<cLine):zH A s (.ref a) (.ref b) (gU xs ys):=by
 refine Z2 I (fun j=>match xs[j]?,ys[j]? with|some x,some y=>bT x y|_,_=>true) f1 f2 (by omega) (fun e=>?_) (fun j v v' u u' e1 e2 rv bJ=>?_) (fun h=>?_) (fun h=>?_);·subst e;cases I.mI f1 f2;rw[tB I p1 p2 g1 g2];exact lW _ p2
 ·obtain⟨x,h1,k1⟩:=aJ.get' g1 e1;obtain⟨y,h2,k2⟩:=aJ.get' g2 e2;simp only[h1,h2];have hx:=kK (bp h1);have hD:iC=80:=rfl;exact(Yd I iC (by omega) (oH p1 (bp h1)) (oH p2 (bp h2)) k1 rv k2 bJ (by simp only[gh];omega)).2.1
 ·exact NS (by rw[g1.length,g2.length];exact h)
 ·rw[<-g1.length];exact VS _ (by rw[g1.length,g2.length];exact h) fun j x y e1 e2=>by simp only[e1,e2]
theorem S8 (I:Inv X pz σ H s)(ok:aS X.K st H):∀(n:Nat){d d':D}{A:cp}{v v':V}{u u':ae},cT d<=n->iB st d=true->iB st d'=true->Rep X.K H d v->RelV v u->Rep X.K H d' v'->RelV v' u'->A.units+n+85<cLine -> zH A s u u' (bW st d d'):=by
 intro n;induction n with|zero =>
  intro d d' A v v' u u' hn p p' r rv r' bJ hu;have kE:A.units<cLine:=by omega
  rcases kinds p with q|⟨ds,rfl,q⟩|⟨xs,q,q1,q2⟩
  ·rcases kinds p' with q'|⟨kL,rfl,q'⟩|⟨ys,q',q1',q2'⟩;·rw[EV q q'];exact xI q q' r rv r' bJ
   ·obtain⟨b,us,rfl,h2,g2⟩:=r'.cA;cases bJ;obtain⟨aD,r1,p1,_⟩:=I.tuple h2;rw[(OD q).1];exact(iH p1 kE q r rv).2
   ·obtain⟨b,us,rfl,h2,g2⟩:=gO ok q' r';cases bJ;obtain⟨aD,r1,p1,_⟩:=I.list h2;rw[(FX q' q).2];exact(nE p1.isList kE q r rv).2
  ·simp only[cT]at hn;omega
  ·obtain⟨a,vs,rfl,f1,g1⟩:=gO ok q r;cases rv;obtain⟨aD,r1,p1,_⟩:=I.list f1;rcases kinds p' with q'|⟨kL,rfl,q'⟩|⟨ys,q',q1',q2'⟩;·rw[(FX q q').1];exact(nE p1.isList kE q' r' bJ).1
   ·obtain⟨b,us,rfl,h2,g2⟩:=r'.cA;cases bJ;obtain⟨jts,r2,p2,_⟩:=I.tuple h2;rw[(NJ q).1];exact(pU p1.isList p2 kE).1
   ·obtain⟨b,us,rfl,h2,g2⟩:=gO ok q' r';cases bJ;rw[E7 q q'];exact X4 I f1 g1 h2 g2 q1 q2 q1' (by omega)|succ n ih =>
  intro d d' A v v' u u' hn p p' r rv r' bJ hu;have kE:A.units<cLine:=by omega
  rcases kinds p with q|⟨ds,rfl,q⟩|⟨xs,q,q1,q2⟩
  ·rcases kinds p' with q'|⟨kL,rfl,q'⟩|⟨ys,q',q1',q2'⟩;·rw[EV q q'];exact xI q q' r rv r' bJ
   ·obtain⟨b,us,rfl,h2,g2⟩:=r'.cA;cases bJ;obtain⟨aD,r1,p1,_⟩:=I.tuple h2;rw[(OD q).1];exact(iH p1 kE q r rv).2
   ·obtain⟨b,us,rfl,h2,g2⟩:=gO ok q' r';cases bJ;obtain⟨aD,r1,p1,_⟩:=I.list h2;rw[(FX q' q).2];exact(nE p1.isList kE q r rv).2
  ·obtain⟨a,vs,rfl,f1,g1⟩:=r.cA;cases rv;obtain⟨aD,r1,p1,_⟩:=I.tuple f1;rcases kinds p' with q'|⟨kL,rfl,q'⟩|⟨ys,q',q1',q2'⟩;·rw[(OD q').2];exact(iH p1 kE q' r' bJ).1
   ·obtain⟨b,us,rfl,h2,g2⟩:=r'.cA;cases bJ;have e0:bW st (.tup ds) (.tup kL)=kD st ds kL:=by simp only[bW]
    refine M5 I (fun j=>match ds[j]?,kL[j]? with|some x,some y=>bW st x y|_,_=>true) f1 h2 kE (fun e=>?_) (fun j v v' u u' e1 e2 rv bJ=>?_) ?_;·subst e;exact Ge I ok _ (aw _) p p' r r'
    ·obtain⟨x,k1,l1⟩:=aJ.get' g1 e1;obtain⟨y,k2,l2⟩:=aJ.get' g2 e2;simp only[k1,k2];have hx:=kK (bp k1);simp only[cT]at hn;exact(ih (by omega) (iD q (bp k1)) (iD q' (bp k2)) l1 rv l2 bJ (by simp only[gh];omega)).2.1
    ·rw[<-g1.length,<-g2.length,e0];exact LS _ fun j x y e1 e2=>by simp only[e1,e2]
   ·obtain⟨b,us,rfl,h2,g2⟩:=gO ok q' r';cases bJ;obtain⟨jts,r2,p2,_⟩:=I.list h2;rw[(NJ q').2];exact(pU p2.isList p1 kE).2
  ·obtain⟨a,vs,rfl,f1,g1⟩:=gO ok q r;cases rv;obtain⟨aD,r1,p1,_⟩:=I.list f1;rcases kinds p' with q'|⟨kL,rfl,q'⟩|⟨ys,q',q1',q2'⟩;·rw[(FX q q').1];exact(nE p1.isList kE q' r' bJ).1
   ·obtain⟨b,us,rfl,h2,g2⟩:=r'.cA;cases bJ;obtain⟨jts,r2,p2,_⟩:=I.tuple h2;rw[(NJ q).1];exact(pU p1.isList p2 kE).1
   ·obtain⟨b,us,rfl,h2,g2⟩:=gO ok q' r';cases bJ;rw[E7 q q'];exact X4 I f1 g1 h2 g2 q1 q2 q1' (by omega)
end
mutual
inductive kI (h:Heap):D->ae->Prop where|str (x:List Nat)(t:Tok):kI h (.str x) (.str ⟨x.toArray⟩ t)|bl (b:Bool):kI h (.bl b) (.bool b)|tup {ds:List D}{a:Addr}{o:Obj}{aD:Array ae}{n:Nat}(e:h.get? a=some o)(c:o.cls=.type "tuple")(d:o.data=.seq aD n)(r:gM h ds aD.toList):kI h (.tup ds) (.ref a)inductive gM (h:Heap):List D->List ae->Prop where|nil:gM h [] []|cons {d:D}{ds:List D}{v:ae}{vs:List ae}(r:kI h d v)(rs:gM h ds vs):gM h (d::ds) (v::vs)end
section
variable {h h':Heap}
theorem kI.str_inv {d:D}{x:Str}{t:Tok}(q:kI h d (.str x t)):∃ y,d=.str y/\x=⟨y.toArray⟩:=by cases q;exact⟨_,rfl,rfl⟩
theorem kI.fU {d:D}{b:Bool}(q:kI h d (.bool b)):d=.bl b:=by cases q;rfl
theorem kI.cQ {d:D}{a:Addr}(q:kI h d (.ref a)):∃ ds o aD n,d=.tup ds/\h.get? a=some o/\o.cls=.type "tuple" /\ o.data=.seq aD n/\gM h ds aD.toList:=by cases q with|tup e c d r=>exact⟨_,_,_,_,rfl,e,c,d,r⟩
mutual
theorem kI.inj:∀{x y:D}{v:ae},kI h x v->kI h y v->x=y
 |_,y,_,.str x t,q=>by
  obtain⟨z,rfl,e⟩:=q.str_inv;have:x.toArray=z.toArray:=congrArg Aa2 e;have:x=z:=by simpa using this
  rw[this]|_,y,_,.bl b,q=>q.fU.symm|_,y,_,.tup e c d r,q=>by obtain⟨ds,o,aD,n,rfl,e',c',d',r'⟩:=q.cQ;rw[e]at e';cases e';rw[d]at d';injection d' with d1 d2;subst d1;rw[gM.inj r r']theorem gM.inj:∀{xs ys:List D}{vs:List ae},gM h xs vs->gM h ys vs->xs=ys|_,_,_,.nil,q=>by cases q;rfl|_,_,_,.cons r rs,q=>by cases q with|cons r' rs'=>rw[kI.inj r r',gM.inj rs rs']end
mutual
theorem kI.keeps {b:Addr}{ob:Obj}{es:Array DictEntry}{ep:Nat}(ho:h.get? b=some ob)(hd:ob.data=.dict es ep)(hs:ll b h h'):∀{x:D}{v:ae},kI h x v->kI h' x v
 |_,_,.str x t=>.str x t|_,_,.bl b=>.bl b|_,_,@kI.tup _ ds a o aD n e c d r=>.tup (by
  have ne:a≠b:=by intro z;rw[z,ho]at e;cases e;rw[hd]at d;cases d
  exact(hs.2 a ne).trans e) c d (gM.keeps ho hd hs r)theorem gM.keeps {b:Addr}{ob:Obj}{es:Array DictEntry}{ep:Nat}(ho:h.get? b=some ob)(hd:ob.data=.dict es ep)(hs:ll b h h'):∀{xs:List D}{vs:List ae},gM h xs vs->gM h' xs vs|_,_,.nil=>.nil|_,_,.cons r rs=>.cons (kI.keeps ho hd hs r) (gM.keeps ho hd hs rs)end
theorem gM.length:∀{xs:List D}{vs:List ae},gM h xs vs->xs.length=vs.length|_,_,.nil=>rfl|_,_,.cons _ rs=>by simp [gM.length rs]
theorem gM.get:∀{xs:List D}{vs:List ae}{j:Nat}{v:ae},gM h xs vs->vs[j]? = some v->∃ x,xs[j]? = some x/\kI h x v|_,_,_,_,.nil,e=>by simp at e|_,_,0,_,.cons r _,e=>by simp at e;subst e;exact⟨_,rfl,r⟩|_,_,j+1,v,.cons _ rs,e=>by obtain⟨x,e1,e2⟩:=gM.get (j:=j) (v:=v) rs (by simpa using e);exact⟨x,by simpa using e1,e2⟩
end
theorem zC (w:c9):∀ a b:List D,iO w (a++b)=iO w a++iO w b|[],b=>by simp [iO]|d::a,b=>by simp [iO,zC w a b]
theorem zB:∀ a b:List D,lD (a++b)=lD a+lD b|[],b=>by simp [lD]|d::a,b=>by simp [lD,zB a b,qp]
theorem QO {prog:b7}{w:c9}{b:Bool}{A:cp}{E:ae->ag->Prop}{s:ag}{Q:Int->ag->Prop}(hu:A.units<cLine)(h:Q (rW w (.bl b)) { s with toks:=s.toks+uH (.bl b) }):wpAny (model prog w) A (pyHash (.bool b)) Q E s:=by
 refine PySem.W.pyHash_slot (T :="bool") rfl PySem.F.slot_bool_hash PySem.F.entry_int_hash (PySem.F.args_int_hash_1 _) (Zb _) (.inr hu) ?_;cases b;·exact(show wpAny _ _ (do ret (<-mkInt 0)) _ _ s from af (ux (ar ⟨_,_,rfl,h⟩)))
 ·exact(show wpAny _ _ (do ret (<-mkInt 1)) _ _ s from af (ux (ar ⟨_,_,rfl,h⟩)))
theorem Cn {prog:b7}{w:c9}:∀(n:Nat){d:D}{v:ae}{A:cp}{E:ae->ag->Prop}{s:ag}{Q:Int->ag->Prop},cT d<=n->kI s.heap d v->A.units+n<cLine->Q (rW w d) { s with toks:=s.toks+uH d } -> wpAny (model prog w) A (pyHash v) Q E s:=by intro n;induction n with
 |zero =>intro d v A E s Q hn hk hu h;cases hk with|str x t =>simp only[rW,uH]at h;exact(strKind prog w).pyHash (k:=⟨x.toArray⟩) (zo _ _ _ _) h|bl b=>exact QO (by omega) h|tup e c dd r=>simp only[cT]at hn;omega
 |succ n ih =>intro d v A E s Q hn hk hu h;cases hk with|str x t =>simp only[rW,uH]at h;exact(strKind prog w).pyHash (k:=⟨x.toArray⟩) (zo _ _ _ _) h|bl b=>exact QO (by omega) h|@tup ds a o items m ho c hd hi =>
   have hT:s.TypeIs (.ref a) "tuple":=⟨o,ho,c⟩;simp only[cT]at hn;simp only[rW,uH]at h;unfold pyHash;first|unfold pyHashByItsType|skip
   first|refine af (wpAny_cRoomFor_or (.inr (by omega)) ?_)|skip
   refine af (gw hT PySem.F.slot_tuple_hash.lookup ?_);show wpAny _ _ (if(some (Value.builtin "tuple.__hash__")==some j0)=true then _ else _) Q E s;rw[if_neg (by rw[Zb];exact fv)];refine af (gw hT PySem.F.slot_tuple_hash.lookup ?_);show wpAny _ _ (callSpecialIfBoundUnlessNone? (.ref a) "__hash__" _ >>= _) Q E s;refine af (wpAny_callSpecialIfBoundUnlessNone?_slot hT vp (gb vp hT PySem.F.entry_tuple_hash ?_ (PySem.F.args_tuple_hash_1 _)));show wpAny _ _ (ig (.ref a) >>= _) _ _ s;refine af (zl ho hd ?_);refine af ?_;rw[<-zp];refine vq _ (fun rest (b:Array Int) s'=>∃ done left,ds=done++left/\gM s.heap left rest/\b.toList=iO w done/\s' = { s with toks:=s.toks+lD done }) _ ?_ ?_ _ _ ⟨[],ds,rfl,hi,rfl,rfl⟩;·rintro x rest b s' ⟨done,left,e0,hl,hb,rfl⟩;cases hl with|@cons k ks' _ _ h1 hl' =>
     have hdep:cT k<=cX ds:=kK (by rw[e0];simp);refine af (ih (s:={ s with toks:=s.toks+lD done }) (d:=k) (by omega) h1 (by simp only[gh];omega) ?_);have e1:lD (done++[k])=lD done+uH k:=by rw[zB];simp [lD]
     have e2:iO w (done++[k])=iO w done++[rW w k]:=by rw[zC];simp [iO]
     first|exact ar ⟨done++[k],ks',by simp [e0],hl',by simp [hb,e2],by simp [e1,qp]⟩|exact af (ar (ar ⟨done++[k],ks',by simp [e0],hl',by simp [hb,e2],by simp [e1,qp]⟩))
   ·rintro b s' ⟨done,left,e0,hl,hb,rfl⟩;cases hl;rw[d5]at e0;subst e0;show wpAny _ _ (retInt (gk b.toList)) _ _ _;rw[hb];refine wpAny_ret_mkInt ?_;show wpAny _ _ (if(decide (-(2:Int) ^ 63<=gk (iO w ds))&&decide (gk (iO w ds)<2 ^ 63))=true then _ else _) Q E _;unfold Zx at h;by_cases hr:(decide (-(2:Int) ^ 63<=gk (iO w ds))&&decide (gk (iO w ds)<2 ^ 63))=true;·rw[if_pos hr];rw[if_pos hr]at h;exact ar (by simpa [qp]using h)
    ·rw[if_neg hr];rw[if_neg hr]at h;exact af (wo (ar (by simpa [qp]using h)))
mutual
theorem LR:∀ d:D,jO d=true->bQ d=true|.str _,_=>rfl|.tup ds,h=>by simp only[jO]at h;simp only[bQ];exact AW ds h|.non,h=>by cases h|.bl _,_=>rfl|.int _,h=>by cases h|.ref _,h=>by cases h|.dP _ _,h=>by cases h|.bR _,h=>by cases h|.exc _,h=>by cases h;theorem AW:∀ ds:List D,jW ds=true->cD ds=true|[],_=>rfl|d::ds,h=>by simp only[jW,bc]at h;simp only[cD,bc];exact⟨LR d h.1,AW ds h.2⟩end
mutual
theorem V8:∀ x y:D,jO x=true->jO y=true->bT x y=true->x=y
 |.str a,y,_,_,e=>by cases y with|str b=>simp only[bT,beq_iff_eq]at e;rw[e]|_=>simp [bT]at e
 |.bl a,y,_,h',e=>by cases y with|bl b=>simp only[bT,beq_iff_eq]at e;rw[e]|int _=>cases h'|_=>simp [bT]at e
 |.tup as,y,h,h',e=>by cases y with|tup bs=>simp only[bT]at e;simp only[jO]at h h';rw[QP as bs h h' e]|_=>simp [bT]at e
 |.non,_,h,_,_=>by cases h|.int _,_,h,_,_=>by cases h|.ref _,_,h,_,_=>by cases h|.dP _ _,_,h,_,_=>by cases h|.bR _,_,h,_,_=>by cases h|.exc _,_,h,_,_=>by cases h;theorem QP:∀ xs ys:List D,jW xs=true->jW ys=true->gU xs ys=true->xs=ys|[],[],_,_,_=>rfl|[],_::_,_,_,e=>by cases e|_::_,[],_,_,e=>by cases e|x::xs,y::ys,h,h',e=>by simp only[gU,bc]at e;simp only[jW,bc]at h h';rw[V8 x y h.1 h'.1 e.1,QP xs ys h.2 h'.2 e.2]end
noncomputable instance decD:DecidableEq D:=fun a b=>Classical.propDecidable (a=b)
theorem GQ {x y:D}(h:jO x=true)(h':jO y=true):bT x y=decide (x=y):=by
 by_cases e:x=y;·subst e;rw[yL x (LR x h)];simp
 ·rw[decide_eq_false e];cases q:bT x y with|false=>rfl|true=>exact(e (V8 x y h h' q)).elim
theorem Pb:∀(n:Nat){x y:D}{u v:ae}{A:cp}{s:ag},cT x<=n->kI s.heap x u->kI s.heap y v->jO x=true->A.units+n+2<cLine->EqAt A s u v (bT x y):=by intro n;induction n with
 |zero =>
  intro x y u v A s hn hx hy ht hu;have kE:A.units<cLine:=by omega
  cases hx with
  |str a t =>cases hy with|str b t' =>
    have e:bT (.str a) (.str b)=((⟨a.toArray⟩:Str)==⟨b.toArray⟩):=by rw[M1];simp only[bT]
    rw[e];exact Yl _ _ _ _|tup e c d r =>simp only[bT];exact xw _ _ (show s.heap.IsTuple _ _ from⟨_,e,c,_,d⟩) kE|bl b =>simp only[bT];exact zc _ _ _
  |bl a =>cases hy with|str b t' =>simp only[bT];exact yz _ _ _|bl b=>exact xv _ _|tup e c d r =>simp only[bT];exact w5 _ (show s.heap.IsTuple _ _ from⟨_,e,c,_,d⟩) kE
  |tup e c d r=>simp only[cT]at hn;omega
 |succ n ih =>
  intro x y u v A s hn hx hy ht hu;have kE:A.units<cLine:=by omega
  cases hx with
  |str a t =>cases hy with|str b t' =>
    have e:bT (.str a) (.str b)=((⟨a.toArray⟩:Str)==⟨b.toArray⟩):=by rw[M1];simp only[bT]
    rw[e];exact Yl _ _ _ _|tup e c d r =>simp only[bT];exact xw _ _ (show s.heap.IsTuple _ _ from⟨_,e,c,_,d⟩) kE|bl b =>simp only[bT];exact zc _ _ _
  |bl a =>cases hy with|str b t' =>simp only[bT];exact yz _ _ _|bl b=>exact xv _ _|tup e c d r =>simp only[bT];exact w5 _ (show s.heap.IsTuple _ _ from⟨_,e,c,_,d⟩) kE
  |@tup ds a o aD m e c d r =>have hp1:s.heap.IsTuple a aD:=⟨_,e,c,_,d⟩;cases hy with|str b t' =>simp only[bT];exact Aab _ _ hp1 kE|bl b =>simp only[bT];exact Zm _ hp1 kE|@tup es b o' jts m' e' c' d' r' =>
    have nC:s.heap.IsTuple b jts:=⟨_,e',c',_,d'⟩;have e0:bT (.tup ds) (.tup es)=gU ds es:=by simp only[bT]
    rw[e0];have hts:jW ds=true:=by simpa [jO]using ht
    by_cases q:a=b;·subst q;rw[e]at e';cases e';rw[d]at d';injection d' with d1 d2;subst d1;rw[gM.inj r r',lW es (AW es (by rw[<-gM.inj r r'];exact hts))];exact Za _
    ·refine Ym q ?_;have l1:aD.size=ds.length:=by rw[<-j4];exact r.length.symm
     have l2:jts.size=es.length:=by rw[<-j4];exact r'.length.symm
     have:=AaK (e:=fun j=>match ds[j]?,es[j]? with|some x,some y=>bT x y|_,_=>true) hp1 nC kE (fun j h1 h2=>by
      obtain⟨x,f1,g1⟩:=r.get (j:=j) (v:=aD[j]) (by simp [h1]);obtain⟨y,f2,g2⟩:=r'.get (j:=j) (v:=jts[j]) (by simp [h2]);simp only[f1,f2];have hx:=kK (bp f1);simp only[cT]at hn;have htx:jO x=true:=by
       have:∀(l:List D)(x:D),jW l=true->x∈l->jO x=true:=by intro l;induction l with|nil=>intro x _ hm;cases hm|cons z l ihl =>
         intro x hh hm;simp only[jW,bc]at hh;rcases List.mem_cons.mp hm with rfl|hm;·exact hh.1
         ·exact ihl x hh.2 hm
       exact this ds x hts (bp f1)
      exact ih (by omega) g1 g2 htx (by simp only[gh];omega));rw[l1,l2,yJ _ fun j x y e1 e2=>by simp only[e1,e2]]at this;exact this
theorem Z3 {prog:b7}{w:c9}:∀(n:Nat){d:D}{v:ae}{A:cp}{E:ae->ag->Prop}{s:ag}{Q:Bool->ag->Prop},cT d<=n->kI s.heap d v->Q true s->wpAny (model prog w) A (eqIsQuiet n v) Q E s:=by intro n;induction n with
 |zero =>intro d v A E s Q hn hk h;cases hk with|str x t=>rw[p9 _ rfl];exact ar h|bl b=>rw[p9 _ rfl];exact ar h|tup e c dd r=>simp only[cT]at hn;omega
 |succ n ih =>intro d v A E s Q hn hk h;cases hk with|str x t=>rw[p9 _ rfl];exact ar h|bl b=>rw[p9 _ rfl];exact ar h|@tup ds a o items m ho c hd hi =>
   have hT:s.TypeIs (.ref a) "tuple":=⟨o,ho,c⟩;simp only[cT]at hn;unfold eqIsQuiet;refine af (gw hT PySem.F.slot_tuple_eq.lookup ?_);show wpAny _ _ (isInstance (.ref a) (.type "tuple") >>= _) _ _ s;refine af (mz hT isSubtype_tuple_tuple ?_);simp only[e8,ak,if_false];refine af (wpAny_seqItems ho hd ?_);refine af ?_;show wpAny _ _ (forIn items _ _) _ _ s;rw[<-zp];refine vq _ (fun rest r s'=>r.1=none/\s'=s/\∃ ks,gM s.heap ks rest/\cX ks<=n) _ ?_ ?_ _ _ ⟨rfl,rfl,ds,hi,by omega⟩;·rintro v rest r s' ⟨hr,rfl,ks,hks,hdep⟩;cases hks with|@cons k ks' _ _ h1 h2 =>simp only[cX]at hdep;refine af (ih (d:=k) (by omega) h1 ?_);simp only[e8,ak,if_false];exact ar ⟨rfl,rfl,ks',h2,by omega⟩
   ·rintro⟨r1,r2⟩ s' ⟨hr,rfl,_⟩;simp only at hr;subst hr;exact ar h
theorem keyed.aQ {d:D}(h:keyed d):cT d<=8:=by cases d with|tup ds=>have:=h.2;simp only[cT];omega|_=>exact h.elim
theorem keyed.txt {d:D}(h:keyed d):jO d=true:=by cases d with|tup ds=>simp only[jO];exact h.1|_=>exact h.elim
noncomputable def uK (prog:b7)(w:c9):HeapKind prog w D where
 is:=fun h d a=>keyed d/\kI h d (.ref a);hash:=rW w;draws:=uH;room:=fun A=>A.units+12<cLine;inj:=fun hx hy=>hx.2.inj hy.2;keeps:=fun x ho hd hs=>⟨x.1,x.2.keeps ho hd hs⟩;pyHash:=fun hu hk h=>Cn 8 hk.1.aQ hk.2 (by omega) h;eqBool:=fun{A E s x y a b Q} hu hx hy h=>by have:=Pb 8 hx.1.aQ hx.2 hy.2 hx.1.txt (A:=A) (by omega) prog w E Q;rw[GQ hx.1.txt hy.1.txt]at this;exact this h
 quiet:=fun hk h=>Z3 8 hk.1.aQ hk.2 h
def pL (X:Cx)(op:CmpOp)(W:D->D->aB->(Bool->Prop)->Prop):Prop :=∀(pz:List (Addr×Obj))(s:ag)(σ:L2.St)(H:Hp)(st:aB)(d d':D)(v v':V)(u u':ae)(P:Bool->Prop),Inv X pz σ H s->aS X.K st H->Rep X.K H d v->RelV v u->Rep X.K H d' v'->RelV v' u'->W d d' st P ->wpAny (model X.prog X.w) X.A (vf op u u') (fun r s'=>∃ k,r=.bool k/\P k/\Inv X pz σ H s') X.xe s
theorem FV (w:List Nat):∀ z:List Nat,occurs w z=true↔∃ i,i+w.length<=z.length/\(z.drop i).take w.length=w
 |[]=>by
  unfold occurs;constructor;·intro h;rw[Zc]at h;subst h;exact⟨0,by simp,by simp⟩
  ·rintro⟨i,h,_⟩;rw[Zc];exact List.length_eq_zero_iff.mp (by simp only[az]at h;omega)|c::r=>by
  unfold occurs;rw[rf,FV w r,List.isPrefixOf_iff_prefix];constructor
  ·rintro(h|⟨i,h1,h2⟩);·exact⟨0,by have:=h.length_le;omega,by rw[tx];exact(List.prefix_iff_eq_take.mp h).symm⟩
   ·exact⟨i+1,by simp;omega,by simpa using h2⟩
  ·rintro⟨i,h1,h2⟩;cases i with|zero=>exact .inl (by rw[tx]at h2;rw[List.prefix_iff_eq_take];exact h2.symm)|succ i=>exact .inr ⟨i,by simp at h1;omega,by simpa using h2⟩
theorem IW (w z:List Nat):(!(ot ⟨z.toArray⟩ ⟨w.toArray⟩ 0 (⟨z.toArray⟩:Str).length 1).isEmpty)=occurs w z:=by
 rw[Zn,PySem.StrLaws.found_iff,FV];refine⟨fun⟨i,h1,h2⟩=>⟨i,by simpa [kv]using h1,?_⟩,fun⟨i,h1,h2⟩=>⟨i,by simpa [kv]using h1,?_⟩⟩;·unfold Yn at h2;have:=eq_of_beq h2;simp only[kv,be]at this;have e:=congrArg zv this;simp only[xy,uf,vt]at e;exact e
 ·unfold Yn;rw[beq_iff_eq];simp only[kv,be];apply Array.toList_inj.mp;simp only[xy,uf,vt];exact h2
variable {o:sY}
section
variable {C:bG}{sub:Nat->Nat->Bool}{E:XK}{a b c e:Expr}{x y z:Ex}{pos:Pos}
theorem Ug (hu:X.A.units+180<cLine):pL X .Eq (dU .eq):=by intro pz s σ H st d d' v v' u u' P I ok r rv r' bJ ⟨p,p',q⟩;have hD:iC=80:=rfl;exact(S8 I ok 80 (by have:=p.2;omega) p.1 p'.1 r rv r' bJ (by omega)).1 _ _ _ _ ⟨_,rfl,q,I⟩
theorem Vi (hu:X.A.units+180<cLine):pL X .NotEq (dU .ne):=by intro pz s σ H st d d' v v' u u' P I ok r rv r' bJ ⟨p,p',q⟩;have hD:iC=80:=rfl;exact(S8 I ok 80 (by have:=p.2;omega) p.1 p'.1 r rv r' bJ (by omega)).2.2 _ _ _ _ ⟨_,rfl,q,I⟩
theorem LA {op:CmpOp}{f:Int->Int->Bool}(hW:∀ d d' st P,dU o d d' st P=yK f d d' P)(rule:∀(i j:Int)(t u:Tok)(Q:ae->ag->Prop)(s:ag),Q (.bool (f i j)) s->wpAny (model X.prog X.w) X.A (vf op (.int i t) (.int j u)) Q X.xe s):pL X op (dU o):=by
 intro pz s σ H st d d' v v' u u' P I ok r rv r' bJ q;rw[hW]at q;unfold yK at q;split at q;·cases r.int_inv;cases r'.int_inv;obtain⟨t,rfl⟩:=rv;obtain⟨t',rfl⟩:=bJ;exact rule _ _ _ _ _ _ ⟨_,rfl,q,I⟩
 ·exact q.elim
theorem Us:pL X .Lt (dU .lt):=LA (fun _ _ _ _=>rfl) fun _ _ _ _ _ _ h=>lt_int h
theorem Xb:pL X .LtE (dU .le):=LA (fun _ _ _ _=>rfl) fun _ _ _ _ _ _ h=>le_int h
theorem Vl:pL X .Gt (dU .gt):=LA (fun _ _ _ _=>rfl) fun _ _ _ _ _ _ h=>gt_int h
theorem Wi:pL X .GtE (dU .ge):=LA (fun _ _ _ _=>rfl) fun _ _ _ _ _ _ h=>ge_int h
theorem U2 {s:ag}{a:Addr}(I:Inv X pz σ H s)(h:H a=some (.lst vs))(f:nR X.K H a us):False:=by
 rcases f with⟨o,e⟩|⟨o,_,_,e,_⟩;·rw[h]at e;cases e
 ·have:=(I.bs a o (I.ok.mod.kin a o e)).2;rw[h]at this;cases this
set_option tactic.hygienic true in
theorem OY {s:ag}(I:Inv X pz σ H s)(ok:aS X.K st H):∀(n:Nat){d d':D}{v:V},cT d<=n->iB st d=true->iB st d'=true->Rep X.K H d v->Rep X.K H d' v->d=d':=by
 have lists:∀{d d':D}{v:V}{xs ys:List D},sL st d=some xs->sL st d'=some ys->cD xs=true->cD ys=true->Rep X.K H d v->Rep X.K H d' v->d=d':=by intro d d' v xs ys q q' p p' r r';cases r with
  |ref a=>cases r' with
   |ref _=>rfl|bR f g =>
    simp only[sL]at q;split at q;·rename_i e;obtain⟨vs,h,_⟩:=ok.lst e;exact(U2 I h f).elim
    ·cases q|_=>cases q'
  |bR f g=>cases r' with
   |ref _ =>
    simp only[sL]at q';split at q';·rename_i e;obtain⟨vs,h,_⟩:=ok.lst e;exact(U2 I h f).elim
    ·cases q'|bR f' g' =>cases q;cases q';cases I.mI f.sq f'.sq;rw[tB I p p' g g']|_=>cases q'
  |_=>cases q
 intro n;induction n with|zero =>
  intro d d' v hn p p' r r';rcases kinds p with q|⟨ds,rfl,q⟩|⟨xs,q,q1,q2⟩;·cases r<;>cases r'<;>first|rfl|(cases q;done)|skip
  ·simp only[cT]at hn;omega
  ·obtain⟨a,vs,rfl,f1,g1⟩:=gO ok q r;rcases kinds p' with q'|⟨kL,rfl,q'⟩|⟨ys,q',q1',q2'⟩;·cases r'<;>cases q'
   ·obtain⟨b,us,e,f2,g2⟩:=r'.cA;cases e;exact(HX I f1 f2).elim
   ·exact lists q q' q1 q1' r r'|succ n ih =>
  intro d d' v hn p p' r r';rcases kinds p with q|⟨ds,rfl,q⟩|⟨xs,q,q1,q2⟩;·cases r<;>cases r'<;>first|rfl|(cases q;done)|skip
  ·obtain⟨a,vs,rfl,f1,g1⟩:=r.cA;rcases kinds p' with q'|⟨kL,rfl,q'⟩|⟨ys,q',q1',q2'⟩;·cases r'<;>cases q'
   ·obtain⟨b,us,e,f2,g2⟩:=r'.cA;cases e;cases I.uV f1 f2;simp only[cT]at hn;have go:∀(ds es:List D)(vs:List V),cX ds<=n->iP st ds=true->iP st es=true->aJ X.K H ds vs->aJ X.K H es vs->ds=es:=by intro ds;induction ds with|nil=>intro es vs _ _ _ r r';cases r;cases r';rfl|cons d ds ihs =>intro es vs hd pp pp' r r';cases r with|cons r1 r2=>cases r' with |cons r1' r2' =>simp only[cX]at hd;simp only[iP,bc]at pp pp';rw[ih (by omega) pp.1 pp'.1 r1 r1',ihs _ _ (by omega) pp.2 pp'.2 r2 r2']
    rw[go ds kL vs (by omega) q q' g1 g2]
   ·obtain⟨b,us,e,f2,g2⟩:=gO ok q' r';cases e;exact(HX I f2 f1).elim
  ·obtain⟨a,vs,rfl,f1,g1⟩:=gO ok q r;rcases kinds p' with q'|⟨kL,rfl,q'⟩|⟨ys,q',q1',q2'⟩;·cases r'<;>cases q'
   ·obtain⟨b,us,e,f2,g2⟩:=r'.cA;cases e;exact(HX I f1 f2).elim
   ·exact lists q q' q1 q1' r r'
theorem IJ {s:ag}(I:Inv X pz σ H s)(ok:aS X.K st H){aD:List ae}{d:D}{A:cp}(g:aJ X.K H ds vs)(r:aR vs aD)(p:eF st ds)(pd:plainS st d)(rd:Rep X.K H d v)(rv:RelV v u)(hu:A.units+178<cLine): ∃ e:ae->Bool,(∀ y,y∈aD.toArray->EqAt A.in1 s y u (e y))/\aD.toArray.any e=ds.any fun d'=>bW st d' d:=by classical
 have hD:iC=80:=rfl;have item:∀(d':D)(v':V)(y:ae),d'∈ds->Rep X.K H d' v'->RelV v' y->EqAt A.in1 s y u (bW st d' d):=fun d' v' y m r' bJ=>by have h1:=kK m;have h2:=p.2;exact(S8 I ok 80 (by omega) (iD p.1 m) pd.1 r' bJ rd rv (by simp only[gh];omega)).2.1
 let e:ae->Bool:=fun y=>decide (∃ d' v',d'∈ds/\Rep X.K H d' v'/\RelV v' y/\bW st d' d=true);have he:∀(d':D)(v':V)(y:ae),d'∈ds->Rep X.K H d' v'->RelV v' y->e y=bW st d' d:=fun d' v' y m r' bJ=>by show decide _=_;cases q:bW st d' d with|true=>exact decide_eq_true ⟨d',v',m,r',bJ,q⟩|false =>refine decide_eq_false fun⟨d2,v2,m2,r2,rv2,q2⟩=>?_;cases RelV.inj bJ rv2;have:=OY I ok _ (aw _) (iD p.1 m) (iD p.1 m2) r' r2;subst this;rw[q]at q2;cases q2
 refine⟨e,fun y hy=>?_,?_⟩;·obtain⟨j,hj,rfl⟩:=Array.mem_iff_getElem.mp hy;obtain⟨v',e1,e2⟩:=aR.at r hj;obtain⟨d',e3,e4⟩:=aJ.get' g e1;rw[he d' v' _ (bp e3) e4 e2];exact item d' v' _ (bp e3) e4 e2
 ·have go:∀(es:List D)(vs:List V)(aD:List ae),(∀ d∈es,d∈ds)->aJ X.K H es vs->aR vs aD->aD.any e=es.any fun d'=>bW st d' d:=by intro es;induction es with|nil=>intro vs aD _ g r;cases g;cases r;rfl|cons d1 es ih =>intro vs aD hm g r;cases g with|cons g1 g2=>cases r with |cons r1 r2 =>simp only[kx];rw[he d1 _ _ (hm d1 (by simp)) g1 r1,ih _ _ (fun d m=>hm d (by simp [m])) g2 r2]
  rw[List.any_toArray];exact go ds vs aD (fun _ m=>m) g r
theorem WT (k x:Str):(decide (k=x))=(x.cps.toList==k.cps.toList):=by
 by_cases h:k=x;·subst h;simp
 ·rw[decide_eq_false h];symm;refine beq_eq_false_iff_ne.mpr fun e=>h ?_;obtain⟨⟨k⟩⟩:=k;obtain⟨⟨x⟩⟩:=x;have e:x=k:=e;subst e;rfl
theorem HW {s:ag}{a:Addr}{T:List (Str×PyData)}(I:Inv X pz σ H s)(h:xt uz (fun b=>X.K.lookup b) a T=true):KTD.Here s.heap s.heap a (T.map fun p=>(p.1,wq p.2)) :=⟨(KTD.tab_of_look (fun d v=>KTD.flat_of_looks) (fun a o e=>I.jS a o e) h).text,fun _ _ e=>e⟩
theorem P0 (k:List Nat):∀(T:List (Str×PyData)),KTD.inKeys (⟨k.toArray⟩:Str) (T.map fun p=>(p.1,wq p.2))=(T.map fun p=>D.str p.1.cps.toList).any fun d=>bT d (.str k)|[]=>rfl|(x,d)::T=>by show(decide ((⟨k.toArray⟩:Str)=x)||KTD.inKeys _ _)=((x.cps.toList==k)||_);rw[P0 k T,WT]
theorem Ms (hu:X.A.units+180<cLine):pL X .In (dU .in_)/\pL X .NotIn (dU .lS):=by
 have main:∀(neg:Bool)(pz:List (Addr×Obj))(s:ag)(σ:L2.St)(H:Hp)(st:aB)(d d':D)(v v':V)(u u':ae)(P:Bool->Prop),Inv X pz σ H s->aS X.K st H->Rep X.K H d v->RelV v u->Rep X.K H d' v'->RelV v' u' -> MG d d' st (fun b=>P (if neg then !b else b))->wpAny (model X.prog X.w) X.A (vf (if neg then .NotIn else .In) u u') (fun r s'=>∃ k,r=.bool k/\P k/\Inv X pz σ H s') X.xe s:=by
  intro neg pz s σ H st d d' v v' u u' P I ok r rv r' bJ q;have lst:∀(a:Addr)(vs:List V)(ds:List D),dA X.K H a vs->aJ X.K H ds vs->plainS st d->eF st ds->P (if neg then !(ds.any fun d'=>bW st d' d)else ds.any fun d'=>bW st d' d) -> wpAny (model X.prog X.w) X.A (vf (if neg then .NotIn else .In) u (.ref a)) (fun r s'=>∃ k,r=.bool k/\P k/\Inv X pz σ H s') X.xe s:=by intro a vs ds f g pd ps q;obtain⟨aD,r1,p1,_⟩:=I.list f;obtain⟨e,he,ha⟩:=IJ I ok g r1 ps pd r rv (A:=X.A) (by omega);rw[<-ha]at q;cases neg with|true=>exact notIn_listAt e p1.isList he ⟨_,rfl,q,I⟩|false=>exact in_listAt e p1.isList he ⟨_,rfl,q,I⟩
  unfold MG at q;split at q;·obtain⟨a,vs,rfl,f,g⟩:=r'.cA;cases bJ;obtain⟨aD,r1,p1,_⟩:=I.tuple f;obtain⟨pd,ps,q⟩:=q;obtain⟨e,he,ha⟩:=IJ I ok g r1 ps pd r rv (A:=X.A) (by omega);rw[<-ha]at q;cases neg with|true=>exact notIn_tupleAt e p1 he ⟨_,rfl,q,I⟩|false=>exact in_tupleAt e p1 he ⟨_,rfl,q,I⟩
  ·cases r'.cQ;cases bJ;obtain⟨ds,e1,pd,ps,q⟩:=uB ok q;obtain⟨vs,g1,g2⟩:=ok.lst e1;exact lst _ vs ds (dA.of g1) g2 pd ps q
  ·obtain⟨a,rfl,T,h1,_,h2,_⟩:=r'.MB;cases bJ;cases r.str_inv;obtain⟨t,rfl⟩:=rv;rw[h2,<-P0]at q;cases neg with|true=>exact KTD.notin_text (HW I h1) ⟨_,rfl,q,I.tok _⟩|false=>exact KTD.in_text (HW I h1) ⟨_,rfl,q,I.tok _⟩
  ·obtain⟨a,vs,rfl,f,g⟩:=r'.mJ;cases bJ;exact lst a vs _ f.sq g q.1 q.2.1 q.2.2
  ·cases r.str_inv;cases r'.str_inv
   cases neg with|true =>
    refine bF (NT (X:=X) pz s σ H _ _ _ _ (fun v H'=>H'=H/\∃ k,v=.bl k/\P k) I rv bJ ⟨_,_,rfl,rfl,rfl,_,rfl,?_⟩) fun r s1 ⟨v,H',I1,r1,e,k,e',q'⟩=>?_;·rw[IW];exact q
    ·subst e e';cases r1;exact⟨k,rfl,q',I1⟩|false =>
    refine bF (UJ (X:=X) pz s σ H _ _ _ _ (fun v H'=>H'=H/\∃ k,v=.bl k/\P k) I rv bJ ⟨_,_,rfl,rfl,rfl,_,rfl,?_⟩) fun r s1 ⟨v,H',I1,r1,e,k,e',q'⟩=>?_;·rw[IW];exact q
    ·subst e e';cases r1;exact⟨k,rfl,q',I1⟩
  ·exact q.elim
 exact⟨fun pz s σ H st d d' v v' u u' P I ok r rv r' bJ q=>main false pz s σ H st d d' v v' u u' P I ok r rv r' bJ q,fun pz s σ H st d d' v v' u u' P I ok r rv r' bJ q=>main true pz s σ H st d d' v v' u u' P I ok r rv r' bJ q⟩
theorem JJ {K:aa}{d:D}(r:Rep K H d v)(rv:RelV v u):(u==j0)=yC d:=by rw[rv.Ae];cases r<;>rfl
set_option tactic.hygienic true in
theorem Nc:pL X .Is (dU .is_)/\pL X .IsNot (dU .isnot):=by
 constructor
 ·intro pz s σ H st d d' v v' u u' P I ok r rv r' bJ q;have q:FU d d' P:=q;unfold FU at q;split at q;·cases r'.gC;cases bJ;exact is_none_gen ⟨_,rfl,by rw[JJ r rv];exact q,I⟩
  ·rename_i b;cases r'.fU;cases bJ;cases r with|bl c=>cases rv;exact is_bool ⟨_,rfl,q,I⟩|non=>cases rv;exact lb rfl (by intro z;cases z) ⟨_,rfl,q,I⟩|int i=>obtain⟨t,rfl⟩:=rv;exact lb rfl (by intro z;cases z) ⟨_,rfl,q,I⟩|str z=>obtain⟨t,rfl⟩:=rv;exact lb rfl (by intro z;cases z) ⟨_,rfl,q,I⟩|tup _ _=>cases rv;exact lb rfl (by intro z;cases z) ⟨_,rfl,q,I⟩|ref _=>cases rv;exact lb rfl (by intro z;cases z) ⟨_,rfl,q,I⟩|bR _ _=>cases rv;exact lb rfl (by intro z;cases z) ⟨_,rfl,q,I⟩|dP _=>cases rv;exact lb rfl (by intro z;cases z) ⟨_,rfl,q,I⟩
  ·exact q.elim
 ·intro pz s σ H st d d' v v' u u' P I ok r rv r' bJ q;have q:FU d d' (fun b=>P (!b)):=q;unfold FU at q;split at q;·cases r'.gC;cases bJ;exact isnot_none_gen ⟨_,rfl,by rw[JJ r rv];exact q,I⟩
  ·rename_i b;cases r'.fU;cases bJ;cases r with|bl c=>cases rv;exact isnot_bool ⟨_,rfl,q,I⟩|non=>cases rv;exact jz rfl (by intro z;cases z) ⟨_,rfl,q,I⟩|int i=>obtain⟨t,rfl⟩:=rv;exact jz rfl (by intro z;cases z) ⟨_,rfl,q,I⟩|str z=>obtain⟨t,rfl⟩:=rv;exact jz rfl (by intro z;cases z) ⟨_,rfl,q,I⟩|tup _ _=>cases rv;exact jz rfl (by intro z;cases z) ⟨_,rfl,q,I⟩|ref _=>cases rv;exact jz rfl (by intro z;cases z) ⟨_,rfl,q,I⟩|bR _ _=>cases rv;exact jz rfl (by intro z;cases z) ⟨_,rfl,q,I⟩|dP _=>cases rv;exact jz rfl (by intro z;cases z) ⟨_,rfl,q,I⟩
  ·exact q.elim
noncomputable def qS:sY->CmpOp |.eq=>.Eq|.ne=>.NotEq|.lt=>.Lt|.le=>.LtE|.gt=>.Gt|.ge=>.GtE|.is_=>.Is|.isnot=>.IsNot|.in_=>.In|.lS=>.NotIn
theorem LB (hu:X.A.units+180<cLine):∀ o:sY,pL X (qS o) (dU o)|.eq=>Ug hu|.ne=>Vi hu|.lt=>Us|.le=>Xb|.gt=>Vl|.ge=>Wi|.is_=>Nc.1|.isnot=>Nc.2|.in_=>(Ms hu).1|.lS=>(Ms hu).2
theorem Rf (hu:X.A.units+180<cLine)(ha:PE X a (cF X.K (aG C sub E x)))(hb:PE X b (cF X.K (aG C sub E y)))(hm:me (qS o) b=false):PE X (.Compare a [qS o] [b] pos) (cF X.K (aG C sub E (.cmp o x y))):=by intro pz s σ H Q I ⟨ap,st,R,r,ok,q,hq⟩;refine wpAny_Compare1 (bF (ha pz s σ H _ I ⟨ap,st,_,r,ok,q,fun v H' z=>z⟩) fun u s1 ⟨v,H1,I1,rv,d,aC,dH,aO,r1,q1⟩ =>bF (hb pz s1 σ H1 _ I1 ⟨ap,aC,_,r.step ok dH,aO,q1,fun v H' z=>z⟩) fun u' s2 ⟨v',H2,I2,bJ,d',aF,hZ,bZ,r2,q2⟩ =>bF (LB hu o pz s2 σ H2 aF d d' v v' u u' _ I2 bZ (r1.step aO hZ) rv r2 bJ q2) fun w s3 ⟨k,e,q3,I3⟩=>?_) hm;subst e;exact⟨.bl k,H2,I3,rfl,hq _ _ (.after (dH.trans hZ) (.here bZ (.bl k) q3))⟩
theorem Mr (hu:X.A.units+180<cLine)(ha:PE X a (cF X.K (aG C sub E x)))(hb:PE X b (cF X.K (aG C sub E y)))(hm:me (qS o) b=false):PT X (.Compare a [qS o] [b] pos) (kW X.K (aG C sub E (.cmp o x y))):=by intro pz s σ H Q I ⟨ap,st,R,r,ok,q,hq⟩;refine xj (bF (ha pz s σ H _ I ⟨ap,st,_,r,ok,q,fun v H' z=>z⟩) fun u s1 ⟨v,H1,I1,rv,d,aC,dH,aO,r1,q1⟩ =>bF (hb pz s1 σ H1 _ I1 ⟨ap,aC,_,r.step ok dH,aO,q1,fun v H' z=>z⟩) fun u' s2 ⟨v',H2,I2,bJ,d',aF,hZ,bZ,r2,q2⟩ =>bF (LB hu o pz s2 σ H2 aF d d' v v' u u' _ I2 bZ (r1.step aO hZ) rv r2 bJ q2) fun w s3 ⟨k,e,q3,I3⟩=>?_) hm;subst e;exact mi ⟨H2,I3,hq _ _ ⟨aF,dH.trans hZ,bZ,q3⟩⟩
theorem Fm {o':sY}(hu:X.A.units+180<cLine)(ha:PE X a (cF X.K (aG C sub E x)))(hb:PE X b (cF X.K (aG C sub E y)))(hc:PE X c (cF X.K (aG C sub E z)))(hm:lastMarks [qS o,qS o'] [b,c]=false):PE X (.Compare a [qS o,qS o'] [b,c] pos) (cF X.K (aG C sub E (.chain o o' x y z))):=by intro pz s σ H Q I ⟨ap,st,R,r,ok,q,hq⟩;refine Compare_chain (bF (ha pz s σ H _ I ⟨ap,st,_,r,ok,q,fun v H' z=>z⟩) fun u s1 ⟨v,H1,I1,rv,d,aC,dH,aO,r1,q1⟩ =>chain_link (bF (hb pz s1 σ H1 _ I1 ⟨ap,aC,_,r.step ok dH,aO,q1,fun v H' z=>z⟩) fun u' s2 ⟨v',H2,I2,bJ,d',aF,hZ,bZ,r2,q2⟩ =>bF (LB hu o pz s2 σ H2 aF d d' v v' u u' _ I2 bZ (r1.step aO hZ) rv r2 bJ q2) fun w s3 ⟨k,e,q3,I3⟩=>?_)) hm;subst e;refine mi ?_;cases k with|false=>exact ite_ff ⟨.bl false,H2,I3,rfl,hq _ _ (.after (dH.trans hZ) (.here bZ (.bl _) q3))⟩|true =>refine ite_tt (chain_last (bF (hc pz s3 σ H2 _ I3 ⟨ap,aF,_,(r.step ok dH).step aO hZ,bZ,q3,fun v H' z=>z⟩) fun u3 s4 ⟨v3,H4,I4,rv3,d3,cG,s4s,RQ,r4,q4⟩ =>bF (LB hu o' pz s4 σ H4 cG d' d3 v' v3 u' u3 _ I4 RQ (r2.step bZ s4s) bJ r4 rv3 q4) fun w s5 ⟨k,e,q5,I5⟩=>?_));subst e;exact⟨.bl k,H4,I5,rfl,hq _ _ (.after ((dH.trans hZ).trans s4s) (.here RQ (.bl k) q5))⟩
end
end L3
end
section
namespace L3
open PySem PySem.Spec PyProof.Rows PyProof.V L2
variable {X:Cx}{H:Hp}{ds:List D}{vs:List V}{v:V}{st:aB}{hi:Option Int}{Q:L2.VK}{xs:List Ex}{es:List Expr}
section
variable {C:bG}{sub:Nat->Nat->Bool}{E:XK}{a b c e:Expr}{x y z:Ex}{pos:Pos}
theorem Ip (n:Nat)(i:Int):L2.oB n i=oB n i:=rfl
theorem G4 {K:aa}{i:Int}{d:D}(r:aJ K H ds vs)(h:gP ds i=some d):∃ v,L2.gP vs i=some v/\Rep K H d v:=by unfold gP at h;unfold L2.gP;rw[Ip,<-r.length];cases e:oB ds.length i with|none=>rw[e]at h;cases h|some j =>rw[e]at h;obtain⟨v,e1,e2⟩:=r.get (i:=j) h;exact⟨v,e1,e2⟩
noncomputable def Lq (K:aa):R2:=fun x y H Q=>∃(p:Addr)(T:List (Str×PyData))(k:Str)(d:Zy),x=.ref p/\y=.str k/\xt uz (fun b=>K.lookup b) p T=true/\qt k T=some d/\pJ d=true/\∀ v u,RelV v u->Flat u d->Q v H
noncomputable def TF (K:aa):R2:=fun x y H Q=>Tq K x y H Q∨Lq K x y H Q
theorem xN {k:Str}{d:Zy}:∀{T:List (Str×PyData)},qt k T=some d->qt k (T.map fun p=>(p.1,wq p.2))=some (.flat d)
 |[],h=>by cases h|(x,e)::T,h=>by
  show(if decide (k=x)=true then some (wq e)else _)=_;have h:(if decide (k=x)=true then some e else qt k T)=some d:=h;by_cases c:decide (k=x)=true;·rw[if_pos c]at h ⊢;cases h;rfl
  ·rw[if_neg c]at h ⊢;exact xN h
theorem Oo:zA X (Lq X.K):=by
 intro value slice pz s σ H x y v u Q I rx ry h hs;obtain⟨p,T,k,d,rfl,rfl,hT,hd,hsd,q⟩:=h;cases rx;obtain⟨t,rfl⟩:=ry;have hh:=HW I hT;refine subscriptTail_builtin_flat hh.typeIs slot_dict_getitem.lookup ?_ hs;unfold we;try with_reducible refine g7 ?_
 refine af (uu hh.typeIs (by decide) ?_);refine af (jx (name:=kq "__getitem__") hh.typeIs Yo (gb Yo hh.typeIs entry_dict_getitem ?_ (args_dict_getitem _ _)));show wpAny _ _ (dictGet p (.str k t) >>= _) _ _ s;refine af (KTD.dictGet_text hh (fun d' v ha hv=>?_) fun hn=>?_)
 ·rw[xN hd]at ha;cases ha;have hv:Flat v d:=hv;refine ar ⟨v,rfl,ar ⟨Flat.notRef hv,?_⟩⟩;obtain⟨w,rw'⟩:∃ w,RelV w v:=by cases d with|none=>cases Flat.none_inv hv;exact⟨.non,rfl⟩|bool b=>cases Flat.bool_inv hv;exact⟨.bl b,rfl⟩|int i=>obtain⟨t,rfl⟩:=Flat.int_inv hv;exact⟨.int i,⟨t,rfl⟩⟩|str x=>obtain⟨t,rfl⟩:=Flat.str_inv hv;exact⟨.str x,⟨t,rfl⟩⟩|_=>cases hsd
  exact⟨w,H,I.tok _,rw',q w v rw' hv⟩
 ·rw[xN hd]at hn;cases hn
theorem Km:zA X (TF X.K):=Md.or Oo
theorem VL {K:aa}(v v':V)(H:Hp)(Q Q':L2.VK)(h:∀ v H,Q v H->Q' v H)(z:TF K v v' H Q):TF K v v' H Q':=by
 rcases z with z|⟨p,T,k,d,e,e',e1,e2,e3,q⟩
 ·refine .inl ?_;rcases z with⟨p,xs,i,v,e,e',s,t,q⟩|⟨p,xs,i,v,e,e',s,t,q⟩|⟨z,i,c,e,e',s,t,q⟩;·exact .inl ⟨p,xs,i,v,e,e',s,t,h _ _ q⟩
  ·exact .inr (.inl ⟨p,xs,i,v,e,e',s,t,h _ _ q⟩)
  ·exact .inr (.inr ⟨z,i,c,e,e',s,t,h _ _ q⟩)
 ·exact .inr ⟨p,T,k,d,e,e',e1,e2,e3,fun v u r f=>h _ _ (q v u r f)⟩
theorem OZ {k:List Nat}{d:D}:∀{T:List (Str×PyData)},(T.all fun p=>pJ p.2)=true->xP (T.map fun p=>.str p.1.cps.toList) (T.map fun p=>uE p.2) (.str k)=some d->∃ e,qt (⟨k.toArray⟩:Str) T=some e/\pJ e=true/\d=uE e
 |[],_,h=>by cases h|(x,e)::T,a,h=>by
  simp only[ny,bc]at a;have h:(if(x.cps.toList==k)=true then some (uE e)else xP (T.map fun p=>.str p.1.cps.toList) (T.map fun p=>uE p.2) (.str k))=some d:=h;show ∃ e',(if decide ((⟨k.toArray⟩:Str)=x)=true then some e else qt _ T)=some e'/\_;rw[WT];by_cases c:(x.cps.toList==k)=true;·rw[if_pos c]at h;cases h;exact⟨e,if_pos c,a.1,rfl⟩
  ·rw[if_neg c]at h;obtain⟨e',h1,h2⟩:=OZ a.2 h;exact⟨e',(if_neg c).trans h1,h2⟩
theorem YT {K:aa}{e:Zy}{u:ae}(s:pJ e=true)(r:RelV v u)(f:Flat u e):Rep K H (uE e) v:=by cases e with|none=>cases Flat.none_inv f;cases RelV.inj r (show RelV .non .none from rfl);exact .non|bool b=>cases Flat.bool_inv f;cases RelV.inj r (show RelV (.bl b) (.bool b)from rfl);exact .bl b|int i=>obtain⟨t,rfl⟩:=Flat.int_inv f;cases RelV.inj r (show RelV (.int i) (.int i t)from⟨t,rfl⟩);exact .int i|str x=>obtain⟨t,rfl⟩:=Flat.str_inv f;cases RelV.inj r (show RelV (.str x) (.str x t)from⟨t,rfl⟩);exact .str x.cps.toList|_=>cases s
theorem ZZ {K:aa}{R:VK}{d d':D}{v':V}(ok:aS K st H)(r:Rep K H d v)(r':Rep K H d' v')(h:mY d d' st R):TF K v v' H (QD K H st R):=by
 unfold mY at h;split at h;·obtain⟨a,vs,rfl,f,g⟩:=r.cA;cases r'.int_inv;obtain⟨d,e,q⟩:=fE h;obtain⟨v,e1,e2⟩:=G4 g e;exact .inl (.inr (.inl ⟨a,vs,_,v,rfl,rfl,f,e1,.here ok e2 q⟩))
 ·obtain⟨a,vs,rfl,f,g⟩:=r.mJ;cases r'.int_inv;obtain⟨d,e,q⟩:=fE h;obtain⟨v,e1,e2⟩:=G4 g e;exact .inl (.inl ⟨a,vs,_,v,rfl,rfl,f.sq,e1,.here ok e2 q⟩)
 ·cases r.str_inv;cases r'.int_inv;obtain⟨l,h⟩:=h;obtain⟨c,e,q⟩:=fE h;exact .inl (.inr (.inr ⟨_,_,c,rfl,rfl,by rw[gA];simpa [kv]using l,e,.here ok (.str [c]) q⟩))
 ·obtain⟨a,rfl,T,h1,h2,h3,h4⟩:=r.MB;cases r'.str_inv;obtain⟨d,e,q⟩:=fE h;rw[h3,h4]at e;obtain⟨e',e1,e2,rfl⟩:=OZ h2 e;exact .inr ⟨a,T,_,e',rfl,rfl,h1,e1,e2,fun v u r f=>.here ok (YT e2 r f) q⟩
 ·cases r.cQ;obtain⟨ds,e,q⟩:=uB ok h;obtain⟨vs,g1,g2⟩:=ok.lst e;split at q;·cases r'.int_inv;obtain⟨d,e,q⟩:=fE q;obtain⟨v,e1,e2⟩:=G4 g2 e;exact .inl (.inl ⟨_,vs,_,v,rfl,rfl,dA.of g1,e1,.here ok e2 q⟩)
  ·exact q.elim
 ·exact h.elim
theorem Xa (ha:PE X a (cF X.K (aG C sub E x)))(hb:PE X b (cF X.K (aG C sub E y)))(hp:wX b):PE X (.Subscript a b pos) (cF X.K (aG C sub E (.ix x y))) :=(Cb Km ha hb hp).imp fun σ H Q ⟨ap,st,R,r,ok,q,hq⟩=>by exact two (W:=fun d d' aF=>mY d d' aF R) r ok q hq (fun d d' v v' H2 aF bZ r1 r2 h=>ZZ bZ r1 r2 h) VL
theorem zI {prog:b7}{w:c9}{A:cp}{E:ae->ag->Prop}{s:ag}{t sl:Addr}{items:Array ae}{vl vu:ae}{lo:Option Int}{Q:ae->ag->Prop}(ht:IsTup s.heap t items)(hs:s.heap.IsSliceOf sl vl vu .none)(pl:wc vl lo)(pu:wc vu hi)(hw:HT.cS items.size 0 lo=0/\HT.cS items.size items.size hi=items.size)(h:Q (.ref t) s):wpAny (model prog w) A (we (.ref t) (.ref sl)) Q E s:=by
 obtain⟨os,hos,hcs,hds⟩:=id hs;have hTs:s.TypeIs (.ref sl) "slice":=⟨os,hos,hcs⟩;unfold we;try with_reducible refine g7 ?_
 first|refine af (ar ?_)|skip
 refine af (uu ht.typeIs (by decide) ?_);refine af (jx (name:=kq "__getitem__") ht.typeIs jh (gb jh ht.typeIs ym ?_ (zi _ _)));show wpAny _ _ (ig (.ref t) >>= _) _ _ s;refine af (yw ht ?_);refine af (wg hTs ?_);rw[if_pos (by decide)];refine af (HT.sV hs pl pu ?_);have hyes:(((HT.cS items.size 0 lo:Nat):Int)==0&&(1:Int)==1&&(HT.cS items.size items.size hi-HT.cS items.size 0 lo)==items.size)=true:=by rw[hw.1,hw.2];simp
 show wpAny _ _ (if(((HT.cS items.size 0 lo:Nat):Int)==0&&(1:Int)==1&&(HT.cS items.size items.size hi-HT.cS items.size 0 lo)==items.size)=true then _ else _) _ _ s;rw[if_pos hyes];have hex:∀{Q:Bool->ag->Prop},Q true s->wpAny (model prog w) A.in1 (tz (.ref t)) Q E s:=fun h=>by unfold tz;exact af (wg ht.typeIs (ar h))
 refine af (hex ?_);rw[if_pos rfl];exact af (wo (ar ⟨_,rfl,ar h⟩))
theorem XQ (n d:Nat)(o:Option Int):HT.cS n d o=cS n d o:=rfl
theorem aJ.cut {K:aa}(r:aJ K H ds vs)(lo hi:Option Int):aJ K H (cut ds lo hi) (cut vs lo hi):=by unfold L3.cut;rw[r.length];exact(r.drop _).take _
def Hm (K:aa):V->Option Int->Option Int->Hp->L2.VK->Prop:=fun x lo hi H Q=>∃ a xs,x=.ref a/\eU K H a xs/\(HT.cS xs.length 0 lo=0/\HT.cS xs.length xs.length hi=xs.length)/\Q (.ref a) H
theorem Eu:zO X (Hm X.K):=by
 intro pz s σ H x v vl vu lo hi sl Q I rx hs pl pu h;obtain⟨a,xs,rfl,hx,hw,q⟩:=h;cases rx;obtain⟨aD,r,ht,hz⟩:=I.tuple hx;have hlen:aD.toArray.size=xs.length:=by rw[be];exact r.length.symm
 refine⟨"tuple", _,PyProof.Rows.slot_tuple_getitem.lookup,ht.typeIs,?_⟩;exact zI ht hs pl pu (by rw[hlen];exact hw) ⟨.ref a,H,I,rfl,q⟩
abbrev Kj (K:aa):V->Option Int->Option Int->Hp->L2.VK->Prop:=fun x lo hi H Q=>Kt K x lo hi H Q∨Hm K x lo hi H Q∨Hx K x lo hi H Q
theorem Nk:zO X (Kj X.K):=zO.or L2.MD (zO.or Eu Ej)
set_option tactic.hygienic true in
theorem ZA {K:aa}{R:VK}{d:D}{lo:Option Int}(ok:aS K st H)(r:Rep K H d v)(h:FY d lo hi st R)(hq:∀ v H',QD K H st R v H'->Q v H'):Kj K v lo hi H Q:=by
 unfold FY at h;split at h
 ·rename_i ds0;obtain⟨a,vs,rfl,f,g⟩:=r.cA;by_cases hw:HT.cS vs.length 0 lo=0/\HT.cS vs.length vs.length hi=vs.length
  ·refine .inr (.inl ⟨a,vs,rfl,f,hw,hq _ _ (.here ok r ?_)⟩);have e:L3.cut ds0 lo hi=ds0:=by unfold L3.cut;rw[g.length,<-XQ,<-XQ,hw.1,hw.2,tx,Nat.sub_zero,<-g.length,Zd]
   rw[e]at h;exact h
  ·exact .inl ⟨a,vs,rfl,f,hw,fun p hp=>hq _ _ (.MF ok (g.cut lo hi) hp h)⟩
 ·cases r.cQ;obtain⟨ds,e,h⟩:=dQ h;obtain⟨vs,g1,g2⟩:=ok.lst e;exact .inr (.inr ⟨_,vs,rfl,dA.of g1,fun p hp=>hq _ _ (.iK ok (g2.cut lo hi) hp h)⟩)
 ·exact h.elim
inductive HU (K:aa)(te:St->aB->(List D->aB->Prop)->Prop)(σ:L2.St)(H:Hp)(Q:Option Int->Hp->Prop):Prop where |mk (ap:St)(st:aB)(R:Option Int->aB->Prop)(r:dY K H ap σ)(ok:aS K st H)(q:te ap st (fun ds aA=>qB ds fun o=>R o aA))(hq:∀(o:Option Int) H',QX K H st (R o) H'->Q o H'):HU K te σ H Q
theorem _root_.L2.PO.imp {e:Option Expr}{t t':TO}(i:∀ σ H Q,t' σ H Q->t σ H Q)(h:PO X e t):PO X e t':=fun pz s σ H Q I q=>h pz s σ H Q I (i σ H Q q)
theorem Fj:PO X none (HU X.K (bM C sub E [])) :=Gg.imp fun σ H Q ⟨ap,st,R,r,ok,q,hq⟩=>by exact hq _ _ ⟨st,.refl,ok,q⟩
theorem Ek (h:PE X e (cF X.K (aG C sub E x))):PO X (some e) (HU X.K (bM C sub E [x])) :=(Cp h).imp fun σ H Q ⟨ap,st,R,r,ok,q,hq⟩=>by refine⟨ap,st,_,r,ok,q,fun v H1 ⟨d,aC,s1,aO,r1,q1⟩=>?_⟩;cases d with|int i=>cases r1.int_inv;exact⟨i,rfl,hq _ _ ⟨aC,s1,aO,q1⟩⟩|_=>exact q1.elim
theorem Uq {lo hi:Option Expr}{xl xh:List Ex}{p2:Pos}(ha:PE X a (cF X.K (aG C sub E x)))(hl:PO X lo (HU X.K (bM C sub E xl)))(hh:PO X hi (HU X.K (bM C sub E xh))):PE X (.Subscript a (.Slice lo hi none p2) pos) (cF X.K (aG C sub E (.sl x xl xh))) :=(Y3 Nk ha hl hh).imp fun σ H Q ⟨ap,st,R,r,ok,q,hq⟩=>by refine⟨ap,st,_,r,ok,q,fun v H1 ⟨d,aC,s1,aO,r1,q1⟩=>?_⟩;refine⟨ap,aC,_,r.step ok s1,aO,q1,fun lo H2 ⟨aF,s2,bZ,q2⟩=>?_⟩;refine⟨ap,aF,_,(r.step ok s1).step aO s2,bZ,q2,fun hi H3 ⟨aX,s3,qZ,q3⟩=>?_⟩;exact ZA qZ ((r1.step aO s2).step bZ s3) q3 fun v H' z=>hq _ _ (.after ((s1.trans s2).trans s3) z)
def zD (X:Cx)(f:ae)(W:List D->aB->VK->Prop):Prop :=∀(pz:List (Addr×Obj))(s:ag)(σ:L2.St)(H:Hp)(st:aB)(ds:List D)(vs:List V)(us:List ae)(R:VK),Inv X pz σ H s->aS X.K st H->aJ X.K H ds vs->aR vs us->W ds st R ->wpAny (model X.prog X.w) X.A (call f us) (EP X pz σ (QD X.K H st R)) X.xe s
inductive Lb (K:aa)(W:List D->aB->VK->Prop)(vs:List V)(H:Hp)(Q:L2.VK):Prop where |mk (ds:List D)(st:aB)(R:VK)(r:aJ K H ds vs)(ok:aS K st H)(q:W ds st R)(hq:∀ v H',QD K H st R v H'->Q v H'):Lb K W vs H Q
theorem zD.call {f:ae}{W:List D->aB->VK->Prop}(h:zD X f W):xC X f (Lb X.K W):=fun pz s σ H vs us Q I rv ⟨ds,st,R,r,ok,q,hq⟩ =>bF (h pz s σ H st ds vs us R I ok r rv q) fun u s' ⟨v,H',I',r',z⟩=>⟨v,H',I',r',hq _ _ z⟩
theorem LX {K:aa}{W:List D->aB->VK->Prop}{σ:L2.St}(h:cF K (fun σ st R=>bM C sub E xs σ st fun ds aA=>W ds aA R) σ H Q):Mb (Lb K W) (kU K (bM C sub E xs)) σ H Q:=by obtain⟨ap,st,R,r,ok,q,hq⟩:=h;refine⟨ap,st,_,r,ok,q,fun vs H1 ⟨ds,aC,s1,aO,r1,q1⟩=>?_⟩;exact⟨ds,aC,R,r1,aO,q1,fun v H' z=>hq _ _ (.after s1 z)⟩
theorem Qz {W:List D->aB->VK->Prop}{n:Str}{id:String}{p:Pos}(hW:zD X (.builtin id) W)(hg:Gl X n)(hm:X.mg n=none)(hv:de n=some (.builtin id))(ha:PA X (e::es) (kU X.K (bM C sub E xs)))(hn:n ≠"__name__")(hdb:(n==("__debug__" : Str))=false)(he:aq (e::es) X.env=(false,eval e X.env)::aq es X.env)(dO:(eh pos (aq es X.env)).any (·.1)=false):PE X (.Call (.Name n p) (e::es) [] pos) (cF X.K fun σ st R=>bM C sub E xs σ st fun ds aA=>W ds aA R) :=(OE hW.call hg hm hv ha hn hdb he dO).imp fun σ H Q h=>LX h
theorem Il {W:List D->aB->VK->Prop}{n:Str}{T:String}{p:Pos}(hW:zD X (.type T) W)(hg:Gl X n)(hm:X.mg n=none)(hv:de n=some (.type T))(ha:PA X (e::es) (kU X.K (bM C sub E xs)))(hn:n ≠"__name__")(hdb:(n==("__debug__" : Str))=false)(he:aq (e::es) X.env=(false,eval e X.env)::aq es X.env)(dO:(eh pos (aq es X.env)).any (·.1)=false):PE X (.Call (.Name n p) (e::es) [] pos) (cF X.K fun σ st R=>bM C sub E xs σ st fun ds aA=>W ds aA R) :=(X5 hW.call hg hm hv ha hn hdb he dO).imp fun σ H Q h=>LX h
theorem aJ.one {K:aa}{d:D}(r:aJ K H [d] vs):∃ v,vs=[v]/\Rep K H d v:=by cases r with|cons h r=>cases r;exact⟨_,rfl,h⟩
theorem W5 {K:aa}{d:D}{P:Nat->Prop}(ok:aS K st H)(r:Rep K H d v)(h:rG d st P):∃ n,Lr K v H n/\P n:=by
 unfold rG at h;split at h;·obtain⟨a,vs,rfl,f,g⟩:=r.cA;exact⟨_,.inr ⟨vs,f,g.length⟩,h⟩
 ·cases r.str_inv;exact⟨_,⟨by rw[gA];simpa [kv]using h.1,by simp [kv]⟩,h.2⟩
 ·cases r.cQ;obtain⟨ds,e,h⟩:=uB ok h;obtain⟨vs,g1,g2⟩:=ok.lst e;exact⟨_,.inl ⟨vs,dA.of g1,g2.length⟩,h⟩
 ·obtain⟨a,vs,rfl,f,g⟩:=r.mJ;exact⟨_,.inl ⟨vs,f.sq,g.length⟩,h⟩
 ·exact h.elim
theorem cL:zD X (.builtin "len") (iU .len):=by intro pz s σ H st ds vs us R I ok r rv q;match ds,q with|[d],q =>have q:rG d st fun n=>R (.int (n:Nat)) st:=q;obtain⟨v,rfl,rd⟩:=r.one;obtain⟨n,l,q⟩:=W5 ok rd q;exact YJ pz s σ H _ us _ I rv ⟨v,n,rfl,l,.here ok (.int _) q⟩|[],q=>exact(show False from q).elim|_::_::_,q=>exact(show False from q).elim
end
end L3
end
section
namespace L3
open PySem PySem.Spec PyProof.Rows L2
variable {X:Cx}{pz:List (Addr×Obj)}{σ:L2.St}{H:Hp}{E:XK}{vs:List V}{st:aB}{v:V}{P:gN}{k:Nat}{m:MT}
section
variable {s:ag}
def UQ (K:aa)(H:Hp)(a:Addr)(vs:List V):Prop:=dA K H a vs∨eU K H a vs
theorem DY {A:cp}{E:ae->ag->Prop}{a:Addr}{Q:ae->ag->Prop}(hh:A.handled=none)(I:Inv X pz σ H s)(h:UQ X.K H a vs)(hQ:∀(aD:List ae)(I0:Addr)(fp wr:List Addr)(St:Nat->Heap->Prop)(ce:ag),aR vs aD->Walks X.prog X.w A I0 fp wr aD.length (fun i v=>aD[i]? = some v) St->St 0 ce.heap->(∀ b∈fp,b<ce.heap.objs.size) -> (∀ h' tk,(∀ b o,b∉wr->ce.heap.get? b=some o->h'.get? b=some o)->Inv X pz σ H { ce with heap:=h',toks:=tk })->Q (.ref I0) ce):wpAny (model X.prog X.w) A (xm (.ref a)) Q E s:=by
 rcases h with h|h
 ·obtain⟨aD,r,p,hz⟩:=I.list h;have hl:=p.isList;have cN:a<s.heap.objs.size:=by obtain⟨_,e,_⟩:=hl;exact bh e
  have W:=Walks.list (prog:=X.prog) (w:=X.w) (A:=A) hh s.heap.objs.size a (b9 cN) aD.toArray;have e1:aD.toArray.size=aD.length:=by simp
  have e2:(fun(i:Nat)(v:ae)=>aD.toArray[i]? = some v)=fun i v=>aD[i]? = some v:=by funext i v;simp
  rw[e1,e2]at W;refine Yp hl (hQ aD s.heap.objs.size _ _ _ _ r W ⟨⟨_,br _ rfl,rfl,rfl⟩,hl.push _⟩ (fun b hb=>?_) fun h' tk hk=>?_)
  ·show b<(s.heap.push _).objs.size;rw[ju];rcases List.mem_cons.mp hb with rfl|hb;·exact gz _
   ·rcases List.mem_cons.mp hb with rfl|hb;·exact kr cN
    ·cases hb
  ·exact I.kept (t':=tk) (old_kept hk)
 ·obtain⟨aD,r,p,hz⟩:=I.tuple h;have hl:s.heap.IsTuple a aD.toArray:=p;have cN:a<s.heap.objs.size:=by obtain⟨_,e,_⟩:=hl;exact bh e
  have W:=AaL (prog:=X.prog) (w:=X.w) (A:=A) hh s.heap.objs.size a (b9 cN) aD.toArray;have e1:aD.toArray.size=aD.length:=by simp
  have e2:(fun(i:Nat)(v:ae)=>aD.toArray[i]? = some v)=fun i v=>aD[i]? = some v:=by funext i v;simp
  rw[e1,e2]at W;refine ua hl (hQ aD s.heap.objs.size _ _ _ _ r W ⟨⟨_,br _ rfl,rfl,rfl⟩,hl.push _⟩ (fun b hb=>?_) fun h' tk hk=>?_)
  ·show b<(s.heap.push _).objs.size;rw[ju];rcases List.mem_cons.mp hb with rfl|hb;·exact gz _
   ·rcases List.mem_cons.mp hb with rfl|hb;·exact kr cN
    ·cases hb
  ·refine I.kept (t':=tk) fun b o e=>hk b o (fun hm=>?_) (aj _ e);rcases List.mem_cons.mp hm with e1|hm;·exact absurd (e1▸Heap.lt_size e) (fy _)
   ·cases hm
theorem nX {K:aa}{d:D}{P:List Nat->List D->Prop}(ok:aS K st H)(r:Rep K H d v)(h:eR d st P):∃ a vs as ds,v=.ref a/\UQ K H a vs/\aJ K H ds vs/\P as ds:=by
 unfold eR at h;split at h;·obtain⟨a,vs,rfl,f,g⟩:=r.cA;exact⟨a,vs,_,_,rfl,.inr f,g,h⟩
 ·cases r.cQ;obtain⟨ds,e,h⟩:=dQ h;obtain⟨vs,g1,g2⟩:=ok.lst e;exact⟨_,vs,_,ds,rfl,.inl (dA.of g1),g2,h⟩
 ·obtain⟨a,vs,rfl,f,g⟩:=r.mJ;exact⟨a,vs,_,_,rfl,.inl f.sq,g,h⟩
 ·exact h.elim
theorem DU {K:aa}:∀{ds:List D}{vs:List V}{aD:List ae}{bs:List Bool},boolsOf ds=some bs->aJ K H ds vs->aR vs aD->aD=bs.map sy|_,_,_,_,h,.nil,.nil=>by cases h;rfl|d::ds,_,_,bs,h,.cons r1 r2,.cons v1 v2=>by cases d with|bl b =>simp only[boolsOf,di]at h;obtain⟨bs',e,rfl⟩:=h;cases r1.fU;cases v1;rw[DU e r2 v2];rfl|_=>simp [boolsOf]at h
theorem all_range (bs:List Bool):(ay bs.length).all (fun i=>(bs[i]?).getD true)=bs.all id:=by induction bs with|nil=>rfl|cons b bs ih =>simp only[bf,iu,ny,p8,mq,fh,gV,lh,id];rw[<-ih]
theorem any_range (bs:List Bool):(ay bs.length).any (fun i=>(bs[i]?).getD true)=bs.any id:=by induction bs with|nil=>rfl|cons b bs ih =>simp only[bf,iu,kx,ku,mq,fh,gV,lh,id];rw[<-ih]
theorem C8 {prog:b7}{w:c9}{A:cp}(bs:List Bool):TruthOf prog w A (fun i v=>(bs.map sy)[i]? = some v) (fun i=>(bs[i]?).getD true):=fun i v s Q E hP hQ=>by have hP:(bs.map sy)[i]? = some v:=hP;rw[bg,di]at hP;obtain⟨b,e,rfl⟩:=hP;simp only[e,lh]at hQ;exact mi hQ
theorem iG (hh:X.A.handled=none):zD X (.builtin "all") (iU .all):=by intro pz s σ H st ds vs us R I ok r rv q;match ds,q with|[d],q =>have q:iU .all [d] st R:=q;rw[X0]at q;obtain⟨v,rfl,rd⟩:=r.one;obtain⟨u,rfl,ru⟩:=vals1 rv;obtain⟨a,ws,as,xs,rfl,sa,g,q⟩:=nX ok rd q;cases ru;obtain⟨bs,e,q⟩:=fE q;refine call_all_walk (DY (A:=X.A.in1) hh I sa fun aD I0 fp wr St ce rr W h0 hfp hk=>?_);cases DU e g rr;refine⟨I0,fp,wr,_,_,St,_,rfl,W,h0,C8 bs,fun h' tk hk'=>⟨.bl _,H,hk h' tk hk',rfl,?_⟩⟩;rw[ab,all_range];exact .here ok (.bl _) q|[],q=>exact(show False from q).elim|_::_::_,q=>exact(show False from q).elim
theorem BA (hh:X.A.handled=none):zD X (.builtin "any") (iU .any):=by intro pz s σ H st ds vs us R I ok r rv q;match ds,q with|[d],q =>have q:iU .any [d] st R:=q;rw[VP]at q;obtain⟨v,rfl,rd⟩:=r.one;obtain⟨u,rfl,ru⟩:=vals1 rv;obtain⟨a,ws,as,xs,rfl,sa,g,q⟩:=nX ok rd q;cases ru;obtain⟨bs,e,q⟩:=fE q;refine call_any_walk (DY (A:=X.A.in1) hh I sa fun aD I0 fp wr St ce rr W h0 hfp hk=>?_);cases DU e g rr;refine⟨I0,fp,wr,_,_,St,_,rfl,W,h0,C8 bs,fun h' tk hk'=>⟨.bl _,H,hk h' tk hk',rfl,?_⟩⟩;rw[ab,any_range];exact .here ok (.bl _) q|[],q=>exact(show False from q).elim|_::_::_,q=>exact(show False from q).elim
theorem FG:zD X (.type "list") (iU .list):=by intro pz s σ H st ds vs us R I ok r rv q;match ds,q with|[d],q =>have q:iU .list [d] st R:=q;rw[QI]at q;obtain⟨v,rfl,rd⟩:=r.one;obtain⟨a,ws,as,xs,rfl,sa,g,q⟩:=nX ok rd q;exact NZ pz s σ H _ us _ I rv ⟨a,ws,rfl,sa,fun l hl=>.iK ok g hl q.2⟩|[],q=>exact(show False from q).elim|_::_::_,q=>exact(show False from q).elim
theorem gK:zD X (.type "tuple") (iU .tuple):=by intro pz s σ H st ds vs us R I ok r rv q;match ds,q with
 |[d],q =>
 have q:iU .tuple [d] st R:=q;rw[MS]at q;obtain⟨v,rfl,rd⟩:=r.one;obtain⟨a,ws,as,xs,rfl,sa,g,q⟩:=nX ok rd q;rcases sa with sa|sa;·exact yZ pz s σ H _ us _ I rv ⟨a,ws,rfl,.inl ⟨sa,fun l hl=>.MF ok g hl q.2⟩⟩
 ·exact yZ pz s σ H _ us _ I rv ⟨a,ws,rfl,.inr ⟨sa,.here ok (.tup sa g) q.2⟩⟩|[],q=>exact(show False from q).elim|_::_::_,q=>exact(show False from q).elim
theorem P7 {K:aa}:∀{ds:List D}{vs:List V}{aD:List ae}{is:List Int},intsOf ds=some is->aJ K H ds vs->aR vs aD->wm aD is|_,_,_,_,h,.nil,.nil=>by cases h;exact .nil|d::ds,_,_,bs,h,.cons r1 r2,.cons v1 v2=>by cases d with|int i =>simp only[intsOf,di]at h;obtain⟨bs',e,rfl⟩:=h;cases r1.int_inv;obtain⟨t,rfl⟩:=v1;exact .cons _ _ (P7 e r2 v2)|_=>simp [intsOf]at h
noncomputable def MC (is:List Int)(i:Nat):Int:=(is[i]?).getD 0
theorem WR:∀{aD:List ae}{is:List Int},wm aD is->∀(i:Nat)(v:ae),aD[i]? = some v->∃ t,v=.int (MC is i) t|_,_,.nil,i,v,e=>by simp at e|_,_,.cons n t r,0,v,e=>by simp at e;exact⟨t,e.symm⟩|_,_,.cons n t r,i+1,v,e=>by obtain⟨t',e'⟩:=WR r i v (by simpa using e);exact⟨t',by simpa [MC]using e'⟩
theorem P4:∀{aD:List ae}{is:List Int},wm aD is->aD.length=is.length|_,_,.nil=>rfl|_,_,.cons _ _ r=>by simp [P4 r]
theorem take_snoc {r:List Int}(h:k<r.length):r.take (k+1)=r.take k++[r[k]]:=by rw[List.take_succ_eq_append_getElem h]
theorem GI (is:List Int):∀ n,n<=is.length->preSum (MC is) n=(is.take n).sum|0,_=>rfl|n+1,h=>by rw[take_snoc (by omega),List.sum_append,<-GI is n (by omega)];simp [preSum,MC,ai (show n<is.length by omega)]
theorem UW (hh:X.A.handled=none):zD X (.builtin "sum") (iU .sum):=by intro pz s σ H st ds vs us R I ok r rv q;match ds,q with|[d],q =>have q:iU .sum [d] st R:=q;rw[US]at q;obtain⟨v,rfl,rd⟩:=r.one;obtain⟨u,rfl,ru⟩:=vals1 rv;obtain⟨a,ws,as,xs,rfl,sa,g,q⟩:=nX ok rd q;cases ru;obtain⟨is,e,q⟩:=fE q;refine call_sum_walkG (DY (A:=X.A.in1) hh I sa fun aD I0 fp wr St ce rr W h0 hfp hk=>?_);have ia:=P7 e g rr;have hl:=P4 ia;refine⟨I0,fp,wr,_,_,St,MC is,rfl,W,h0,hfp,fun j v e=>WR ia j v e,fun h' tk t' hk'=>?_⟩;refine⟨.int _,H,hk h' tk hk',⟨t',rfl⟩,?_⟩;rw[hl,GI is is.length (aw _),Zd];exact .here ok (.int _) q|[],q=>exact(show False from q).elim|_::_::_,q=>exact(show False from q).elim
theorem Xq {K:aa}{a:Addr}(h:H a=some (.lst vs)):XB K "list" (.ref a) H:=.inl ⟨rfl,vs,dA.of h⟩
theorem CT (l:Addr)(items:Array ae)(n:Nat)(b:Addr)(items2:Array ae)(n2:Nat)(dd:Option Addr)(sl:Array (Option ae))(hs0:¬(!items.isEmpty&&eu (items.size+items2.size))=true)(hs1:items.size<=sizeLine)(hs2:items.size+items2.size<=sizeLine+1):Meets (Builtin.«list.extend» ⟨[.ref l,.ref b],[]⟩) (fun _ R s=>s.heap.get? l=some { cls:=.type "list", dict:=none,data:=.seq items n,slots:=#[] }/\s.heap.get? b=some { cls:=.type "tuple", dict:=dd,data:=.seq items2 n2,slots:=sl }/\R (.ok (.ret j0)) { s with heap:=s.heap.update l (kc fun x=>x++items2),toks:=s.toks }) :=.of_wp fun prog w A R s h=>by
 obtain⟨hp,g,d,tk,os⟩:=s;obtain⟨hl,hb,h⟩:=h;have f1:=AutoSeq1.idx_int;have f2:=AutoSeq1.sub_tuple_tuple;have f3:=AutoSeq1.sub_list_list;have f4:=AutoSeq1.sub_tuple_list;have f5:=AutoSeq1.sub_list_tuple;have hz':(items++items2).size<=sizeLine+1:=by rw[Array.size_append];exact hs2
 wp_walk using(rg hl rfl (hz:=hs1) (_hz':=hz')),va hl,va hb;exact⟨_,rfl,h⟩
def ZC (K:aa):V->List V->Hp->L2.VK->Prop:=fun x vs H Q=>∃ l b xs zs,x=.ref l/\vs=[.ref b]/\H l=some (.lst xs)/\eU K H b zs/\xs.length+zs.length<=sizeLine/\Q .non (upd H l (.lst (xs++zs)))
theorem S4:Aw X "list.extend" (ZC X.K):=by
 intro pz s σ H x vs v us Q I rx rv h;obtain⟨l,b,xs,zs,rfl,rfl,hH,hB,hz,q⟩:=h;cases rx;obtain⟨u,rfl,ru⟩:=rv.one;cases ru;obtain⟨z,aD,n,r,hl,e⟩:=I.xF hH;obtain⟨pF,r2,p2,_⟩:=I.tuple hB;have hl2:=r2.length;obtain⟨⟨cls,dd,data,sl⟩,ho,hc,n2,hd⟩:=id p2;simp only at hc hd;subst hc hd;have iS:aD.toArray.size+pF.toArray.size<=sizeLine:=by rw[be,be];omega
 have hlong:¬(!aD.toArray.isEmpty&&eu (aD.toArray.size+pF.toArray.size))=true:=by rw[D4 iS,cx];exact fv
 refine oj zj ⟨_,e,rfl⟩ yn (xr _ _) (CT l aD.toArray n b pF.toArray n2 dd sl hlong (by rw[be];omega) (by omega)) ⟨e,ho,?_⟩;refine⟨.non,_,I.TN (mM:=aD++pF) hH e (by simp) (r.append r2) ?_,rfl,q⟩;rw[bq];omega
def MI (X:Cx)(T id:String)(W:D->List D->aB->VK->Prop):Prop :=∀(pz:List (Addr×Obj))(s:ag)(σ:L2.St)(H:Hp)(st:aB)(d:D)(ds:List D)(v:V)(vs:List V)(u:ae)(us:List ae)(R:VK),Inv X pz σ H s->aS X.K st H->Rep X.K H d v->RelV v u->aJ X.K H ds vs->aR vs us->W d ds st R ->wpAny (model X.prog X.w) X.A (call (.builtin id) (u::us)) (EP X pz σ (QD X.K H st R)) X.xe s
inductive Ml (K:aa)(W:D->List D->aB->VK->Prop)(v:V)(vs:List V)(H:Hp)(Q:L2.VK):Prop where |mk (d:D)(ds:List D)(st:aB)(R:VK)(r:Rep K H d v)(rs:aJ K H ds vs)(ok:aS K st H)(q:W d ds st R)(hq:∀ v H',QD K H st R v H'->Q v H'):Ml K W v vs H Q
theorem MI.mt {T id:String}{W:D->List D->aB->VK->Prop}(h:MI X T id W):Aw X id (Ml X.K W):=fun pz s σ H v vs u us Q I rv rvs ⟨d,ds,st,R,r,rs,ok,q,hq⟩ =>bF (h pz s σ H st d ds v vs u us R I ok r rv rs rvs q) fun u s' ⟨v,H',I',r',z⟩=>⟨v,H',I',r',hq _ _ z⟩
theorem UZ:MI X "list" "list.append" (lK .append):=by
 intro pz s σ H st d ds v vs u us R I ok r rv rs rvs q;cases d<;>first|exact(show False from q).elim|skip
 match ds,q with|[d],q =>cases r.cQ;obtain⟨w,rfl,rd⟩:=rs.one;obtain⟨xs,e,q⟩:=dQ (st:=st) q;obtain⟨ys,g1,g2⟩:=ok.lst e;exact L2.uA pz s σ H _ _ u us _ I rv rvs ⟨_,ys,w,rfl,rfl,g1,by rw[gA,<-g2.length];exact q.1,.set ok e (g2.append (.cons rd .nil)) .non q.2⟩|[],q=>exact(show False from q).elim|_::_::_,q=>exact(show False from q).elim
theorem WC:MI X "list" "list.extend" (lK .extend):=by
 intro pz s σ H st d ds v vs u us R I ok r rv rs rvs q;cases d<;>first|exact(show False from q).elim|skip
 match ds,q with
 |[d],q =>
 cases r.cQ;obtain⟨w,rfl,rd⟩:=rs.one;obtain⟨xs,e,q⟩:=dQ (st:=st) q;obtain⟨ys,g1,g2⟩:=ok.lst e;have q:AQ d st fun zs=>xs.length+zs.length<=bE/\R .non (put st _ (.lst (xs++zs))):=q;cases d<;>first|exact(show False from q).elim|skip
 ·obtain⟨b,ws,rfl,f,g⟩:=rd.cA;exact S4 pz s σ H _ _ u us _ I rv rvs ⟨_,b,ys,ws,rfl,rfl,g1,f,by rw[gA,<-g2.length,<-g.length];exact q.1,.set ok e (g2.append g) .non q.2⟩
 ·cases rd.cQ;obtain⟨zs,e2,q⟩:=dQ (st:=st) q;obtain⟨ws,k1,k2⟩:=ok.lst e2;exact L2.zQ pz s σ H _ _ u us _ I rv rvs ⟨_,_,ys,ws,rfl,rfl,g1,k1,by rw[gA,<-g2.length,<-k2.length];exact q.1,.set ok e (g2.append k2) .non q.2⟩|[],q=>exact(show False from q).elim|_::_::_,q=>exact(show False from q).elim
theorem Lv:MI X "list" "list.pop" (lK .pop):=by
 intro pz s σ H st d ds v vs u us R I ok r rv rs rvs q;cases d<;>first|exact(show False from q).elim|skip
 match ds,q with|[],q =>cases r.cQ;cases rs;obtain⟨xs,e,q⟩:=dQ (st:=st) q;obtain⟨ys,g1,g2⟩:=ok.lst e;obtain⟨d,e2,q⟩:=fE q;obtain⟨w,k1,k2⟩:=g2.get e2;exact L2.LK pz s σ H _ _ u us _ I rv rvs ⟨_,ys,w,rfl,rfl,g1,by rw[<-g2.length];exact k1,.set ok e g2.dropLast k2 q⟩|_::_,q=>exact(show False from q).elim
theorem UL {K:aa}{d:D}(hm:m≠.index)(ok:aS K st H)(r:Rep K H d v)(h:AZ m d st):XB K "list" v H:=by
 unfold AZ at h;split at h;all_goals first|(exact h.elim;done)|(exact absurd rfl hm;done)|skip
 all_goals cases r.cQ;obtain⟨ds,e,_⟩:=dQ h;obtain⟨vs,g,_⟩:=ok.lst e;exact Xq g
end
variable {C:bG}{b e o:Expr}{x y:Ex}{apos p:Pos}{es:List Expr}{xs:List Ex}{n:Str}
section
variable {sub:Nat->Nat->Bool}{a c:Expr}{z:Ex}{pos lI:Pos}
theorem XI {name:Str}{id:String}(hmi:m≠.index)(slot:Slot "list" name id)(hty:typeOf (.builtin id)=pure (.type "method_descriptor"))(hm:MI X "list" id (lK m))(ho:PE X o (cF X.K (aG C sub E x)))(ha:PA X (e::es) (kU X.K (bM C sub E xs)))(kY:gu o name X.env (eval o X.env)=eval o X.env)(vN:((eh lI (aq (e::es) X.env)).all (fun x=>!x.1)&&(pj lI (km [] X.env)).all (fun x=>x.1.isSome)&&decide ((e::es).length+([]:List sh).length+(if([]:List sh).isEmpty then 0 else 1)<30))=true)(kZ:(apos.endLine==lI.line)=true)(hs:aq (e::es) X.env=(false,eval e X.env)::aq es X.env)(tQ:(eh lI (aq es X.env)).any (·.1)=false):PE X (.Call (.Attribute o name apos) (e::es) [] lI) (cF X.K (aG C sub E (.cM m x xs))) :=(Th ox slot hty hm.mt ho ha kY vN kZ hs tQ).imp fun σ H Q ⟨ap,st,R,r,ok,q,hq⟩=>by refine⟨ap,st,_,r,ok,q,fun v H1 ⟨d,aC,s1,aO,r1,q1⟩=>⟨UL hmi aO r1 q1.1,?_⟩⟩;refine⟨ap,aC,_,r.step ok s1,aO,q1.2,fun vs H2 ⟨ds,aF,s2,bZ,r2,q2⟩=>?_⟩;exact⟨d,ds,aF,R,r1.step aO s2,r2,bZ,q2,fun v H' z=>hq _ _ (.after (s1.trans s2) z)⟩
theorem Gn {name:Str}{id:String}(hmi:m≠.index)(slot:Slot "list" name id)(hty:typeOf (.builtin id)=pure (.type "method_descriptor"))(hm:MI X "list" id (lK m))(ho:PE X o (cF X.K (aG C sub E x)))(kY:gu o name X.env (eval o X.env)=eval o X.env)(kZ:(apos.endLine==lI.line)=true):PE X (.Call (.Attribute o name apos) [] [] lI) (cF X.K (aG C sub E (.cM m x []))) :=(Lk ox slot hty hm.mt ho kY kZ).imp fun σ H Q ⟨ap,st,R,r,ok,q,hq⟩=>by refine⟨ap,st,_,r,ok,q,fun v H1 ⟨d,aC,s1,aO,r1,q1⟩=>⟨UL hmi aO r1 q1.1,?_⟩⟩;exact⟨d,[],aC,R,r1,.nil,aO,q1.2,fun v H' z=>hq _ _ (.after s1 z)⟩
inductive fZ (K:aa)(C:bG)(f:Nat)(vs:List V)(H:Hp)(Q:L2.VK)(E:L2.XK):Prop where |mk (ds:List D)(st:aB)(R:VK)(r:aJ K H ds vs)(ok:aS K st H)(q:C f ds st R (fun _ _=>False))(hq:∀ v H',QD K H st R v H'->Q v H'):fZ K C f vs H Q E
theorem Ic {CX:CY}{f:Addr}{fid:Nat}{fd:h9}{ps:List Str}(F:fP X.prog X.w X.K X.mg X.base CX k f fd ps (fZ X.K C fid))(hr:dM k X.A)(hg:Gl X n)(hm:X.mg n=some (.ref f))(hk:fx X.K (.ref f)=true)(hb:Binds X.K fd ps [])(hx:qL CX X E0)(ha:PA X (e::es) (kU X.K (bM C sub (fun _ _=>False) xs)))(hdb:(n==("__debug__" : Str))=false)(he:aq (e::es) X.env=(false,eval e X.env)::aq es X.env)(dO:(eh pos (aq es X.env)).any (·.1)=false):PE X (.Call (.Name n p) (e::es) [] pos) (cF X.K (aG C sub (fun _ _=>False) (.call fid xs))) :=(Fz F hr hg hm hk hb .nil hx ha hdb he dO).imp fun σ H Q ⟨ap,st,R,r,ok,q,hq⟩=>by refine⟨ap,st,_,r,ok,q,fun vs H1 ⟨ds,aC,s1,aO,r1,q1⟩=>?_⟩;show fZ X.K C fid (vs++[]) H1 Q E0;rw[d5];exact⟨ds,aC,R,r1,aO,q1,fun v H' z=>hq _ _ (.after s1 z)⟩
end
noncomputable abbrev EF:XK:=fun _ _=>False
structure E3 (K:aa)(H:Hp)(st:aB)(P:gN)(D:Ends):Prop where
 nx:∀ bn H' eT aA,dY K H' eT bn->Step H st H' aA->aS K aA H'->P.nx eT aA->D.nx bn H'
 rt:∀ v H',QD K H st P.rt v H'->D.rt v H'
 bk:∀ bn H' eT aA,dY K H' eT bn->Step H st H' aA->aS K aA H'->P.bk eT aA->D.bk bn H'
 ct:∀ bn H' eT aA,dY K H' eT bn->Step H st H' aA->aS K aA H'->P.ct eT aA->D.ct bn H'
 ex:∀ c ap st,¬P.ex c ap st
variable {H1:Hp}{aC:aB}
theorem E3.after {K:aa}{D:Ends}(h:E3 K H st P D)(s:Step H st H1 aC):E3 K H1 aC P D :=⟨fun bn H' eT aA r t ok q=>h.nx bn H' eT aA r (s.trans t) ok q,fun v H' z=>h.rt v H' (.after s z),fun bn H' eT aA r t ok q=>h.bk bn H' eT aA r (s.trans t) ok q,fun bn H' eT aA r t ok q=>h.ct bn H' eT aA r (s.trans t) ok q,h.ex⟩
inductive iX (K:aa)(ts:gN->St->aB->Prop)(D:Ends)(σ:L2.St)(H:Hp):Prop where |mk (ap:St)(st:aB)(P:gN)(r:dY K H ap σ)(ok:aS K st H)(q:ts P ap st)(h:E3 K H st P D):iX K ts D σ H
variable {ss as:List Stmt}{ap:St}{ax bx:List Sx}{t:Ty}{i:Nat}{tg:Expr}
section
variable {sub:Nat->Nat->Bool}{a c:Expr}{z:Ex}{pos:Pos}{s:Stmt}{xs:List Sx}{sx:Sx}
theorem Rr:mG X [] (iX X.K (dD C sub [])) :=Co.imp fun D σ H ⟨ap,st,P,r,ok,q,h⟩=>by exact h.nx _ _ _ _ r .refl ok q
theorem Hu (h1:PS X s (iX X.K (wpS C sub sx)))(h2:mG X ss (iX X.K (dD C sub xs))):mG X (s::ss) (iX X.K (dD C sub (sx::xs))) :=(YY h1 h2).imp fun D σ H ⟨ap,st,P,r,ok,q,h⟩=>by exact⟨ap,st,_,r,ok,q,⟨fun bn H' eT aA r' s' fX q'=>⟨eT,aA,P,r',fX,q',h.after s'⟩,h.rt,h.bk,h.ct,h.ex⟩⟩
theorem tE {Q:VK}(hC:bU C C)(he:∀ c ap st,¬P.ex c ap st)(q:aG C sub (fun c aA=>P.ex c ap aA) x ap st Q):aG C sub EF x ap st Q :=bC hC (fun c st z=>he _ _ _ z) x (fun _ _ z=>z) q
theorem Qo {xs:List Ex}{Q:List D->aB->Prop}(hC:bU C C)(he:∀ c ap st,¬P.ex c ap st)(q:bM C sub (fun c aA=>P.ex c ap aA) xs ap st Q):bM C sub EF xs ap st Q :=dF hC (fun c st z=>he _ _ _ z) xs (fun _ _ z=>z) q
theorem Ow (hC:bU C C)(h:PE X e (cF X.K (aG C sub EF x))):PS X (.Return (some e) pos) (iX X.K (wpS C sub (.ret x))) :=(Mt h).imp fun D σ H ⟨ap,st,P,r,ok,q,h⟩=>by exact⟨ap,st,_,r,ok,tE hC h.ex q,h.rt⟩
theorem Lm:PS X (.Return none pos) (iX X.K (wpS C sub (.ret (.c .non)))) :=Cq.imp fun D σ H ⟨ap,st,P,r,ok,q,h⟩=>by exact h.rt _ _ (.here ok .non q)
theorem Vn (hC:bU C C)(h:PE X e (cF X.K (aG C sub EF x)))(hs:my e none pos.line X.env=pure false):PS X (.Expr e pos) (iX X.K (wpS C sub (.ex x))) :=(Ea h hs).imp fun D σ H ⟨ap,st,P,r,ok,q,h⟩=>by exact⟨ap,st,_,r,ok,tE hC h.ex q,fun v H' ⟨d,aA,s',fX,_,q'⟩=>h.nx _ _ _ _ (r.step ok s') s' fX q'⟩
theorem Ve {bs:List Stmt}(hC:bU C C)(hc:PT X c (kW X.K (aG C sub EF x)))(ha:mG X as (iX X.K (dD C sub ax)))(hb:mG X bs (iX X.K (dD C sub bx))):PS X (.If c as bs pos) (iX X.K (wpS C sub (.iff x ax bx))) :=(Ri hc ha hb).imp fun D σ H ⟨ap,st,P,r,ok,q,h⟩=>by refine⟨ap,st,fun k aA=>if k=true then dD C sub ax P ap aA else dD C sub bx P ap aA,r,ok,tE hC h.ex q,fun k H' ⟨aA,s',fX,q'⟩=>?_⟩;cases k with|true=>exact⟨ap,aA,P,r.step ok s',fX,q',h.after s'⟩|false=>exact⟨ap,aA,P,r.step ok s',fX,q',h.after s'⟩
theorem Ib {cl:Nat}{es:List Ex}(hC:bU C C)(hn:∀ ap st,¬bM C sub EF es ap st fun _ _=>False):PS X s (iX X.K (wpS C sub (.rais cl es))) :=YI.imp fun D σ H ⟨ap,st,P,r,ok,q,h⟩=>by exact hn ap st (dF hC (fun c st z=>(h.ex _ _ _ z).elim) es (fun _ _ z=>(h.ex _ _ _ z).elim) q)
inductive OV (K:aa)(g:D->St->aB->(St->aB->Prop)->Prop)(v:V)(σ:L2.St)(H:Hp)(Q:L2.St->Hp->Prop):Prop where |mk (d:D)(ap:St)(st:aB)(M:St->aB->Prop)(r:Rep K H d v)(sr:dY K H ap σ)(ok:aS K st H)(q:g d ap st M)(hq:∀ bn H' eT aA,dY K H' eT bn->Step H st H' aA->aS K aA H'->M eT aA->Q bn H'):OV K g v σ H Q
theorem _root_.L2.PG.imp {t t':TG}(i:∀ v σ H Q,t' v σ H Q->t v σ H Q)(h:PG X e t):PG X e t':=fun pz s σ H v u Q I r q=>h pz s σ H v u Q I r (i v σ H Q q)
theorem YB (h:PG X e (GB i)):PG X e (OV X.K (oF C sub E (.nm i))) :=h.imp fun v σ H Q ⟨d,ap,st,M,rd,r,ok,q,hq⟩=>by exact hq _ _ _ _ (r.set i rd) .refl ok q
theorem SD {t:Tg}(hC:bU C C)(he:PE X e (cF X.K (aG C sub EF x)))(hg:PG X tg (OV X.K (oF C sub EF t)))(hs:qm [tg] e pos.line X.env=pure false)(hw:qo [tg] e X.env=pure none)(h1:(fu [tg] X.env).map (·.2)=[nj tg X.env]):PS X (.Assign [tg] e pos) (iX X.K (wpS C sub (.asg t x))) :=(Jx he hg hs hw h1).imp fun D σ H ⟨ap,st,P,r,ok,q,h⟩=>by refine⟨ap,st,_,r,ok,tE hC h.ex q,fun v H' ⟨d,aA,s',fX,rd,q'⟩=>?_⟩;refine⟨d,ap,aA,P.nx,rd,r.step ok s',fX,yM hC (fun c st z=>h.ex _ _ _ z) (fun _ _ z=>z) t q',fun cr H2 uY aF r2 s2 bZ q2=>?_⟩;exact h.nx _ _ _ _ r2 (s'.trans s2) bZ q2
theorem Eb {bs:List Stmt}(hC:bU C C)(hp:sv (model X.prog X.w) X.A X.env X.xe)(hc:PT X c (kW X.K (aG C sub EF x)))(hb:mG X bs (iX X.K (dD C sub bx))):PS X (.While c bs [] pos) (iX X.K (wpS C sub (.whl x bx))) :=(YO hp hc hb).imp fun D σ H ⟨ap,st,P,r,ok,q,h⟩=>by obtain⟨n,q⟩:=q;refine⟨fun m bn H'=>∃ eT aA,dY X.K H' eT bn/\Step H st H' aA/\aS X.K aA H'/\qH _ m eT aA,⟨n,ap,st,r,.refl,ok,q⟩,fun m ga H1 ⟨pi,aC,r1,s1,aO,q1⟩=>?_⟩;cases m with|zero=>exact q1.elim|succ m =>simp only[qH]at q1;refine⟨pi,aC,fun k aA=>if k=true then dD C sub bx _ pi aA else P.nx pi aA,r1,aO,tE hC h.ex q1,fun k H2 ⟨aF,s2,bZ,q2⟩=>?_⟩;cases k with|false=>exact h.nx _ _ _ _ (r1.step aO s2) (s1.trans s2) bZ q2|true =>refine⟨fun bn H'=>∃ eT aA,dY X.K H' eT bn/\Step H st H' aA/\aS X.K aA H'/\qH _ m eT aA,fun bn H' z=>⟨m,gz _,z⟩,?_⟩;refine⟨pi,aF,_,r1.step aO s2,bZ,q2,⟨fun bn H' eT aA r' s' fX q'=>⟨eT,aA,r',(s1.trans s2).trans s',fX,q'⟩,fun v H' z=>h.rt _ _ (.after (s1.trans s2) z),fun bn H' eT aA r' s' fX q'=>h.nx _ _ _ _ r' ((s1.trans s2).trans s') fX q',fun bn H' eT aA r' s' fX q'=>⟨eT,aA,r',(s1.trans s2).trans s',fX,q'⟩,h.ex⟩⟩
end
noncomputable def Bl (x:Str):It:=⟨fun i _=>i<x.cps.size,fun i H v H'=>H'=H/\∃ c,x.cps[i]? = some c/\v=.str ⟨#[c]⟩,fun i _=>x.cps.size<=i⟩
variable {P:b7}
theorem OX {w:c9}{K:aa}(it:Addr)(x:Str)(t:Tok)(ty:String)(hty:["enumerate","zip","dict_itemiterator","dict_reverseitemiterator","odict_iterator","itertools.zip_longest","itertools.pairwise"].contains ty=false)(W:∀ A:cp,A.handled=none->Walks P w A it [it] [it] x.cps.size (SignAt x) (fun i h=>h.IsStrIter it ty x t i))(hd:∀(A:cp)(i:Nat)(s:ag)(Q:Option ae->ag->Prop)(E:ae->ag->Prop),A.handled=none->s.heap.IsStrIter it ty x t i->x.cps.size<=i->(∀ h',(∀ b o,b≠it->s.heap.get? b=some o->h'.get? b=some o)->Q none { s with heap:=h' })->wpAny (model P w) A (v8 (.ref it)) Q E s)(hself:∀(A:cp)(i:Nat)(s:ag)(Q:ae->ag->Prop)(E:ae->ag->Prop),s.heap.IsStrIter it ty x t i->Q (.ref it) s->wpAny (model P w) A (xm (.ref it)) Q E s):Turn P w K tg (Bl x) [it] it (fun i h=>h.IsStrIter it ty x t i) where
 mem:=by simp
 obj:=fun i h st b hb=>by
  have e:b=it:=by simpa using hb
  subst e;obtain⟨o,e,c,d⟩:=st;exact⟨o,e,fun v z=>by rw[d]at z;cases z⟩
 keep:=fun i h h' st k=>let⟨o,e,r⟩:=st;⟨o,k it (by simp) o e,r⟩;item:=by intro X hP hw hK hc i pz s σ H E I hf st hg;subst hP hw hK;obtain⟨f0,f1,f2,f3,f4,f5⟩:=hf it (by simp);refine(W X.A (I.ok.hd hc)).item i s _ _ hg st fun v h' tk hv aA kk=>?_;obtain⟨c,u,hc',rfl⟩:=hv;have I1:Inv X pz σ H { s with heap:=h',toks:=tk }:=I.turned (fun b o hb e=>kk b o (by simpa using hb) e) f0 f1 f3 f4 f5;obtain⟨o,e,c1,d⟩:=id aA;exact⟨_,rfl,LD (s:={ s with heap:=h',toks:=tk }) e c1 d hty ⟨.str ⟨#[c]⟩,H,I1,⟨u,rfl⟩,⟨rfl,c,hc',rfl⟩,aA,fun b hb=>(hf b hb).1⟩⟩
 done:=by intro X hP hw hK hc i pz s σ H E I hf st hg;subst hP hw hK;obtain⟨f0,f1,f2,f3,f4,f5⟩:=hf it (by simp);exact hd X.A i s _ _ (I.ok.hd hc) st hg fun h' eb=>⟨rfl,I.turned (t':=s.toks) (fun b o hb e=>eb b o hb e) f0 f1 f3 f4 f5⟩
 self:=fun A i s Q E st h=>hself A i s Q E st h
structure zM (K:aa)(J:It)(as:List Nat)(xs:List D)(H1:Hp)(aC:aB):Prop where
 go:∀ i H st d,Step H1 aC H st->aS K st H->same as aC st->xs[i]? = some d->J.go i H
 yld:∀ i H st d x H',Step H1 aC H st->aS K st H->same as aC st->xs[i]? = some d->J.yld i H x H'->Step H st H' st/\aS K st H'/\Rep K H' d x
 stop:∀ i H st,Step H1 aC H st->aS K st H->same as aC st->xs.length<=i->J.stop i H
inductive QJ (K:aa)(H:Hp)(st:aB)(M:List Nat->List D->aB->Prop)(J:It)(H1:Hp):Prop where |mk (as:List Nat)(xs:List D)(aC:aB)(s:Step H st H1 aC)(ok:aS K aC H1)(j:zM K J as xs H1 aC)(q:M as xs aC):QJ K H st M J H1
inductive xO (K:aa)(te:St->aB->(List Nat->List D->aB->Prop)->Prop)(σ:L2.St)(H:Hp)(R:It->Hp->Prop):Prop where |mk (ap:St)(st:aB)(M:List Nat->List D->aB->Prop)(r:dY K H ap σ)(ok:aS K st H)(q:te ap st M)(hq:∀ J H1,QJ K H st M J H1->R J H1):xO K te σ H R
section
variable {K:aa}{a:Addr}{xs:List D}
theorem Em (aO:aS K aC H1)(f:eU K H1 a vs)(g:aJ K H1 xs vs):zM K (Lj K a) [] xs H1 aC where
 go:=fun i H st d s ok _ e=>let⟨v,e1,_⟩:=g.get e;⟨vs,v,yN aO s f,e1⟩;yld:=fun i H st d x H' s ok _ e ⟨e',h⟩=>by subst e';obtain⟨v,e1,e2⟩:=g.get e;have:=h vs (yN aO s f);rw[e1]at this;cases this;exact⟨.refl,ok,e2.step aO s⟩
 stop:=fun i H st s ok _ l=>⟨vs,yN aO s f,by rw[<-g.length];exact l⟩
theorem Z9 (aO:aS K aC H1)(f:nR K H1 a vs)(g:aJ K H1 xs vs):zM K (Az K a) [] xs H1 aC where
 go:=fun i H st d s ok _ e=>let⟨v,e1,_⟩:=g.get e;⟨vs,v,(uI aO s f).sq,e1⟩;yld:=fun i H st d x H' s ok _ e ⟨e',h⟩=>by subst e';obtain⟨v,e1,e2⟩:=g.get e;have:=h vs (uI aO s f).sq;rw[e1]at this;cases this;exact⟨.refl,ok,e2.step aO s⟩
 stop:=fun i H st s ok _ l=>⟨vs,(uI aO s f).sq,by rw[<-g.length];exact l⟩
theorem Cm (aO:aS K aC H1)(e0:aC a=some (.lst xs)):zM K (Az K a) [a] xs H1 aC where
 go:=fun i H st d s ok sm e=>by have e':st a=some (.lst xs):=(sm a (by simp)).trans e0;obtain⟨us,g1,g2⟩:=ok.lst e';obtain⟨v,e1,_⟩:=g2.get e;exact⟨us,v,dA.of g1,e1⟩
 yld:=fun i H st d x H' s ok sm e ⟨e',h⟩=>by subst e';have e':st a=some (.lst xs):=(sm a (by simp)).trans e0;obtain⟨us,g1,g2⟩:=ok.lst e';obtain⟨v,e1,e2⟩:=g2.get e;have:=h us (dA.of g1);rw[e1]at this;cases this;exact⟨.refl,ok,e2⟩
 stop:=fun i H st s ok sm l=>by have e':st a=some (.lst xs):=(sm a (by simp)).trans e0;obtain⟨us,g1,g2⟩:=ok.lst e';exact⟨us,dA.of g1,by rw[<-g2.length];exact l⟩
theorem UP (lo:Int)(n:Nat):zM K (Bh lo n) [] (jE lo n) H1 aC where
 go:=fun i H st d s ok _ e=>by have:=(List.getElem?_eq_some_iff.mp e).1;show i<n;simpa [jE]using this
 yld:=fun i H st d x H' s ok _ e ⟨e',h⟩=>by
  subst e' h;simp only[jE,bg,di]at e;obtain⟨k,e1,rfl⟩:=e;have:k=i:=by rw[ue]at e1;obtain⟨_,e2⟩:=e1;simp at e2;exact e2.symm
  subst this;exact⟨.refl,ok,.int _⟩
 stop:=fun i H st s ok _ l=>by show n<=i;simpa [jE]using l
theorem RM (x:List Nat):zM K (Bl ⟨x.toArray⟩) [] (x.map fun c=>.str [c]) H1 aC where
 go:=fun i H st d s ok _ e=>by have:=(List.getElem?_eq_some_iff.mp e).1;show i<(⟨x.toArray⟩:Str).cps.size;simpa using this
 yld:=fun i H st d v H' s ok _ e ⟨e',c,ec,ev⟩=>by
  subst e' ev;simp only[bg,di]at e;obtain⟨c',e1,rfl⟩:=e;have:c=c':=by have ec:x.toArray[i]? = some c:=ec;simp at ec;rw[ec]at e1;exact c7 e1
  subst this;exact⟨.refl,ok,.str [c]⟩
 stop:=fun i H st s ok _ l=>by show(⟨x.toArray⟩:Str).cps.size<=i;simpa using l
end
variable {aD:List Ex}{iter:Expr}
section
variable {sub:Nat->Nat->Bool}{a c:Expr}{z:Ex}{pos:Pos}
theorem _root_.L2.PI.imp {t t':TI}(i:∀ σ H Q,t' σ H Q->t σ H Q)(h:PI X tg e t):PI X tg e t':=fun pz s σ H Q I q=>h pz s σ H Q I (i σ H Q q)
theorem Kr (h:PE X e (cF X.K (aG C sub E x))):PI X tg e (xO X.K fun σ st M=>bM C sub E [x] σ st fun ds aC=>gZ none ds aC fun as xs=>M as xs aC):=by
 intro pz s σ H R I ⟨ap,st,M,r,ok,q,hq⟩;refine bF (h pz s σ H _ I ⟨ap,st,_,r,ok,q,fun v H' z=>z⟩) fun u s1 ⟨v,H1,I1,rv,d,aC,dH,aO,r1,q1⟩=>?_;have fresh:∀{b:Addr},b∈[s1.heap.objs.size]->mS X pz H1 b:=fun{b} hb=>by
  have e:b=s1.heap.objs.size:=by simpa using hb
  subst e;exact I1.HE (aw _) (I1.bO.fresh (aw _))
 have tup:∀(a:Addr)(vs:List V)(as:List Nat)(xs:List D),v=.ref a->eU X.K H1 a vs->zM X.K (Lj X.K a) as xs H1 aC->M as xs aC->wpAny (model X.prog X.w) X.A (xm u) (Bj X pz σ tg R) X.xe s1:=by intro a vs as xs e f j q;subst e;cases rv;obtain⟨aD,rr,p,hz⟩:=I1.tuple f;exact ua (show s1.heap.IsTuple a aD.toArray from p) ⟨s1.heap.objs.size,[s1.heap.objs.size],_,_,H1,rfl,I1.kept (t':=s1.toks) fun b o e=>aj _ e,S5 a _,⟨_,br _ rfl,rfl,rfl⟩,fun b hb=>fresh hb,hq _ _ ⟨as,xs,aC,dH,aO,j,q⟩⟩
 have lst:∀(a:Addr)(vs:List V)(as:List Nat)(xs:List D),v=.ref a->dA X.K H1 a vs->zM X.K (Az X.K a) as xs H1 aC->M as xs aC->wpAny (model X.prog X.w) X.A (xm u) (Bj X pz σ tg R) X.xe s1:=by intro a vs as xs e f j q;subst e;cases rv;obtain⟨aD,rr,p,hz⟩:=I1.list f;exact Yp p.isList ⟨s1.heap.objs.size,[s1.heap.objs.size],_,_,H1,rfl,I1.kept (t':=s1.toks) fun b o e=>aj _ e,X7 a _,⟨_,br _ rfl,rfl,rfl⟩,fun b hb=>fresh hb,hq _ _ ⟨as,xs,aC,dH,aO,j,q⟩⟩
 have q1:pY d aC fun as xs=>M as xs aC:=q1;cases d with|tup ds =>obtain⟨a,vs,e,f,g⟩:=r1.cA;exact tup a vs _ _ e f (Em aO f g) q1|str z =>
  have q1:z.length<=bE/\M [] (z.map fun c=>.str [c]) aC:=q1;cases r1.str_inv;obtain⟨t,rfl⟩:=rv;cases ha:(⟨z.toArray⟩:Str).cps.all (·< 128);·exact wpAny_pyIter_wide ha ⟨s1.heap.objs.size,[s1.heap.objs.size],_,Bl ⟨z.toArray⟩,H1,rfl,I1.kept (t':=s1.toks) fun b o e=>aj _ e,OX s1.heap.objs.size ⟨z.toArray⟩ t "str_iterator" (by decide) (fun A hA=>Walks.strWide hA _ _ t) (fun A i s Q E hA hi hn hQ=>wpAny_pyNext_wide_end hA hi (by simpa using hn) fun h' he=>hQ h' he) (fun A i s Q E hi hQ=>wpAny_pyIter_striter_wide hi hQ),⟨_,br _ rfl,rfl,rfl⟩,fun b hb=>fresh hb,hq _ _ ⟨_,_,aC,dH,aO,RM z,q1.2⟩⟩
  ·exact wpAny_pyIter_ascii ha ⟨s1.heap.objs.size,[s1.heap.objs.size],_,Bl ⟨z.toArray⟩,H1,rfl,I1.kept (t':=s1.toks) fun b o e=>aj _ e,OX s1.heap.objs.size ⟨z.toArray⟩ t "str_ascii_iterator" (by decide) (fun A hA=>Walks.strAscii hA _ _ t) (fun A i s Q E hA hi hn hQ=>wpAny_pyNext_ascii_end hA hi (by simpa using hn) fun h' he=>hQ h' he) (fun A i s Q E hi hQ=>wpAny_pyIter_striter_ascii hi hQ),⟨_,br _ rfl,rfl,rfl⟩,fun b hb=>fresh hb,hq _ _ ⟨_,_,aC,dH,aO,RM z,q1.2⟩⟩|ref a =>cases r1.cQ;obtain⟨ds,e,q1⟩:=dQ (st:=aC) q1;obtain⟨vs,g1,g2⟩:=aO.lst e;exact lst _ vs _ _ rfl (dA.of g1) (Cm aO e) q1|bR ds =>obtain⟨a,vs,e,f,g⟩:=r1.mJ;exact lst a vs _ _ e f.sq (Z9 aO f g) q1|_=>exact(show False from q1).elim
theorem Cz (hC:bU C C)(hg:Gl X "range")(hm:X.mg "range" = none)(ha:PA X [a] (kU X.K (bM C sub E [x])))(hs:aq [a] X.env=[(false,eval a X.env)]):PI X tg (.Call (.Name "range" p) [a] [] pos) (xO X.K fun σ st M=>bM C sub E [x] σ st fun ds aC=>gZ (some .range) ds aC fun as xs=>M as xs aC) :=(UK hg hm ha hs).imp fun σ H R ⟨ap,st,M,r,ok,q,hq⟩=>by refine⟨ap,st,_,r,ok,pR [x] hC q,fun vs H1 ⟨ds,aC,s1,aO,r1,l1,q1⟩=>?_⟩;match ds,l1,q1 with|[d],_,q1 =>obtain⟨v,rfl,rd⟩:=r1.one;have q1:gZ (some .range) [d] aC fun as xs=>M as xs aC:=q1;cases d with|int j =>cases rd.int_inv;exact⟨j,rfl,q1.1.1,q1.1.2,hq _ _ ⟨_,_,aC,s1,aO,UP 0 _,q1.2⟩⟩|_=>exact(show False from q1).elim
theorem Bp {k:Option IK}{t:Tg}{bs:List Stmt}(hC:bU C C)(hp:sv (model X.prog X.w) X.A X.env X.xe)(hc:X.calm=true)(hi:PI X tg iter (xO X.K fun σ st M=>bM C sub EF aD σ st fun ds aC=>gZ k ds aC fun as xs=>M as xs aC))(hg:PG X tg (OV X.K (oF C sub EF t)))(hb:mG X bs (iX X.K (dD C sub bx)))(hs:∀ x,gq iter X.env x=pure x):PS X (.For tg iter bs [] pos) (iX X.K (wpS C sub (.jA t k aD bx))) :=(Kq hp hc hi hg hb hs).imp fun DD σ H ⟨ap,st,P,r,ok,q,h⟩=>by
 refine⟨ap,st,_,r,ok,Qo hC h.ex q,fun J H1 ⟨as,xs,aC,s1,aO,j,q1⟩=>?_⟩;refine⟨fun i m bn H'=>∃ eT aA,dY X.K H' eT bn/\Step H1 aC H' aA/\aS X.K aA H'/\m+i=xs.length/\BE (same as aC) (fun(x:L3.D) next σ st=>oF C sub (fun c aA=>P.ex c σ aA) t x σ st fun bn aA=>dD C sub bx { P with nx:=next,ct:=next,bk:=P.nx } bn aA) P.nx (xs.drop i) eT aA,⟨xs.length,ap,aC,r.step ok s1,.refl,aO,by omega,by simpa using q1⟩,fun i m cr H2 ⟨uY,aF,r2,s2,bZ,e2,q2⟩=>?_⟩;by_cases hi':i<xs.length;·have ed:xs.drop i=xs[i]::xs.drop (i+1):=cj hi';rw[ed]at q2;obtain⟨g2,q2⟩:=q2;refine .inr ⟨j.go i H2 aF xs[i] s2 bZ g2 (ai hi'),fun bn H'=>∃ eT aA,dY X.K H' eT bn/\Step H1 aC H' aA/\aS X.K aA H'/\BE (same as aC) (fun(x:L3.D) next σ st=>oF C sub (fun c aA=>P.ex c σ aA) t x σ st fun bn aA=>dD C sub bx { P with nx:=next,ct:=next,bk:=P.nx } bn aA) P.nx (xs.drop (i+1)) eT aA,fun bn H' ⟨eT,aA,r',s',fX,q'⟩=>⟨m-1,by omega,eT,aA,r',s',fX,by omega,q'⟩,fun v H3 y3=>?_⟩;obtain⟨s3,qZ,r3⟩:=j.yld i H2 aF xs[i] v H3 s2 bZ g2 (ai hi') y3;refine⟨xs[i],uY,aF,_,r3,r2.step bZ s3,qZ,yM hC (fun c st z=>h.ex _ _ _ z) (fun _ _ z=>z) t q2,fun AC H4 zn cG r4 s4 RQ q4=>?_⟩;refine⟨zn,cG,_,r4,RQ,q4,⟨fun bn H' eT aA r' s' fX q'=>⟨eT,aA,r',((s2.trans s3).trans s4).trans s',fX,q'⟩,fun v H' z=>h.rt _ _ (.after (((s1.trans s2).trans s3).trans s4) z),fun bn H' eT aA r' s' fX q'=>h.nx _ _ _ _ r' ((((s1.trans s2).trans s3).trans s4).trans s') fX q',fun bn H' eT aA r' s' fX q'=>⟨eT,aA,r',((s2.trans s3).trans s4).trans s',fX,q'⟩,h.ex⟩⟩
 ·have ed:xs.drop i=[]:=gj (by omega);rw[ed]at q2;exact .inl ⟨j.stop i H2 aF s2 bZ q2.1 (by omega),h.nx _ _ _ _ r2 (s1.trans s2) bZ q2.2⟩
end
variable {is:List Nat}
section
variable {sub:Nat->Nat->Bool}{a c i:Expr}{z:Ex}{pos:Pos}
noncomputable def mQ (is:List Nat)(vs:List V)(σ:L2.St):L2.St:=(is.zip vs).foldl (fun σ p=>σ.set p.1 (some p.2)) σ
noncomputable def wM (is:List Nat):KL:=fun vs σ H Q=>vs.length=is.length/\Q (mQ is vs σ) H
theorem Lc:FT X [] (wM []):=fun pz s σ H vs us Q I r h=>by have:vs=[]:=List.length_eq_zero_iff.mp h.1;subst this;exact Ff pz s σ H [] us Q I r ⟨rfl,h.2⟩
theorem Du {i:Nat}(h1:PG X e (GB i))(h2:FT X es (wM is))(hs:(fu (e::es) X.env).map (·.2)=nj e X.env::(fu es X.env).map (·.2)):FT X (e::es) (wM (i::is)):=fun pz s σ H vs us Q I r h=>by obtain⟨hl,h⟩:=h;cases vs with|nil=>simp at hl|cons v vs=>exact Ag h1 h2 hs pz s σ H (v::vs) us Q I r ⟨v,vs,rfl,by simpa using hl,h⟩
theorem dY.cK {K:aa}{H:Hp}:∀(is:List Nat){ds:List D}{vs:List V}{ap:St}{σ:L2.St},dY K H ap σ->aJ K H ds vs->dY K H ((is.zip ds).foldl (fun σ p=>σ.set p.1 (some p.2)) ap) (mQ is vs σ)|[],_,_,_,_,r,_=>by simpa [mQ]using r|_::_,_,_,_,_,r,.nil=>by simpa [mQ]using r|i::is,_,_,_,_,r,.cons h t=>by have:=dY.cK is (r.set i h) t;simpa [mQ]using this
theorem Vc (hc:X.calm=true)(h:FT X es (wM is))(hn:(fu es X.env).length=is.length)(eV:(fu es X.env).findIdx? (·.1)=none):PG X (.Tuple es k pos) (OV X.K (oF C sub E (.tp is))) :=(VE hc h hn eV).imp fun v σ H Q ⟨d,ap,st,M,rd,r,ok,q,hq⟩=>by cases d with|tup ds0 =>have q:ds0.length=is.length/\M _ st:=q;obtain⟨a,vs,rfl,f,g⟩:=rd.cA;exact⟨a,vs,rfl,f,by rw[<-g.length];exact q.1,by rw[<-g.length];exact q.1,hq _ _ _ _ (r.cK is g) .refl ok q.2⟩|_=>exact(show False by cases is<;>exact q).elim
theorem Wj (ho:PE X o (cF X.K (aG C sub E x)))(hi:PE X i (cF X.K (aG C sub E y)))(ha:∀ v,nj (.Subscript o i pos) X.env v=(do
  let ov <-ky [v] (eval o X.env)let iv <-ky [v,ov] (eval i X.env)pe pos
  ky [v,ov,iv] (Aay ov iv v)release [v,ov,iv] [])):PG X (.Subscript o i pos) (OV X.K (oF C sub E (.ix x y))) :=(Nt ho hi set_list ha).imp fun v σ H Q ⟨d,ap,st,M,rd,r,ok,q,hq⟩=>by
 refine⟨ap,st,_,r,ok,q,fun v1 H1 ⟨d1,aC,s1,aO,r1,q1⟩=>?_⟩;refine⟨ap,aC,_,r.step ok s1,aO,q1,fun v2 H2 ⟨d2,aF,s2,bZ,r2,q2⟩=>?_⟩;have r1':=r1.step aO s2;have rd':=(rd.step ok s1).step aO s2;have q2:DG d1 d2 d aF fun aX=>M ap aX:=q2;cases d1<;>first|exact(show False from q2).elim|skip
 cases d2<;>first|exact(show False from q2).elim|skip
 cases r1'.cQ;cases r2.int_inv;rw[RP]at q2;obtain⟨xs,e,q2⟩:=dQ q2;obtain⟨j,ej,q2⟩:=fE q2;obtain⟨vs,g1,g2⟩:=bZ.lst e;refine⟨_,vs,_,j,rfl,rfl,g1,by rw[<-g2.length];exact ej,?_⟩;have s3:=mF (H:=H2) (st:=aF) (o:=.lst (vs.set j v)) (m':=.lst (xs.set j d)) e;exact hq _ _ _ _ (((r.step ok s1).step aO s2).step bZ s3) ((s1.trans s2).trans s3) (bZ.set e (g2.set rd' j)) q2
end
noncomputable def mE (cells:List (Str×Addr)):List (Str×NameKind)->List (Str×Addr)->List (Str×Addr)|[],cs=>cs|(n,k)::r,cs=>mE cells r (if k == .free then(n,(cells.lookup n).getD 0)::cs else cs)
theorem FP {env:Env}:∀(names:List (Str×NameKind))(cs:List (Str×Addr)),(∀ p∈names,p.2=.free->∃ c,env.cells.lookup p.1=some c) -> (forIn names cs fun(p:Str×NameKind)(cs:List (Str×Addr))=>(if p.2 == .free then do let c <-cellOf env p.1;pure (kh ((p.1,c)::cs))else pure (kh cs):Sem (ForInStep (List (Str×Addr)))))=pure (mE env.cells names cs)|[],cs,_=>by simp [mE]|(n,k)::r,cs,h=>by have ih:=fun cs=>FP r cs fun p hp=>h p (cq _ hp);simp only[rh,mE];cases e:(k==n5)with|true =>obtain⟨c,hc⟩:=h (n,k) (dh ..) (by simpa using e);have hc:env.cells.lookup n=some c:=hc;simp only[if_true,cellOf,hc,lh,pure_bind];exact ih _|false =>simp only[ak,if_false,pure_bind];exact ih _
theorem rC {env:Env}{scope:Scope}(h:∀ p∈scope.names,p.2=.free->∃ c,env.cells.lookup p.1=some c):zq scope env=pure (mE env.cells scope.names []):=by rw[<-FP scope.names [] h];unfold zq;simp only[bind_pure]
set_option tactic.hygienic true in
theorem mL {cells:List (Str×Addr)}:∀(names:List (Str×NameKind))(cs:List (Str×Addr)){x:Str}{c:Addr},(∀ p∈names,p.2=.free->∃ c,cells.lookup p.1=some c)->(∀ x c,cs.lookup x=some c->cells.lookup x=some c)->(mE cells names cs).lookup x=some c->cells.lookup x=some c
 |[],cs,x,c,_,h,e=>h x c e|(n,k)::r,cs,x,c,hn,h,e=>by
  simp only[mE]at e;refine mL r _ (fun p hp=>hn p (cq _ hp)) (fun y d ed=>?_) e;split at ed
  ·rename_i hk;obtain⟨c',hc'⟩:=hn (n,k) (dh ..) (by simpa using hk);have hc':cells.lookup n=some c':=hc';rw[dq]at ed;split at ed
   ·rename_i q;have q:y=n:=by simpa using q
    subst q;rw[hc']at ed ⊢;simpa using ed
   ·exact h y d ed
  ·exact h y d ed
theorem IG {cells:List (Str×Addr)}:∀(names:List (Str×NameKind))(cs:List (Str×Addr)){x:Str},(∃ c,cs.lookup x=some c)->∃ c,(mE cells names cs).lookup x=some c
 |[],cs,x,h=>h|(n,k)::r,cs,x,h=>by
  simp only[mE];refine IG r _ ?_;split
  ·rw[dq];split;·exact⟨_,rfl⟩
   ·exact h
  ·exact h
set_option tactic.hygienic true in
theorem xW {cells:List (Str×Addr)}:∀(names:List (Str×NameKind))(cs:List (Str×Addr)){x:Str},names.lookup x=some .free->∃ c,(mE cells names cs).lookup x=some c
 |[],cs,x,h=>by simp at h|(n,k)::r,cs,x,h=>by
  simp only[mE];rw[dq]at h;split at h;·rename_i q;cases h;refine IG r _ ?_;simp only[beq_self_eq_true,if_true];rw[dq,q];exact⟨_,rfl⟩
  ·exact xW r _ h
theorem sX {env:Env}:∀{names:List (Str×NameKind)}{x:Str}{k:vh},(names.map fun(n,k)=>if(k==n5&&env.scope.kind == .function&&env.kindOf n==some .cell)then(n,zd)else(n,k)).lookup x=some k->∃ k',names.lookup x=some k'/\(k'=k∨(k'=.free/\k=.cell))
 |[],x,k,h=>by simp at h
 |(n,k0)::r,x,k,h=>by simp only[bb]at h;cases q:(x==n)with|true =>
   refine⟨k0,by simp only[dq,q],?_⟩;by_cases hc:(k0==n5&&env.scope.kind == .function&&env.kindOf n==some .cell)=true;·simp only[hc,if_true,dq,q]at h;cases h;simp only[bc]at hc;exact .inr ⟨by simpa using hc.1.1,rfl⟩
   ·simp only[hc,if_false,dq,q,ak]at h;cases h;exact .inl rfl|false =>
   simp only[dq,q];refine sX (env:=env) (names:=r) ?_;by_cases hc:(k0==n5&&env.scope.kind == .function&&env.kindOf n==some .cell)=true;·simp only[hc,if_true,dq,q]at h;exact h
   ·simp only[hc,if_false,dq,q,ak]at h;exact h
set_option tactic.hygienic true in
theorem sT {env:Env}:∀{names:List (Str×NameKind)}{x:Str},names.lookup x=some .free->(names.map fun(n,k)=>if(k==n5&&env.scope.kind == .function&&env.kindOf n==some .cell)then(n,zd)else(n,k)).lookup x=some .cell∨(names.map fun(n,k)=>if(k==n5&&env.scope.kind == .function&&env.kindOf n==some .cell)then(n,zd)else(n,k)).lookup x=some .free
 |[],x,h=>by simp at h|(n,k0)::r,x,h=>by
  simp only[bb];rw[dq]at h;split at h
  ·rename_i q;cases h;split;·exact .inl (by rw[dq,q])
   ·exact .inr (by rw[dq,q])
  ·rename_i q;split;·rw[dq,q];exact sT h
   ·rw[dq,q];exact sT h
structure lF (X:Cx)(scope:Scope)(cn:List Str)(aL:List Nat):Prop where
 kind:scope.kind=.function
 nocell:∀ y∈scope.names,y.2≠.cell
 names:∀ y∈scope.names,y.2=.local->scope.names.lookup y.1=some .local
 free:∀ y∈scope.names,y.2=.free->X.env.kindOf y.1=some .cell∨X.env.kindOf y.1=some .free
 len:cn.length=aL.length
 cap:∀(j:Nat)(y:Str),cn[j]? = some y->scope.names.lookup y=some .free/\∃ i,aL[j]? = some i/\X.N[i]? = some y/\(X.env.kindOf y=some .cell∨X.env.kindOf y=some .free)
noncomputable def lQ (X:Cx)(scope:Scope)(own cn:List Str)(fp:List Addr)(s:ag)(H:Hp)(Ca:Addr):Cx :={ X with N:=own++cn,s₀:=s,H₀:=H,env:=compEnvC scope (mE X.env.cells scope.names []) Ca X.env,outer:=X.stack,ex:=fp,fn:=fun _=>false,calm:=true,pn:=[],xe:=fun _ _=>False }
noncomputable def rF (aL:List Nat)(σ:L2.St):L2.St:=aL.map fun i=>(σ[i]?).getD none
variable {own:List Str}{fp:List Addr}{Ca:Addr}
section
variable {scope:Scope}{cn:List Str}{aL:List Nat}{s:ag}
theorem lF.cells (S:lF X scope cn aL)(ok:X.Ok):∀ p∈scope.names,p.2=.free->∃ c,X.env.cells.lookup p.1=some c:=fun p hp e=>ok.has p.1 (S.free p hp e)
theorem Z6 (S:lF X scope cn aL)(hc:X.calm=true)(I:Inv X pz σ H s)(hf:∀ b∈fp,mS X pz H b)(cN:∀ b∈fp,b<s.heap.objs.size)(hC:s.heap.objs.size<=Ca):(lQ X scope own cn fp s H Ca).Ok where
 mod:=I.ok.mod;kind:=S.kind;glob:=I.ok.glob;blt:=I.ok.blt;above:=hC;inj:=fun x y c h1 h2=>I.ok.inj x y c (mL _ [] (S.cells I.ok) (fun _ _ h=>by simp at h) h1) (mL _ [] (S.cells I.ok) (fun _ _ h=>by simp at h) h2);has:=fun x h=>by
  refine xW _ [] ?_;rcases h with h|h
  ·obtain⟨k,e,r⟩:=sX (env:=X.env) (show jc x (qv _ scope.names)=_ from h);rcases r with rfl|⟨rfl,_⟩;·exact absurd rfl (S.nocell _ (i7 e))
   ·exact e
  ·obtain⟨k,e,r⟩:=sX (env:=X.env) (show jc x (qv _ scope.names)=_ from h);rcases r with rfl|⟨rfl,r⟩;·exact e
   ·cases r
 cab:=fun x c h _=>by cases h
 hd:=fun _=>I.ok.hd hc;frames:=I.ok.frames;stk:=.inl rfl;exf:=fun b hb=>⟨fun e=>absurd (cN b hb) (by rw[e];exact Nat.not_lt.mpr hC),fun x c h=>(hf b hb).2.2.2.2.1 x c (mL _ [] (S.cells I.ok) (fun _ _ h=>by simp at h) h)⟩;bs:=I.bs;bsz:=dg I.ok.bsz I.sz;noex:=fun b o e hb=>by
  rcases(hf b hb).2.2.2.1 with z|z;·exact I.ok.noex b o e z
  ·exact absurd (bz (bh e) (dg I.ok.bsz z)) (fy _)
 exfs:=fun b hb z=>by
  rcases List.mem_cons.mp (I.EN b z)with e|e;·exact(hf b hb).2.1 e
  ·exact(hf b hb).2.2.1 e
 mR:=I.stack;frf:=I.RC
theorem O4 (S:lF X scope cn aL)(hc:X.calm=true)(I:Inv X pz σ H s)(hf:∀ b∈fp,mS X pz H b)(cN:∀ b∈fp,b<s.heap.objs.size)(hC:s.heap.objs.size<=Ca){h1:Heap}{tk:Nat}{m:Str->Option ae}(hn:h1.Ns Ca m)(hk:∀ b o,s.heap.get? b=some o->h1.get? b=some o): Inv (lQ X scope own cn fp s H Ca) [] (ao own.length none++rF aL σ) H { s with heap:=h1,toks:=tk } where
 ok:=Z6 S hc I hf cN hC;os:=rfl;bare:=I.bare;base:=Un.kept hk;loc:=⟨m,hn,fun i y v h1' h2 h3=>by
  have hi:own.length<=i:=by refine Yz fun hi=>?_;rw[bu (by simpa using hi),jw]at h2;split at h2<;>cases h2
  rw[cw (by simpa using hi)]at h2;have h1':(own++cn)[i]? = some y:=h1';rw[cw hi]at h1';simp only[mh,rF,bg,di]at h2;obtain⟨k,e1,e2⟩:=h2;obtain⟨hfr,i',e3,e4,e5⟩:=S.cap _ y h1';rw[e1]at e3;cases e3;cases e6:σ[k]? with|none=>rw[e6]at e2;cases e2|some u =>
   rw[e6]at e2;have e2:u=some v:=e2;subst e2;obtain⟨m0,hn0,hl0⟩:=I.loc;obtain⟨w,rw',lk⟩:=hl0 k y v e4 e6 (e5.elim (fun z=>.inr (.inl z)) fun z=>.inr (.inr z));refine⟨w,rw',?_⟩;rcases lk with⟨z,_⟩|⟨_,c,ec,⟨oc,hoc,hdc⟩⟩
   ·rcases e5 with e5|e5;·rw[e5]at z;cases z
    ·rw[e5]at z;cases z
   ·obtain⟨c',ec'⟩:=xW (cells:=X.env.cells) scope.names [] hfr;have:=mL _ [] (S.cells I.ok) (fun _ _ h=>by simp at h) ec';rw[ec]at this;cases this;exact .inr ⟨sT (env:=X.env) hfr,c,ec',⟨oc,hk _ _ hoc,hdc⟩⟩⟩;cell:=fun x c h=>by obtain⟨v,o,ho,hd⟩:=I.cell x c (mL _ [] (S.cells I.ok) (fun _ _ h=>by simp at h) h);exact⟨v,o,hk _ _ ho,hd⟩
 free:=I.bO.fresh hC;lR:=fun x c h=>I.lR x c (mL _ [] (S.cells I.ok) (fun _ _ h=>by simp at h) h);pin:=fun p hp=>absurd (show p∈([]:List (Addr×Obj))from hp) (by simp);bO:=I.bO.kept hk;len:=by show(ao own.length none++rF aL σ).length=(own++cn).length;simp [rF,S.len]
end
noncomputable def CO (ifs:List Expr)(env:Env):Sem Bool:=forIn ifs true fun c r=>if r=true then do let ok <-Yw c env (eval c env);pure (kh ok)else pure (kh r)
def JU (X:Cx)(ifs:List Expr)(t:L2.TT):Prop :=∀(pz:List (Addr×Obj))(s:ag)(σ:L2.St)(H:Hp)(Q:Bool->Hp->Prop),Inv X pz σ H s->t σ H Q->wpAny (model X.prog X.w) X.A (CO ifs X.env) (TP X pz σ Q) X.xe s
inductive yT (K:aa)(te:St->aB->(Bool->aB->Prop)->Prop)(σ:L2.St)(H:Hp)(Q:Bool->Hp->Prop):Prop where |mk (ap:St)(st:aB)(R:Bool->aB->Prop)(r:dY K H ap σ)(ok:aS K st H)(q:te ap st R)(hq:∀(b:Bool) H',QX K H st (R b) H'->Q b H'):yT K te σ H Q
section
variable {sub:Nat->Nat->Bool}{a c i:Expr}{z:Ex}{pos:Pos}
theorem DB (env:Env):∀(ifs:List Expr),(forIn ifs false fun c r=>if r=true then do let ok <-Yw c env (eval c env);pure (kh ok)else pure (kh r):Sem Bool)=pure false|[]=>by simp|c::r=>by simp only[rh,ak,if_false,pure_bind];exact DB env r
theorem My:JU X [] (yT X.K (iZ C sub E [])):=fun pz s σ H Q I ⟨ap,st,R,r,ok,q,hq⟩=>by unfold CO;simp only[Aad];exact ar ⟨H,I,hq true H ⟨st,.refl,ok,q⟩⟩
theorem Dy (h:PT X e (kW X.K (aG C sub E x)))(hs:JU X es (yT X.K (iZ C sub E xs))):JU X (e::es) (yT X.K (iZ C sub E (x::xs))):=fun pz s σ H Q I ⟨ap,st,R,r,ok,q,hq⟩=>by unfold CO;simp only[rh,if_true];refine af (af (bF (h pz s σ H _ I ⟨ap,st,fun k aA=>if k=true then iZ C sub E xs ap aA R else R false aA,r,ok,q,fun b H' z=>z⟩) fun k s1 ⟨H1,I1,aC,dH,aO,q1⟩=>ar ?_));cases k with|true =>have q1:iZ C sub E xs ap aC R:=q1;refine hs pz s1 σ H1 _ I1 ⟨ap,aC,R,r.step ok dH,aO,q1,fun b H' ⟨aA,s',fX,q'⟩=>hq b H' ⟨aA,dH.trans s',fX,q'⟩⟩|false =>show wpAny _ _ (forIn es false _) _ _ _;rw[DB];exact ar ⟨H1,I1,hq false H1 ⟨aC,dH,aO,q1⟩⟩
end
variable {elt:Expr}{ifs:List Expr}
theorem OL {prog:b7}{w:c9}{A:cp}{s:ag}{R:Aaz->ag->Prop}{target:Expr}{scope:Scope}{pos:Pos}{it acc:ae}{env:Env}(I:Nat->ag->Prop)(turn:∀ n s,I n s->wpAny (model prog w) A (v8 it) (fun r bv=>match r with|none=>R (.ok .next) bv|some v=>wpAny (model prog w) A (qz target it v) (fun _ s0=>wpAny (model prog w) A (nj target env v) (fun _ ce =>wpAny (model prog w) A (CO ifs env) (fun ok ci =>if ok=true then wpAny (model prog w) A (eval elt env) (fun x li =>wpAny (model prog w) A (call (.builtin "list.append") [acc,x]) (fun _ ut=>∃ m,m<n/\I m ut) (fun _ _=>False) li) (fun _ _=>False) ci else ∃ m,m<n/\I m ci) (fun _ _=>False) ce) (fun _ _=>False) s0) (fun _ _=>False) bv) (fun _ _=>False) s)(n:Nat)(h:I n s):lz (model prog w) A (.compLoop (.ListComp elt [⟨target,iter,ifs,0⟩] scope pos) 0 it acc env) R s:=by refine codeAny_loop rfl I (fun n s hI=>?_) n h;show wpAny _ A ((compTurn (.ListComp elt [⟨target,iter,ifs,0⟩] scope pos) 0 it acc env).onRaise (fun x=>do noteFrame x env;theTreesLotGoes x)) _ _ s;refine wpAny_noted ?_;rw[compTurn_list];refine af (qk (af (j8 (turn n s hI) (fun r bv db=>?_) fun _ _ h'=>h'.elim)));cases r with|none=>exact ar db|some v =>refine af (j8 db (fun _ s0 wP=>?_) fun _ _ h'=>h'.elim);refine af (j8 wP (fun _ ce wf=>af (j8 wf (fun ok ci v6=>?_) fun _ _ h'=>h'.elim)) fun _ _ h'=>h'.elim);cases ok with|false=>exact ar ⟨rfl,v6⟩|true =>exact af (af (j8 v6 (fun x li wv=>af (j8 wv (fun _ ut wE=>ar (ar ⟨rfl,wE⟩)) fun _ _ h'=>h'.elim)) fun _ _ h'=>h'.elim))
noncomputable def QY (K:aa):Bool->Nat->TG|true,_=>GB 0|false,n=>Mp K n (wM (ay n))
theorem EU:∀(is:List Nat)(vs:List V)(σ:L2.St)(n i:Nat),(∀ j∈is,j<n)->n<=i->(mQ is vs σ)[i]? = σ[i]?|[],_,_,_,_,_,_=>by simp [mQ]|_::_,[],_,_,_,_,_=>by simp [mQ]|j::is,v::vs,σ,n,i,h,hi=>by have:=EU is vs (σ.set j (some v)) n i (fun k hk=>h k (cq _ hk)) hi;simp only[mQ,l8,jd]at this ⊢;rw[this];have:=h j (dh ..);rw[gy (by omega)]
theorem IQ:∀(is:List Nat)(vs:List V)(σ:L2.St),(mQ is vs σ).length=σ.length|[],_,_=>by simp [mQ]|_::_,[],_=>by simp [mQ]|j::is,v::vs,σ=>by have:=IQ is vs (σ.set j (some v));simp only[mQ,l8,jd,rb]at this ⊢;exact this
theorem SF {K:aa}{one:Bool}{n:Nat}{d:D}{P:St->Prop}{Q:L2.St->Hp->Prop}(hn:one=true->n=1)(h:lM one (ay n) d ap P)(r:dY K H ap σ)(rd:Rep K H d v)(hQ:∀ cr uY,dY K H uY cr->P uY->(∀ i,n<=i->cr[i]? = σ[i]?)->cr.length=σ.length->Q cr H):QY K one n v σ H Q:=by cases one with
 |true =>cases hn rfl;have h:P (ap.set 0 (some d)):=h;refine hQ _ _ (r.set 0 rd) h (fun i hi=>?_) (by simp);rw[gy (by omega)]
 |false =>cases d with|tup ds =>
  rw[WX]at h;obtain⟨a,vs,rfl,f,g⟩:=rd.cA;have hl:vs.length=n:=by rw[<-g.length,h.1];simp
  refine⟨a,vs,rfl,f,hl,by simp [hl],hQ _ _ (r.cK _ g) h.2 (fun i hi=>EU _ _ _ n i (fun j hj=>by simpa using hj) hi) (IQ _ _ _)⟩|_=>exact(show False by cases n<;>exact h).elim
variable {ds:List D}
section
variable {K:aa}{Da:Addr}{ys zs:List V}
theorem Fp (hD:H Da=some (.lst ys)){a:Addr}(h:eU K H a vs):eU K (upd H Da (.lst zs)) a vs:=by
 rcases h with(h|⟨o,h⟩)|h;·exact .inl (.inl (by rw[bI (RU h hD (by simp))];exact h))
 ·exact .inl (.inr ⟨o,by rw[bI (RU h hD (by simp))];exact h⟩)
 ·exact .inr h
theorem Am (hD:H Da=some (.lst ys)){a:Addr}(h:nR K H a vs):nR K (upd H Da (.lst zs)) a vs:=by
 rcases h with⟨o,h⟩|h;·exact .inl ⟨o,by rw[bI (RU h hD (by simp))];exact h⟩
 ·exact .inr h
mutual
theorem Rep.alt (hD:H Da=some (.lst ys)):∀{d:D}{v:V},Rep K H d v->Rep K (upd H Da (.lst zs)) d v|_,_,.non=>.non|_,_,.bl b=>.bl b|_,_,.int i=>.int i|_,_,.str x=>.str x|_,_,.tup h r=>.tup (Fp hD h) (aJ.alt hD r)|_,_,.ref a=>.ref a|_,_,.bR h r=>.bR (Am hD h) (aJ.alt hD r)|_,_,.dP h=>.dP h
theorem aJ.alt (hD:H Da=some (.lst ys)):∀{ds:List D}{vs:List V},aJ K H ds vs->aJ K (upd H Da (.lst zs)) ds vs|_,_,.nil=>.nil|_,_,.cons h r=>.cons (Rep.alt hD h) (aJ.alt hD r)end
theorem aS.alt (ok:aS K st H)(hD:H Da=some (.lst ys))(hn:st Da=none):aS K st (upd H Da (.lst zs)):=fun a o e=>by
 have ne:a≠Da:=fun z=>by rw[z,hn]at e;cases e
 have:=ok a o e;cases o with|lst ds =>obtain⟨vs,q,r⟩:=this;exact⟨vs,by rw[bI ne];exact q,r.alt hD⟩|dic _ _=>exact this.elim|ins c fs =>obtain⟨C,dx,ws,q,q2,q3,r⟩:=this;exact⟨C,dx,ws,q,by rw[bI ne];exact q2,q3,r.alt hD⟩|tab ks vs =>obtain⟨xs,ws,q,q0,q1,q2,q3,q4,q5,r⟩:=this;exact⟨xs,ws,by rw[bI ne];exact q,q0,q1,q2,q3.alt hD,q4,q5,r.alt hD⟩|fn f cs =>
 obtain⟨vs,⟨T,clos,pm,ctv,c',oc,ne0,t,q,ec,co,inj,dom,cap⟩,r⟩:=this;have ka:∀{b o u},H b=some (.frz o u)->upd H Da (.lst zs) b=some (.frz o u):=fun{b o u} z=>by rw[bI (fun w=>by rw[w,hD]at z;cases z)];exact z
 exact⟨vs,⟨T,clos,pm,ctv,c',oc,ne0,t,ka q,ka ec,co,inj,dom,cap.of fun b o z=>ka z⟩,r.alt hD⟩|cod κ =>
 obtain⟨q0,q|⟨c',oc,q,ec,co⟩⟩:=this;·exact⟨q0,.inl (by rw[bI ne];exact q)⟩
 ·exact⟨q0,.inr ⟨c',oc,by rw[bI ne];exact q,by rw[bI (fun w=>by rw[w,hD]at ec;cases ec)];exact ec,co⟩⟩
theorem aS.take (ok:aS K st H)(hD:H Da=some (.lst ys))(r:aJ K H ds ys):aS K (put st Da (.lst ds)) H:=fun a o e=>by
 by_cases ha:a=Da;·subst ha;rw[aN]at e;cases e;exact⟨ys,hD,r⟩
 ·rw[aM ha]at e;exact ok a o e
end
theorem YD {K:aa}(r:dY K H ap σ)(n:Nat)(aL:List Nat):dY K H (ao n none++aL.map fun i=>(ap[i]?).getD none) (ao n none++rF aL σ):=by
 refine⟨by simp [rF],fun i d e=>?_⟩;by_cases hi:i<n;·rw[bu (by simpa using hi),jw]at e;split at e<;>cases e
 ·rw[cw (by simpa using hi)]at e ⊢;simp only[mh,bg,di]at e ⊢;obtain⟨k,e1,e2⟩:=e;cases q:ap[k]? with|none=>rw[q]at e2;cases e2|some u =>rw[q]at e2;have e2:u=some d:=e2;subst e2;obtain⟨v,h1,h2⟩:=r.2 k d q;refine⟨v,?_,h2⟩;simp only[rF,bg,di];exact⟨k,e1,by rw[h1];rfl⟩
theorem Dq {w:c9}{h h':Heap}(ok:iN P w H h)(hn:H Ca=none)(hs:ll Ca h h'):iN P w H h':=fun b u e=>by
 refine(ok b u e).pP (fun c v hc q=>hs.extBut c v ?_ q) (fun _ q=>q) fun _ _ q=>q;rcases hc with z|z;·rw[z];exact fun y=>by rw[y,hn]at e;cases e
 ·exact fun y=>by rw[y,hn]at z;cases z
variable {lJ:List Ex}
section
variable {sub:Nat->Nat->Bool}{xe:Ex}{pos:Pos}{scope:Scope}{cn:List Str}{aL:List Nat}{one:Bool}{k:Option IK}
theorem JF (hC:bU C C)(S:lF X scope cn aL)(hc:X.calm=true)(nS:one=true->own.length=1)(hg:∀ fp s H Ca,PG (lQ X scope own cn fp s H Ca) tg (QY X.K one own.length))(hts:∀ fp s H Ca,JU (lQ X scope own cn fp s H Ca) ifs (yT X.K (iZ C sub EF lJ)))(he:∀ fp s H Ca,PE (lQ X scope own cn fp s H Ca) elt (cF X.K (aG C sub EF xe))){use:Option (ae->Sem Unit)}{Qf:ae->ag->Prop}{ce:ag}{J:It}{it:Addr}{tn:Nat->Heap->Prop}{as:List Nat}{xs:List D}{R:List D->aB->Prop}(I2:Inv X pz σ H1 ce)(T:Turn X.prog X.w X.K tg J fp it tn)(t0:tn 0 ce.heap)(f2:∀ b∈fp,mS X pz H1 b)(r:dY X.K H1 ap σ)(aO:aS X.K aC H1)(j:zM X.K J as xs H1 aC)(q:kM (same as aC) (fun x aF K=>lM one (ay own.length) x (ao own.length none++aL.map fun i=>(ap[i]?).getD none) fun bn =>iZ C sub EF lJ bn aF fun b aX=>if b=true then aG C sub EF xe bn aX fun d cG=>K (some d) cG else K none aX) xs [] aC R)(fin:∀(Da Ca:Addr)(H':Hp)(aA:aB)(ds:List D)(m:Str->Option ae)(s':ag),s'.heap.Ns Ca m->(∀ h',ll Ca s'.heap h'->Inv X pz σ H' { s' with heap:=h' })->Inv X pz σ H' s'->Ca≠X.env.locals->(∀ x c,X.env.cells.lookup x=some c->c≠Ca)->Ca∉X.fs->X.s₀.heap.objs.size<=Ca->(∀ p∈X.pn++pz,p.1≠Ca)->H' Ca=none->Step H1 aC H' aA->aS X.K (put aA Da (.lst ds)) H'->H1 Da=none->aA Da=none->R ds aA -> compPost (model X.prog X.w) X.A X.xe use Qf (.ref Da) Ca (.ok .next) s'): wpAny (model X.prog X.w) X.A (newList []) (fun acc ci =>wpAny (model X.prog X.w) X.A (newFunctionEnv scope X.env.globals (mE X.env.cells scope.names []) [] X.env.qual none .none (some X.env)) (fun cenv li =>lz (model X.prog X.w) X.A (.compStart (.ListComp elt [⟨tg,iter,ifs,0⟩] scope pos) 0 (.ref it) acc { cenv with scope:=relabel scope X.env }) (compPost (model X.prog X.w) X.A X.xe use Qf acc cenv.locals) li) X.xe ci) X.xe ce:=by
 have hD1:H1 ce.heap.objs.size=none:=I2.fresh;obtain⟨tf,htf0⟩:∃ tf:D->aB->(Option D->aB->Prop)->Prop,tf=fun x aF K=>lM one (ay own.length) x (ao own.length none++aL.map fun i=>(ap[i]?).getD none) fun bn =>iZ C sub EF lJ bn aF fun b aX=>if b=true then aG C sub EF xe bn aX fun d cG=>K (some d) cG else K none aX:=⟨_,rfl⟩;have htf:∀ x aF (K:Option D->aB->Prop),tf x aF K->lM one (ay own.length) x (ao own.length none++aL.map fun i=>(ap[i]?).getD none) fun bn =>iZ C sub EF lJ bn aF fun b aX=>if b=true then aG C sub EF xe bn aX fun d cG=>K (some d) cG else K none aX:=fun x aF K h=>by rw[htf0]at h;exact h
 rw[<-htf0]at q;refine ij ?_;have I3:=I2.YM (aD:=[]) (ys:=[]) (t':=ce.toks) .nil (dt _);generalize hS3:({ ce with heap:=ce.heap.push { cls:=.type "list", dict:=none,data:=.seq ([]:List ae).toArray } }:ag)=ci;have I3:Inv X pz σ (upd H1 ce.heap.objs.size (.lst [])) ci:=by rw[<-hS3];exact I3
 have lt3:ce.heap.objs.size<ci.heap.objs.size:=by rw[<-hS3];show _<(ce.heap.push _).objs.size;rw[ju];exact gz _
 have old3:∀ b o,ce.heap.get? b=some o->ci.heap.get? b=some o:=fun b o e=>by rw[<-hS3];exact aj _ e
 generalize hDa:ce.heap.objs.size=Da at *;have hlt2:∀ b∈fp,b<Da:=fun b hb=>by obtain⟨o,e,_⟩:=T.obj _ _ t0 b hb;rw[<-hDa];exact bh e
 have f3:∀ b∈fp,mS X pz (upd H1 Da (.lst [])) b:=fun b hb=>⟨by rw[bI (b9 (hlt2 b hb))];exact(f2 b hb).1,(f2 b hb).2⟩;have hlt3:∀ b∈fp,b<ci.heap.objs.size:=fun b hb=>AaB (hlt2 b hb) lt3;refine yc S.nocell (by intro y hy;simp at hy) (fun db hns hsb=>?_) S.kind;have keep1:∀ b o,ci.heap.get? b=some o->db.get? b=some o:=fun b o e=>hsb.extBut b o (b9 (bh e)) (aj _ e);have t1:tn 0 db:=T.keep _ _ _ t0 fun b hb o e=>keep1 b o (old3 b o e);have B0:=O4 (own:=own) S hc I3 f3 hlt3 (aw _) (tk:=ci.toks+([]:List (Str×Value)).length) hns keep1;generalize hXc:lQ X scope own cn fp ci (upd H1 Da (.lst [])) ci.heap.objs.size=Xc at B0;have hgc:PG Xc tg (QY X.K one own.length):=by rw[<-hXc];exact hg _ _ _ _
 have htc:JU Xc ifs (yT X.K (iZ C sub EF lJ)):=by rw[<-hXc];exact hts _ _ _ _
 have hec:PE Xc elt (cF X.K (aG C sub EF xe)):=by rw[<-hXc];exact he _ _ _ _
 have eP:Xc.prog=X.prog:=by rw[<-hXc];rfl
 have eW:Xc.w=X.w:=by rw[<-hXc];rfl
 have eK:Xc.K=X.K:=by rw[<-hXc];rfl
 have eA:Xc.A=X.A:=by rw[<-hXc];rfl
 have eX:Xc.xe=fun _ _=>False:=by rw[<-hXc];rfl
 have eN:Xc.env=compEnvC scope (mE X.env.cells scope.names []) ci.heap.objs.size X.env:=by rw[<-hXc];rfl
 have eL:Xc.env.locals=ci.heap.objs.size:=by rw[eN];rfl
 have eC:Xc.calm=true:=by rw[<-hXc];rfl
 have fC:∀{H':Hp},(∀ b∈fp,H' b=none)->∀ b∈fp,mS Xc [] H' b:=fun{H'} hn b hb=>by
  have ok:=B0.ok;refine⟨hn b hb,by rw[eL];exact b9 (hlt3 b hb),ok.exfs b (by rw[<-hXc];exact hb),.inl (by rw[<-hXc];exact hb),fun x c e=>(ok.exf b (by rw[<-hXc];exact hb)).2 x c e,fun p hp=>?_⟩;have:p∈([]:List (Addr×Obj)):=by rw[<-hXc]at hp;exact hp
  cases this
 have capsRel:∀{H':Hp}{aA:aB},Step H1 aC H' aA->dY X.K H' (ao own.length none++aL.map fun i=>(ap[i]?).getD none) (ao own.length none++rF aL σ):=fun s'=>(YD r _ _).step aO s';have loop:∀ s4:ag,s4 = { ci with heap:=db,toks:=ci.toks+([]:List (Str×Value)).length }->lz (model X.prog X.w) X.A (.compLoop (.ListComp elt [⟨tg,iter,ifs,0⟩] scope pos) 0 (.ref it) (.ref Da) Xc.env) (compPost (model X.prog X.w) X.A X.xe use Qf (.ref Da) ci.heap.objs.size) s4:=by
  rintro s4 rfl;refine OL (fun n s'=>∃ i H' aA ds ys,n+i=xs.length/\Inv Xc [] (ao own.length none++rF aL σ) H' s'/\tn i s'.heap/\(∀ b∈fp,H' b=none)/\Step H1 aC H' aA/\aS X.K aA H'/\H' Da=some (.lst ys)/\aA Da=none/\aJ X.K H' ds ys /\kM (same as aC) tf (xs.drop i) ds aA R) ?_ xs.length ⟨0,_,aC,[],[],rfl,B0,t1,fun b hb=>(f3 b hb).1,kR hD1,aO.new hD1,dE,aO.fresh hD1,.nil,by simpa using q⟩;rintro n s' ⟨i,H',aA,ds,ys,hni,I',ti,fr',dH,fX,hD',hst',rs,q'⟩;by_cases hi:i<xs.length;·-- a turn
   have ed:xs.drop i=xs[i]::xs.drop (i+1):=cj hi;rw[ed]at q';obtain⟨g1,gl,q'⟩:=q';have hx:xs[i]? = some xs[i]:=ai hi;have hpn:=T.item Xc eP eW eK eC i [] s' _ H' (fun _ _=>False) I' (fC fr') ti (j.go i H' aA xs[i] dH fX g1 hx);rw[eA]at hpn;refine bF hpn fun rr s5 ⟨u,hu,h5⟩=>?_;subst hu;refine bF h5 fun _ s6 ⟨v,H6,I6,rv,y6,t6,fr6⟩=>?_;obtain⟨s6s,Nw,rd⟩:=j.yld i H' aA xs[i] v H6 dH fX g1 hx y6;have D6:=s6s Da _ hD' hst';have I6':=I6.pinned (fC fr6) (T.obj _ _ t6);have hasg:=hgc _ s6 _ H6 v u (fun cr H2=>∃ uY,H2=H6/\dY X.K H6 uY cr/\(∀ i,own.length<=i->cr[i]? = (ao own.length none++rF aL σ)[i]?)/\cr.length=(ao own.length none++rF aL σ).length /\iZ C sub EF lJ uY aA fun b aX=>if b=true then aG C sub EF xe uY aX fun d cG=>kM (same as aC) tf (xs.drop (i+1)) (ds++[d]) cG R else kM (same as aC) tf (xs.drop (i+1)) ds aX R) I6' rv (SF nS (htf _ _ _ q') ((capsRel dH).step fX s6s) rd fun cr uY r2 p2 k2 l2=>⟨uY,rfl,r2,k2,l2,p2⟩);rw[eP,eW,eA,eX]at hasg;refine bF hasg fun _ s7 ⟨cr,H7,I7,uY,e7,r7,k7,l7,q7⟩=>?_;subst e7;have hte:=htc _ s7 cr H7 _ I7 ⟨uY,aA,_,r7,Nw,q7,fun b H' z=>z⟩;rw[eP,eW,eA,eX]at hte;have again:∀{H8:Hp}{s8:ag}{eB:aB}{ds8:List D}{ys8:List V},Inv Xc ([]++A4 fp s6.heap) cr H8 s8->Step H1 aC H8 eB->aS X.K eB H8->H8 Da=some (.lst ys8)->eB Da=none->aJ X.K H8 ds8 ys8->kM (same as aC) tf (xs.drop (i+1)) ds8 eB R -> ∃ m,m<n/\∃ i H' aA ds ys,m+i=xs.length/\Inv Xc [] (ao own.length none++rF aL σ) H' s8/\tn i s8.heap/\(∀ b∈fp,H' b=none)/\Step H1 aC H' aA/\aS X.K aA H'/\H' Da=some (.lst ys)/\aA Da=none/\aJ X.K H' ds ys/\kM (same as aC) tf (xs.drop i) ds aA R:=fun{H8 s8 eB ds8 ys8} I8 s8s YA hD8 hs8 rs8 q8=>by
    have pinned:∀ b∈fp,∀ o,s6.heap.get? b=some o->s8.heap.get? b=some o/\H8 b=none:=fun b hb o e=>by have:=I8.pin (b,o) (f7 _ (f7 _ (xE hb e)));exact⟨this.1,this.2.1⟩
    refine⟨n-1,by omega,i+1,H8,eB,ds8,ys8,by omega,?_,T.keep _ _ _ t6 fun b hb o e=>(pinned b hb o e).1,fun b hb=>?_,s8s,YA,hD8,hs8,rs8,q8⟩
    ·refine I8.yA.weak (by rw[l7]) fun i0 v0 e0=>?_;by_cases hi0:i0<own.length;·rw[bu (by simpa using hi0),jw]at e0;split at e0<;>cases e0
     ·rw[k7 i0 (by omega)];exact e0
    ·obtain⟨o,e,_⟩:=T.obj _ _ t6 b hb;exact(pinned b hb o e).2
   have s17:=dH.trans s6s;have rs7:=rs.step fX s6s;refine bF hte fun b s8 ⟨H8,I8,eB,s8s,YA,q8⟩=>?_;have D8:=s8s Da _ D6.1 D6.2;have rs8:=rs7.step Nw s8s;cases b with|false=>exact again I8 (s17.trans s8s) YA D8.1 D8.2 rs8 q8|true =>have hel:=hec _ s8 cr H8 _ I8 ⟨uY,eB,_,r7.step Nw s8s,YA,q8,fun v H' z=>z⟩;rw[eP,eW,eA,eX]at hel;refine bF hel fun u9 s9 ⟨v9,H9,I9,rv9,d9,rR,s9s,Yh,rd9,q9⟩=>?_;have D9:=s9s Da _ D8.1 D8.2;have rs9:=rs8.step YA s9s;have hap:=L2.uA _ s9 cr H9 (.ref Da) [v9] (.ref Da) [u9] (fun _ H'=>H'=upd H9 Da (.lst (ys++[v9]))) I9 rfl (.cons rv9 .nil) ⟨Da,ys,v9,rfl,rfl,D9.1,by rw[gA,<-rs9.length];exact gl,rfl⟩;rw[eP,eW,eA,eX]at hap;refine bF hap fun _ s10 ⟨_,H10,I10,_,e10⟩=>?_;subst e10;refine again I10 (fun a o e0 n0=>?_) (Yh.alt D9.1 D9.2) dE D9.2 ((rs9.append (.cons rd9 .nil)).alt D9.1) q9;have:=((s17.trans s8s).trans s9s) a o e0 n0;exact⟨by rw[bI (jK e0 hD1)];exact this.1,this.2⟩
  ·-- the end
   have ed:xs.drop i=[]:=gj (by omega);rw[ed]at q';have hpn:=T.done Xc eP eW eK eC i [] s' _ H' (fun _ _=>False) I' (fC fr') ti (j.stop i H' aA dH fX q'.1 (by omega));rw[eA]at hpn;refine bF hpn fun rr s5 ⟨hr,I5⟩=>?_;subst hr;have un5:Un (tJ X.stack) fp (upd H1 Da (.lst [])) H' ci.heap s5.heap:=by have:=I5.base;rw[<-hXc]at this;exact this
   have os5:s5.os=ci.os:=by have:=I5.os;rw[<-hXc]at this;exact this
   have fC5:H' ci.heap.objs.size=none:=by have:=I5.free;rw[eL]at this;exact this
   have hch:∀ b∈fp,(b∈X.ex∨X.s₀.heap.objs.size<=b)/\b≠X.env.locals/\(∀ x c,X.env.cells.lookup x=some c->c≠b)/\∀ p∈X.pn++pz,p.1≠b:=fun b hb=>⟨(f2 b hb).2.2.2.1,(f2 b hb).2.1,(f2 b hb).2.2.2.2.1,(f2 b hb).2.2.2.2.2⟩;have hok5:iN X.prog X.w H' s5.heap:=by have:=I5.bO;rw[eP,eW]at this;exact this
   have Iall:∀ h',(∀ b o,b≠ci.heap.objs.size->s5.heap.get? b=some o->h'.get? b=some o)->iN X.prog X.w H' h'->Inv X pz σ H' { s5 with heap:=h' }:=fun h' kk bO=>by
    have ne:∀ b o,ci.heap.get? b=some o->b≠ci.heap.objs.size:=fun b o e=>b9 (bh e);refine I3.Bm (s':={ s5 with heap:=h' }) (ch:=fp) os5 ⟨fun b o e n hb hx=>kk b o (ne b o e) (un5.keep b o e n hb hx),fun b o e n hb hx=>?_,un5.free,fun b o e hx=>?_,un5.tP,un5.pE,un5.rO⟩ bO I5.bare hch;·obtain⟨sl,e'⟩:=un5.slot b o e n hb hx;exact⟨sl,kk b _ (ne b o e) e'⟩
    ·obtain⟨o',e'⟩:=un5.there b o e hx;exact⟨o',kk b o' (ne b o e) e'⟩
   obtain⟨m5,ns5,_⟩:=I5.loc;rw[eL]at ns5;refine fin Da ci.heap.objs.size H' aA ds m5 s5 ns5 (fun h' hs=>Iall h' (fun b o hb e=>hs.extBut b o hb e) (Dq hok5 fC5 hs)) (Iall s5.heap (fun b o _ e=>e) hok5) (ly I3.lt) (fun x c e=>?_) (I3.Mw (aw _)) I3.sz (fun p hp=>b9 (bh (I3.pin p hp).1)) fC5 dH (fX.take hD' rs) hD1 hst' q'.2;obtain⟨v,o,ho,_⟩:=I3.cell x c e;exact b9 (bh ho)
 have hl:=loop _ rfl;rw[eN]at hl;exact codeAny_compStart_list hl (T.self X.A 0 _ _ _ t1 hl)
theorem MK {H':Hp}{aA:aB}{Da:Addr}{o:MO}(s1:Step H st H1 aC)(s2:Step H1 aC H' aA)(hD:H1 Da=none):Step H st H' (put aA Da o):=fun a u e n=>by have e1:=s1 a u e n;have e2:=s2 a u e1.1 e1.2;exact⟨e2.1,by rw[aM (jK e1.1 hD)];exact e2.2⟩
theorem Np (hC:bU C C)(S:lF X scope cn aL)(hc:X.calm=true)(nS:one=true->own.length=1)(hi:PI X tg iter (xO X.K fun σ st M=>bM C sub EF aD σ st fun ds aC=>gZ k ds aC fun as xs=>M as xs aC))(hg:∀ fp s H Ca,PG (lQ X scope own cn fp s H Ca) tg (QY X.K one own.length))(hts:∀ fp s H Ca,JU (lQ X scope own cn fp s H Ca) ifs (yT X.K (iZ C sub EF lJ)))(he:∀ fp s H Ca,PE (lQ X scope own cn fp s H Ca) elt (cF X.K (aG C sub EF xe)))(hs:∀ x,gq iter X.env x=pure x):PE X (.ListComp elt [⟨tg,iter,ifs,0⟩] scope pos) (cF X.K (aG C sub EF (.comp own.length aL (ay own.length) one k aD lJ xe))):=by intro pz s σ H Q I ⟨ap,st,R,r,ok,q,hq⟩;rw[eval_ListComp];refine vb (use:=none) rfl hs (rC (S.cells I.ok)) S.kind S.names ?_;refine bF (hi pz s σ H _ I ⟨ap,st,_,r,ok,q,fun J H1 z=>z⟩) fun v s1 h1=>bF h1 fun itv s2 h2=>?_;obtain⟨it,fp,tn,J,H1,rfl,I2,T,t0,f2,as,xs,aC,dH,aO,j,q1⟩:=h2;refine JF (use:=none) hC S hc nS hg hts he I2 T t0 f2 (r.step ok dH) aO j q1 ?_;intro Da Ca H' aA ds m s' hns rP hI _ _ _ _ _ _ hZ okp hD1 hst' hR;exact⟨m,hns,fun h' hh=>⟨.ref Da,H',rP h' hh,rfl,hq _ _ ⟨.ref Da,_,MK dH hZ hD1,okp,.ref Da,hR.2 Da hst'⟩⟩⟩
theorem Ln {y:Str}{py spos:Pos}(hC:bU C C)(S:lF X scope cn aL)(hc:X.calm=true)(nS:one=true->own.length=1)(hi:PI X tg iter (xO X.K fun σ st M=>bM C sub EF aD σ st fun ds aC=>gZ k ds aC fun as xs=>M as xs aC))(hg:∀ fp s H Ca,PG (lQ X scope own cn fp s H Ca) tg (QY X.K one own.length))(hts:∀ fp s H Ca,JU (lQ X scope own cn fp s H Ca) ifs (yT X.K (iZ C sub EF lJ)))(he:∀ fp s H Ca,PE (lQ X scope own cn fp s H Ca) elt (cF X.K (aG C sub EF xe)))(hN:X.N.Nodup)(hy:X.N[i]? = some y)(hx:Loc X.env.scope y)(hf:X.fn y=true∨X.env.scope.names.lookup y=some .local)(hsw:my (.ListComp elt [⟨tg,iter,ifs,0⟩] scope pos) (some (.Name y py)) spos.line X.env=pure true)(hs:∀ x,gq iter X.env x=pure x): PS X (.Assign [.Name y py] (.ListComp elt [⟨tg,iter,ifs,0⟩] scope pos) spos) (iX X.K (wpS C sub (.asg (.nm i) (.comp own.length aL (ay own.length) one k aD lJ xe)))):=by
 intro pz s σ H D I ⟨ap,st,P,r,ok,q,h⟩;have q:=tE hC h.ex q;rw[exec_Assign_Name_used _ _ _ _ hsw];refine af (qk (af ?_));show wpAny _ X.A (do let _ <-comprehension (.ListComp elt [⟨tg,iter,ifs,0⟩] scope pos) scope X.env _ (newList []) false (eval iter X.env) (some (nj (.Name y py) X.env))) _ _ s;refine af (j8 (vb (use:=some (nj (.Name y py) X.env)) (Q:=fun _ s'=>SP X pz D .next s') rfl hs (rC (S.cells I.ok)) S.kind S.names ?_) (fun _ s' hq=>ar (ar hq)) fun _ _ e=>e);refine bF (hi pz s σ H _ I ⟨ap,st,_,r,ok,q,fun J H1 z=>z⟩) fun v s1 h1=>bF h1 fun itv s2 h2=>?_;obtain⟨it,fp,tn,J,H1,rfl,I2,T,t0,f2,as,xs,aC,dH,aO,j,q1⟩:=h2;refine JF (use:=some (nj (.Name y py) X.env)) hC S hc nS hg hts he I2 T t0 f2 (r.step ok dH) aO j q1 ?_;intro Da Ca H' aA ds m s' hns rP hI hL hcl hfs iS hpins hn hZ okp hD1 hst' hR;show wpAny _ X.A (nj (.Name y py) X.env (.ref Da)) _ _ _;refine zw (IF hI hN hy hx (v:=.ref Da) rfl (fun s'' I'' kk=>?_) hf);obtain⟨ad,sb,had⟩:=kk;have nad:Ca≠ad:=fun z=>by
  rcases had with e|e;·exact hL (z.trans e)
  ·exact hcl y ad e z.symm
 refine⟨m,hns.at' fun o e=>(sb.2 Ca nad).trans e,fun h' hh=>?_⟩;refine⟨σ.set i (some (.ref Da)),H',I''.turned (t':=s''.toks) (fun b o hb e=>hh.extBut b o hb e) hn hL (.inr iS) hcl hpins,?_⟩;have aX:=MK (o:=.lst ds) dH hZ hD1;exact h.nx _ _ _ _ ((r.step ok aX).set i (.ref Da)) aX okp (hR.2 Da hst')
end
theorem J1 {K:aa}(r:aJ K H ds vs){N:List Str}{np:Nat}(h:ds.length=np):dY K H (start np N.length ds) (L2.start N vs):=by
 refine⟨by simp [start,L2.start,r.length,<-h],fun i d e=>?_⟩;unfold start at e;by_cases hi:i<ds.length;·rw[bu (by simpa using hi),bg,di]at e;obtain⟨d',e1,e2⟩:=e;cases e2;obtain⟨v,e3,e4⟩:=r.get e1;refine⟨v,?_,e4⟩;unfold L2.start;rw[bu (by rw[ab,<-r.length];exact hi),bg,e3];rfl
 ·rw[cw (by simpa using hi),jw]at e;split at e<;>cases e
theorem Gj {w:c9}{K:aa}{mg:Str->Option ae}{base:Heap}{G:Prog}{f:Nat}{a:Addr}{fd:h9}{ps:List Str}:fP P w K mg base dZ 0 a fd ps (fZ K (aH G 0) f):=by have no:∀ vs H Q E,¬fZ K (aH G 0) f vs H Q E:=fun vs H Q E ⟨_,_,_,_,_,h,_⟩=>h;exact⟨fun vs H Q E h=>absurd h (no vs H Q E),fun A outer s H args us vs Q E _ _ _ _ h=>absurd h (no vs H Q E)⟩
theorem dS:de "len" = some (.builtin "len"):=by decide +kernel
theorem nA:de "all" = some (.builtin "all"):=by decide +kernel
theorem LL:de "any" = some (.builtin "any"):=by decide +kernel
theorem Ji:de "sum" = some (.builtin "sum"):=by decide +kernel
theorem KY:de "isinstance" = some (.builtin "isinstance"):=by decide +kernel
theorem Nu:de "int" = some (.type "int"):=by decide +kernel
theorem VX:de "str" = some (.type "str"):=by decide +kernel
theorem RL:de "bool" = some (.type "bool"):=by decide +kernel
theorem BL:de "list" = some (.type "list"):=by decide +kernel
theorem gX:de "tuple" = some (.type "tuple"):=by decide +kernel
theorem Jp:de "set" = some (.type "set"):=by decide +kernel
theorem PH:de "reversed" = some (.type "reversed"):=by decide +kernel
noncomputable def NI:Ty->String|.int =>"int"|.str =>"str"|.bool =>"bool"|.list =>"list"|.tuple =>"tuple"|.dict =>"dict"|.err _ =>"?"
noncomputable def LF:Ty->Bool|.err _=>false|_=>true
section
variable {s:ag}{sub:Nat->Nat->Bool}
abbrev Jv (X:Cx)(s:ag)(u:ae)(t:Ty)(b:Bool):Prop:=∀(A:cp)(Q:ae->ag->Prop)(E:ae->ag->Prop),(∀ tk,Q (.bool b) { s with toks:=tk })->wpAny (model X.prog X.w) A (call (.builtin "isinstance") [u,.type (NI t)]) Q E s
theorem BZ {a:Addr}(I:Inv X pz σ H s)(h:∃ o,s.heap.get? a=some o/\o.cls=.type "list"){b:Bool}(e:Aae X.K (.type "list") (.type (NI t))=some b):Jv X s (.ref a) t b:=fun A Q E hQ =>gx PySem.W.kitx_list I.jS h e (fun z=>nomatch z) hQ
theorem Q8 {a:Addr}(I:Inv X pz σ H s)(h:∃ o,s.heap.get? a=some o/\o.cls=.type "tuple"){b:Bool}(e:Aae X.K (.type "tuple") (.type (NI t))=some b):Jv X s (.ref a) t b:=fun A Q E hQ =>gx PySem.W.kitx_tuple I.jS h e (fun z=>nomatch z) hQ
theorem VI {d:D}{u:ae}{P:Bool->Prop}(I:Inv X pz σ H s)(ok:aS X.K st H)(r:Rep X.K H d v)(rv:RelV v u)(ht:LF t=true)(h:jX sub d st t P):∃ b,P b/\Jv X s u t b:=by cases d with
 |non =>cases r.gC;cases rv;refine⟨false,by cases t<;>exact h,fun A Q E hQ=>gx PySem.W.kitx_none I.jS cy ?_ (fun z=>nomatch z) hQ⟩;cases t<;>first|rfl|cases ht
 |bl k =>cases r.fU;cases rv;cases t with|bool=>exact⟨true,h,fun A Q E hQ=>gx uy I.jS cy rfl (fun z=>nomatch z) hQ⟩|int=>exact⟨true,h,fun A Q E hQ=>gx uy I.jS cy rfl (fun z=>nomatch z) hQ⟩|err _=>cases ht|_=>exact⟨false,h,fun A Q E hQ=>gx uy I.jS cy rfl (fun z=>nomatch z) hQ⟩
 |int k =>cases r.int_inv;obtain⟨tk,rfl⟩:=rv;cases t with|int=>exact⟨true,h,fun A Q E hQ=>gx Ze I.jS cy rfl (fun z=>nomatch z) hQ⟩|err _=>cases ht|_=>exact⟨false,h,fun A Q E hQ=>gx Ze I.jS cy rfl (fun z=>nomatch z) hQ⟩
 |str k =>cases r.str_inv;obtain⟨tk,rfl⟩:=rv;cases t with|str=>exact⟨true,h,fun A Q E hQ=>gx Zf I.jS cy rfl (fun z=>nomatch z) hQ⟩|err _=>cases ht|_=>exact⟨false,h,fun A Q E hQ=>gx Zf I.jS cy rfl (fun z=>nomatch z) hQ⟩
 |tup ds =>obtain⟨a,vs,rfl,f,g⟩:=r.cA;cases rv;obtain⟨aD,_,⟨o,h1,h2,_⟩,_⟩:=I.tuple f;cases t with|tuple=>exact⟨true,h,Q8 I ⟨o,h1,h2⟩ rfl⟩|err _=>cases ht|_=>exact⟨false,h,Q8 I ⟨o,h1,h2⟩ rfl⟩
 |ref a =>
  cases r.cQ;cases rv;have key:∃ ds,st a=some (.lst ds):=by cases e:st a with
   |none=>exfalso;cases t<;>first|(simp only[jX,eQ,e]at h)|cases ht
   |some o =>cases o with
    |lst ds=>exact⟨ds,rfl⟩|dic _ _=>exact(ok a _ e).elim|ins _ _=>exfalso;cases t<;>first|(simp only[jX,eQ,e]at h)|cases ht
    |tab _ _=>exfalso;cases t<;>first|(simp only[jX,eQ,e]at h)|cases ht
    |fn _ _=>exfalso;cases t<;>first|(simp only[jX,eQ,e]at h)|cases ht
    |cod _=>exfalso;cases t<;>first|(simp only[jX,eQ,e]at h)|cases ht
  obtain⟨ds,e⟩:=key;obtain⟨vs,g1,_⟩:=ok.lst e;obtain⟨_,aD,n,_,_,e1⟩:=I.xF g1;have ho:∃ o,s.heap.get? a=some o/\o.cls=.type "list":=⟨_,e1,rfl⟩;cases t with|list=>simp only[jX]at h;rw[eI e]at h;exact⟨true,h,BZ I ho rfl⟩|err _=>cases ht|_=>simp only[jX]at h;rw[eI e]at h;exact⟨false,h,BZ I ho rfl⟩
 |bR ds =>obtain⟨a,vs,rfl,f,g⟩:=r.mJ;cases rv;obtain⟨aD,_,p,_⟩:=I.list f.sq;obtain⟨o,h1,h2,_⟩:=p.isList;cases t with|list=>exact⟨true,h,BZ I ⟨o,h1,h2⟩ rfl⟩|err _=>cases ht|_=>exact⟨false,h,BZ I ⟨o,h1,h2⟩ rfl⟩
 |dP _ _=>cases t<;>exact(show False from h).elim|exc c=>cases r
end
variable {t:String}
section
variable {sub:Nat->Nat->Bool}{a:Expr}{p2 pos:Pos}
def Vd (K:aa)(sub:Nat->Nat->Bool)(t:Ty):List V->Hp->L2.VK->Prop:=fun vs H Q=>∃ d v st R,vs=[v,.ty (NI t)]/\Rep K H d v/\aS K st H/\jX sub d st t (fun b=>R (.bl b) st)/\∀ v H',QD K H st R v H'->Q v H'
theorem An {t:Ty}(ht:LF t=true):xC X (.builtin "isinstance") (Vd X.K sub t):=by intro pz s σ H vs us Q I rv h;obtain⟨d,v,st,R,rfl,r,ok,h,hq⟩:=h;cases rv with|cons r1 r2=>cases r2 with|cons r2 r3 =>cases r3;cases r2;obtain⟨b,hb,hi⟩:=VI I ok r r1 ht h;exact hi X.A _ _ fun tk=>⟨.bl b,H,I.tok tk,rfl,hq _ _ (.here ok (.bl b) hb)⟩
theorem Oc {t:Ty}(ht:LF t=true)(hg:Gl X "isinstance")(hm:X.mg "isinstance" = none)(hg2:Gl X n)(hm2:X.mg n=none)(hv2:de n=some (.type (NI t)))(ha:PE X a (cF X.K (aG C sub E x)))(hn2:n ≠"__name__")(hd2:(n==("__debug__" : Str))=false)(he:aq [a,.Name n p2] X.env=(false,eval a X.env)::aq [.Name n p2] X.env)(he2:aq [.Name n p2] X.env=[(false,eval (.Name n p2) X.env)])(dO:(eh pos (aq [.Name n p2] X.env)).any (·.1)=false):PE X (.Call (.Name "isinstance" p) [a,.Name n p2] [] pos) (cF X.K (aG C sub E (.isi x [t]))) :=(OE (An (sub:=sub) ht) hg hm KY (HF ha (HF (Gb hg2 hm2 hv2 (v:=.ty (NI t)) rfl hn2 hd2) WS he2) he) (by decide) (by decide) he dO).imp fun σ H Q ⟨ap,st,R,r,ok,q,hq⟩=>by refine⟨ap,st,_,r,ok,q,fun v H1 ⟨d,aC,s1,aO,r1,q1⟩=>?_⟩;exact⟨d,v,aC,R,rfl,r1,aO,q1,fun v H' z=>hq _ _ (.after s1 z)⟩
theorem Sb {j:Nat}(h:kq t=⟨(W t).toArray⟩):PE X (.Constant (.str (kq t)) j pos) (cF X.K (aG C sub E (.c (.str (W t))))) :=wK Jy fun H=>by rw[h];exact .str _
end
structure JE (X:Cx)(C:bG)(sub:Nat->Nat->Bool)(E:XK)(e:Expr)(x:Ex):Prop where h:PE X e (cF X.K (aG C sub E x))
structure JT (X:Cx)(C:bG)(sub:Nat->Nat->Bool)(E:XK)(e:Expr)(x:Ex):Prop where h:PT X e (kW X.K (aG C sub E x))
structure JW (X:Cx)(C:bG)(sub:Nat->Nat->Bool)(E:XK)(e:Expr)(x:Ex):Prop where h:PW X e (kW X.K (aG C sub E x))
structure JA (X:Cx)(C:bG)(sub:Nat->Nat->Bool)(E:XK)(es:List Expr)(xs:List Ex):Prop where h:PA X es (kU X.K (bM C sub E xs))
structure JO (X:Cx)(C:bG)(sub:Nat->Nat->Bool)(E:XK)(e:Option Expr)(xs:List Ex):Prop where h:PO X e (HU X.K (bM C sub E xs))
structure JI (X:Cx)(C:bG)(sub:Nat->Nat->Bool)(E:XK)(tg e:Expr)(k:Option IK)(xs:List Ex):Prop where h:PI X tg e (xO X.K fun σ st M=>bM C sub E xs σ st fun ds aC=>gZ k ds aC fun as ys=>M as ys aC)
structure JG (X:Cx)(C:bG)(sub:Nat->Nat->Bool)(E:XK)(tg:Expr)(t:Tg):Prop where h:PG X tg (OV X.K (oF C sub E t))
structure JN (X:Cx)(tg:Expr)(i:Nat):Prop where h:PG X tg (GB i)
structure VG (X:Cx)(es:List Expr)(is:List Nat):Prop where h:FT X es (wM is)
structure JB (X:Cx)(tg:Expr)(one:Bool)(n:Nat):Prop where h:PG X tg (QY X.K one n)
structure JQ (X:Cx)(C:bG)(sub:Nat->Nat->Bool)(E:XK)(es:List Expr)(xs:List Ex):Prop where h:JU X es (yT X.K (iZ C sub E xs))
structure JS (X:Cx)(C:bG)(sub:Nat->Nat->Bool)(s:Stmt)(x:Sx):Prop where h:PS X s (iX X.K (wpS C sub x))
structure vO (X:Cx)(C:bG)(sub:Nat->Nat->Bool)(ss:List Stmt)(xs:List Sx):Prop where h:mG X ss (iX X.K (dD C sub xs))
structure pB (X:Cx)(C:bG)(n:Str)(fid:Nat):Prop where h:∃ k f fd ps,fP X.prog X.w X.K X.mg X.base dZ k f fd ps (fZ X.K C fid)/\dM k X.A/\X.mg n=some (.ref f)/\fx X.K (.ref f)=true/\Binds X.K fd ps []
def GC (K:aa)(mg:Str->Option ae)(n:Str)(d:D):Prop:=∃ u v,mg n=some u/\RelV v u/\∀ H,Rep K H d v
variable {o:sY}{sxs:List Sx}{kk:Option IK}
section
variable {sub:Nat->Nat->Bool}{a c o:Expr}{z:Ex}{p2 pos:Pos}{s:Stmt}
theorem jv (i:Nat)(hN:X.N[i]? = some n:=by kernel_rfl)(hv:X.env.scope.names.lookup n=some .local:=by kernel_rfl)(hd:(n==("__debug__" : Str))=false:=by kernel_rfl) (hcd:(n==("__classdict__" : Str))=false:=by kernel_rfl):JE X C sub E (.Name n pos) (.v i):=⟨TJ (pv i hN (.inl hv) hd hcd)⟩
theorem bN (i:Nat)(hN:X.N[i]? = some n:=by kernel_rfl)(hv:X.env.scope.names.lookup n=some .cell:=by kernel_rfl)(hd:(n==("__debug__" : Str))=false:=by kernel_rfl) (hcd:(n==("__classdict__" : Str))=false:=by kernel_rfl):JE X C sub E (.Name n pos) (.v i):=⟨TJ (pv i hN (.inr (.inl hv)) hd hcd)⟩
theorem ji {i:Int}:JE X C sub E (.Constant (.int i) k pos) (.c (.int i)):=⟨wK Je fun _=>.int _⟩
theorem jb {i:Bool}:JE X C sub E (.Constant (.bool i) k pos) (.c (.bl i)):=⟨wK Qi fun _=>.bl _⟩
theorem jn:JE X C sub E (.Constant .none k pos) (.c .non):=⟨wK Ka fun _=>.non⟩
theorem js (h:kq t=⟨(W t).toArray⟩:=by kernel_rfl):JE X C sub E (.Constant (.str (kq t)) k pos) (.c (.str (W t))):=⟨Sb h⟩
theorem jg {d:D}(h:GC X.K X.mg n d)(hg:X.env.kindOf n=some .globalImplicit:=by kernel_rfl)(hd:(n==("__debug__" : Str))=false:=by kernel_rfl):JE X C sub E (.Name n pos) (.c d):=⟨let⟨u,v,h1,h2,h3⟩:=h;wK (Ck hg h1 h2 hd) h3⟩
theorem ja (h:JE X C sub E e x)(hs:JA X C sub E es xs)(eV:aq (e::es) X.env=(false,eval e X.env)::aq es X.env:=by kernel_rfl):JA X C sub E (e::es) (x::xs):=⟨Mz h.h hs.h eV⟩
theorem jt (m:bU C C)(hs:JA X C sub E es xs)(hl:xs.length<=bE:=by decide):JE X C sub E (.Tuple es k pos) (.tup xs):=⟨Pj m hs.h hl⟩
theorem vQ {o:sY}(u:X.A.units+180<cLine)(ha:JE X C sub E a x)(hb:JE X C sub E b y)(hm:me (qS o) b=false:=by kernel_rfl):JE X C sub E (.Compare a [qS o] [b] pos) (.cmp o x y):=⟨Rf u ha.h hb.h hm⟩
theorem eE {o:sY}(u:X.A.units+180<cLine)(ha:JE X C sub E a x)(hb:JE X C sub E b y)(hm:me (qS o) b=false:=by kernel_rfl):JT X C sub E (.Compare a [qS o] [b] pos) (.cmp o x y):=⟨Mr u ha.h hb.h hm⟩
theorem Iu {o o':sY}(u:X.A.units+180<cLine)(ha:JE X C sub E a x)(hb:JE X C sub E b y)(hc:JE X C sub E c z)(hm:lastMarks [qS o,qS o'] [b,c]=false:=by kernel_rfl):JE X C sub E (.Compare a [qS o,qS o'] [b,c] pos) (.chain o o' x y z):=⟨Fm u ha.h hb.h hc.h hm⟩
theorem tp (h:JE X C sub E e x)(he:∀ whole,Yw e X.env whole=(do let v <-whole;pe e.pos;ky [v] (truthy v)):=by intro _;rfl):JT X C sub E e x:=⟨YW h.h he⟩
theorem bH (ha:JE X C sub E a x)(hb:JE X C sub E b y)(hp:wX b:=by intro _ _;rfl):JE X C sub E (.Subscript a b pos) (.ix x y):=⟨Xa ha.h hb.h hp⟩
theorem cE {fid:Nat}(h:pB X C n fid)(ha:JA X C sub EF (e::es) xs)(hg:X.env.kindOf n=some .globalImplicit:=by kernel_rfl)(hdb:(n==("__debug__" : Str))=false:=by kernel_rfl)(he:aq (e::es) X.env=(false,eval e X.env)::aq es X.env:=by kernel_rfl)(dO:(eh pos (aq es X.env)).any (·.1)=false:=by kernel_rfl): JE X C sub EF (.Call (.Name n p) (e::es) [] pos) (.call fid xs):=⟨let⟨k,f,fd,ps,h1,h2,h3,h4,h5⟩:=h.h;Ic h1 h2 hg h3 h4 h5 K7 ha.h hdb he dO⟩
theorem dW {f:BI}{id:String}(hW:zD X (.builtin id) (iU f))(hv:de n=some (.builtin id))(hm:X.mg n=none)(ha:JA X C sub E (e::es) xs)(hg:X.env.kindOf n=some .globalImplicit:=by kernel_rfl)(hn:n ≠"__name__":=by decide)(hdb:(n==("__debug__" : Str))=false:=by kernel_rfl)(he:aq (e::es) X.env=(false,eval e X.env)::aq es X.env:=by kernel_rfl)(dO:(eh pos (aq es X.env)).any (·.1)=false:=by kernel_rfl):JE X C sub E (.Call (.Name n p) (e::es) [] pos) (.bi f xs):=⟨(Qz hW hg hm hv ha.h hn hdb he dO).imp fun σ H Q ⟨ap,st,R,r,ok,q,hq⟩=>⟨ap,st,R,r,ok,q,hq⟩⟩
theorem sN {f:BI}{id:String}(hW:zD X (.type id) (iU f))(hv:de n=some (.type id))(hm:X.mg n=none)(ha:JA X C sub E (e::es) xs)(hg:X.env.kindOf n=some .globalImplicit:=by kernel_rfl)(hn:n ≠"__name__":=by decide)(hdb:(n==("__debug__" : Str))=false:=by kernel_rfl)(he:aq (e::es) X.env=(false,eval e X.env)::aq es X.env:=by kernel_rfl)(dO:(eh pos (aq es X.env)).any (·.1)=false:=by kernel_rfl):JE X C sub E (.Call (.Name n p) (e::es) [] pos) (.bi f xs):=⟨(Il hW hg hm hv ha.h hn hdb he dO).imp fun σ H Q ⟨ap,st,R,r,ok,q,hq⟩=>⟨ap,st,R,r,ok,q,hq⟩⟩
theorem FQ {t:Ty}(hv:de n=some (.type (NI t)))(hm:X.mg "isinstance" = none)(hm2:X.mg n=none)(ha:JE X C sub E a x)(ht:LF t=true:=by kernel_rfl)(hg:X.env.kindOf "isinstance" = some .globalImplicit:=by kernel_rfl)(hg2:X.env.kindOf n=some .globalImplicit:=by kernel_rfl)(hn2:n ≠"__name__":=by decide)(hd2:(n==("__debug__" : Str))=false:=by kernel_rfl)(he:aq [a,.Name n p2] X.env=(false,eval a X.env)::aq [.Name n p2] X.env:=by kernel_rfl)(he2:aq [.Name n p2] X.env=[(false,eval (.Name n p2) X.env)]:=by kernel_rfl)(dO:(eh pos (aq [.Name n p2] X.env)).any (·.1)=false:=by kernel_rfl):JE X C sub E (.Call (.Name "isinstance" p) [a,.Name n p2] [] pos) (.isi x [t]):=⟨Oc ht hg hm hg2 hm2 hv ha.h hn2 hd2 he he2 dO⟩
theorem tI (ho:JE X C sub E o x)(ha:JA X C sub E (e::es) xs)(kY:gu o "append" X.env (eval o X.env)=eval o X.env:=by kernel_rfl)(vN:((eh pos (aq (e::es) X.env)).all (fun x=>!x.1)&&(pj pos (km [] X.env)).all (fun x=>x.1.isSome)&&decide ((e::es).length+([]:List sh).length+(if([]:List sh).isEmpty then 0 else 1)<30))=true:=by kernel_rfl)(kZ:(apos.endLine==pos.line)=true:=by kernel_rfl)(hs:aq (e::es) X.env=(false,eval e X.env)::aq es X.env:=by kernel_rfl)(tQ:(eh pos (aq es X.env)).any (·.1)=false:=by kernel_rfl):JE X C sub E (.Call (.Attribute o "append" apos) (e::es) [] pos) (.cM .append x xs):=⟨XI (fun z=>nomatch z) PySem.F.slot_list_append PySem.F.type_list_append UZ ho.h ha.h kY vN kZ hs tQ⟩
theorem Tp (ho:JE X C sub E o x)(ha:JA X C sub E (e::es) xs)(kY:gu o "extend" X.env (eval o X.env)=eval o X.env:=by kernel_rfl)(vN:((eh pos (aq (e::es) X.env)).all (fun x=>!x.1)&&(pj pos (km [] X.env)).all (fun x=>x.1.isSome)&&decide ((e::es).length+([]:List sh).length+(if([]:List sh).isEmpty then 0 else 1)<30))=true:=by kernel_rfl)(kZ:(apos.endLine==pos.line)=true:=by kernel_rfl)(hs:aq (e::es) X.env=(false,eval e X.env)::aq es X.env:=by kernel_rfl)(tQ:(eh pos (aq es X.env)).any (·.1)=false:=by kernel_rfl):JE X C sub E (.Call (.Attribute o "extend" apos) (e::es) [] pos) (.cM .extend x xs):=⟨XI (fun z=>nomatch z) PySem.F.slot_list_extend PySem.F.type_list_extend WC ho.h ha.h kY vN kZ hs tQ⟩
theorem Xu (ho:JE X C sub E o x)(kY:gu o "pop" X.env (eval o X.env)=eval o X.env:=by kernel_rfl)(kZ:(apos.endLine==pos.line)=true:=by kernel_rfl): JE X C sub E (.Call (.Attribute o "pop" apos) [] [] pos) (.cM .pop x []):=⟨Gn (fun z=>nomatch z) PySem.F.slot_list_pop PySem.F.type_list_pop Lv ho.h kY kZ⟩
theorem sx (m:bU C C)(h:JE X C sub EF e x)(hs:my e none pos.line X.env=pure false:=by kernel_rfl):JS X C sub (.Expr e pos) (.ex x):=⟨Vn m h.h hs⟩
theorem sn (m:bU C C)(nd:X.N.Nodup)(he:JE X C sub EF e x)(hi:X.N[i]? = some n:=by kernel_rfl)(hx:X.env.scope.names.lookup n=some .local:=by kernel_rfl)(hs:qm [.Name n p] e pos.line X.env=pure false:=by kernel_rfl)(hw:qo [.Name n p] e X.env=pure none:=by kernel_rfl)(h1:(fu [.Name n p] X.env).map (·.2)=[nj (.Name n p) X.env]:=by kernel_rfl):JS X C sub (.Assign [.Name n p] e pos) (.asg (.nm i) x):=⟨SD m he.h (YB (wU nd hi (.inl hx) (.inr hx))) hs hw h1⟩
theorem vY (m:bU C C)(nd:X.N.Nodup)(he:JE X C sub EF e x)(hi:X.N[i]? = some n:=by kernel_rfl)(hx:X.env.scope.names.lookup n=some .cell:=by kernel_rfl)(hf:X.fn n=true:=by kernel_rfl)(hs:qm [.Name n p] e pos.line X.env=pure false:=by kernel_rfl)(hw:qo [.Name n p] e X.env=pure none:=by kernel_rfl)(h1:(fu [.Name n p] X.env).map (·.2)=[nj (.Name n p) X.env]:=by kernel_rfl):JS X C sub (.Assign [.Name n p] e pos) (.asg (.nm i) x):=⟨SD m he.h (YB (wU nd hi (.inr hx) (.inl hf))) hs hw h1⟩
theorem gn (nd:X.N.Nodup)(hi:X.N[i]? = some n:=by kernel_rfl)(hx:X.env.scope.names.lookup n=some .local:=by kernel_rfl):JN X (.Name n p) i:=⟨wU nd hi (.inl hx) (.inr hx)⟩
theorem Xj (nd:X.N.Nodup)(hi:X.N[i]? = some n:=by kernel_rfl)(hx:X.env.scope.names.lookup n=some .cell:=by kernel_rfl)(hf:X.fn n=true:=by kernel_rfl):JN X (.Name n p) i:=⟨wU nd hi (.inr hx) (.inl hf)⟩
theorem gc (h1:JN X e i)(h2:VG X es is)(hs:(fu (e::es) X.env).map (·.2)=nj e X.env::(fu es X.env).map (·.2):=by kernel_rfl):VG X (e::es) (i::is):=⟨Du h1.h h2.h hs⟩
theorem gt (h:VG X es is)(hc:X.calm=true:=by kernel_rfl)(hn:(fu es X.env).length=is.length:=by kernel_rfl)(eV:(fu es X.env).findIdx? (·.1)=none:=by kernel_rfl):JG X C sub E (.Tuple es k pos) (.tp is):=⟨Vc hc h.h hn eV⟩
theorem gi (ho:JE X C sub E o x)(hi:JE X C sub E a y)(ha:∀ v,nj (.Subscript o a pos) X.env v=(do
  let ov <-ky [v] (eval o X.env)let iv <-ky [v,ov] (eval a X.env)pe pos
  ky [v,ov,iv] (Aay ov iv v)release [v,ov,iv] []):=by intro _;rfl):JG X C sub E (.Subscript o a pos) (.ix x y):=⟨Wj ho.h hi.h ha⟩
theorem sg {t:Tg}(m:bU C C)(he:JE X C sub EF e x)(hg:JG X C sub EF tg t) (hs:qm [tg] e pos.line X.env=pure false:=by kernel_rfl)(hw:qo [tg] e X.env=pure none:=by kernel_rfl)(h1:(fu [tg] X.env).map (·.2)=[nj tg X.env]:=by kernel_rfl):JS X C sub (.Assign [tg] e pos) (.asg t x):=⟨SD m he.h hg.h hs hw h1⟩
theorem sw (m:bU C C)(hc:JT X C sub EF c x)(hb:vO X C sub ss sxs)(hp:sv (model X.prog X.w) X.A X.env X.xe:=by exact w6):JS X C sub (.While c ss [] pos) (.whl x sxs):=⟨Eb m hp hc.h hb.h⟩
theorem sf {t:Tg}(m:bU C C)(hi:JI X C sub EF tg e kk xs)(hg:JG X C sub EF tg t)(hb:vO X C sub ss sxs)(hp:sv (model X.prog X.w) X.A X.env X.xe:=by exact w6)(hc:X.calm=true:=by kernel_rfl)(hs:∀ x,gq e X.env x=pure x:=by intro _;rfl):JS X C sub (.For tg e ss [] pos) (.jA t kk xs sxs):=⟨Bp m hp hc hi.h hg.h hb.h hs⟩
theorem uN (m:bU C C)(nd:X.N.Nodup)(hi:JI X C sub EF (.Name n p) e kk xs)(hb:vO X C sub ss sxs)(hN:X.N[i]? = some n:=by kernel_rfl)(hx:X.env.scope.names.lookup n=some .local:=by kernel_rfl)(hp:sv (model X.prog X.w) X.A X.env X.xe:=by exact w6)(hc:X.calm=true:=by kernel_rfl)(hs:∀ x,gq e X.env x=pure x:=by intro _;rfl):JS X C sub (.For (.Name n p) e ss [] pos) (.jA (.nm i) kk xs sxs):=⟨Bp m hp hc hi.h (YB (wU nd hN (.inl hx) (.inr hx))) hb.h hs⟩
theorem NA (m:bU C C)(hm:X.mg "range" = none)(ha:JA X C sub E [a] [x])(hg:X.env.kindOf "range" = some .globalImplicit:=by kernel_rfl)(hs:aq [a] X.env=[(false,eval a X.env)]:=by kernel_rfl): JI X C sub E tg (.Call (.Name "range" p) [a] [] pos) (some .range) [x]:=⟨Cz m hg hm ha.h hs⟩
theorem Tt {cl:Nat}(m:bU C C):JS X C sub s (.rais cl [.c (.str (W t))]):=⟨Ib m fun ap st h=>h⟩
end
variable {op:BoolOp}
section
variable {sub:Nat->Nat->Bool}{a c o:Expr}{rest:List Expr}{z:Ex}{p2 pos:Pos}{s:Stmt}{bs:List Stmt}{sx1:Sx}
theorem an:JA X C sub E [] []:=⟨Ti⟩
theorem jl (hs:JA X C sub E es xs):JE X C sub E (.List es pos) (.lst xs):=⟨Qg hs.h⟩
theorem cV {op:wQ}(ha:JE X C sub E a x)(hb:JE X C sub E b y):JE X C sub E (.BinOp a (La op) b pos) (.bin op x y):=⟨Pl ha.h hb.h⟩
theorem Cd (ha:JE X C sub E a x):JE X C sub E (.UnaryOp .Not a pos) (.not_ x):=⟨Qa ha.h⟩
theorem oW (ha:JE X C sub E a x):JE X C sub E (.BoolOp op [a] pos) x:=⟨Sl ha.h⟩
theorem oP (ha:JE X C sub E a x)(hb:JE X C sub E (.BoolOp .And (b::rest) pos) y):JE X C sub E (.BoolOp .And (a::b::rest) pos) (.and_ x y):=⟨Si ha.h hb.h⟩
theorem As (ha:JE X C sub E a x)(hb:JE X C sub E (.BoolOp .Or (b::rest) pos) y):JE X C sub E (.BoolOp .Or (a::b::rest) pos) (.or_ x y):=⟨Vv ha.h hb.h⟩
theorem on:JO X C sub E none []:=⟨Fj⟩
theorem os (h:JE X C sub E e x):JO X C sub E (some e) [x]:=⟨Ek h.h⟩
theorem P6 {lo hi:Option Expr}{xl xh:List Ex}(ha:JE X C sub E a x)(hl:JO X C sub E lo xl)(hh:JO X C sub E hi xh):JE X C sub E (.Subscript a (.Slice lo hi none p2) pos) (.sl x xl xh):=⟨Uq ha.h hl.h hh.h⟩
theorem tS (h:JT X C sub E e x):JT X C sub E (.UnaryOp .Not e pos) (.not_ x):=⟨Jm h.h⟩
theorem vT (h:JW X C sub E e x):JT X C sub E e x:=⟨h.h.pt⟩
theorem wG (h:JT X C sub E e x):JW X C sub E (.BoolOp op [e] pos) x:=⟨Jq h.h⟩
theorem Bt (m:bU C C)(ha:JT X C sub E a x)(hb:JW X C sub E (.BoolOp .And (b::rest) pos) y):JW X C sub E (.BoolOp .And (a::b::rest) pos) (.and_ x y):=⟨Hw m ha.h hb.h⟩
theorem zV (m:bU C C)(ha:JT X C sub E a x)(hb:JW X C sub E (.BoolOp .Or (b::rest) pos) y):JW X C sub E (.BoolOp .Or (a::b::rest) pos) (.or_ x y):=⟨Qm m ha.h hb.h⟩
theorem iv (h:JE X C sub E e x):JI X C sub E tg e none [x]:=⟨Kr h.h⟩
theorem qn:JQ X C sub E [] []:=⟨My⟩
theorem qc (h:JT X C sub E e x)(hs:JQ X C sub E es xs):JQ X C sub E (e::es) (x::xs):=⟨Dy h.h hs.h⟩
theorem nn:VG X [] []:=⟨Lc⟩
theorem b1 (h:JN X tg 0):JB X tg true 1:=⟨h.h⟩
theorem bt {q:Nat}(h:VG X es is)(hi:is=ay q:=by rfl)(hc:X.calm=true:=by kernel_rfl)(hn:(fu es X.env).length=q:=by kernel_rfl)(eV:(fu es X.env).findIdx? (·.1)=none:=by kernel_rfl):JB X (.Tuple es k pos) false q:=⟨by subst hi;exact VE hc h.h hn eV⟩
theorem c0:vO X C sub [] []:=⟨Rr⟩
theorem cc (h1:JS X C sub s sx1)(h2:vO X C sub ss sxs):vO X C sub (s::ss) (sx1::sxs):=⟨Hu h1.h h2.h⟩
theorem eO (m:bU C C)(hc:JT X C sub EF c x)(ha:vO X C sub as ax)(hb:vO X C sub bs bx):JS X C sub (.If c as bs pos) (.iff x ax bx):=⟨Ve m hc.h ha.h hb.h⟩
theorem cC (m:bU C C)(h:JE X C sub EF e x):JS X C sub (.Return (some e) pos) (.ret x):=⟨Ow m h.h⟩
theorem Xo:JS X C sub (.Return none pos) (.ret (.c .non)):=⟨Lm⟩
end
section
variable {sub:Nat->Nat->Bool}{xe:Ex}{pos:Pos}{scope:Scope}{cn:List Str}{aL:List Nat}{one:Bool}{k:Option IK}
theorem Kv (m:bU C C)(S:lF X scope cn aL)(hi:JI X C sub EF tg iter k aD)(hg:∀ fp s H Ca,JB (lQ X scope own cn fp s H Ca) tg one own.length)(hts:∀ fp s H Ca,JQ (lQ X scope own cn fp s H Ca) C sub EF ifs lJ)(he:∀ fp s H Ca,JE (lQ X scope own cn fp s H Ca) C sub EF elt xe)(hc:X.calm=true:=by kernel_rfl)(nS:one=true->own.length=1:=by decide)(hs:∀ x,gq iter X.env x=pure x:=by intro _;rfl):JE X C sub EF (.ListComp elt [⟨tg,iter,ifs,0⟩] scope pos) (.comp own.length aL (ay own.length) one k aD lJ xe) :=⟨Np m S hc nS hi.h (fun a b c d=>(hg a b c d).h) (fun a b c d=>(hts a b c d).h) (fun a b c d=>(he a b c d).h) hs⟩
theorem MM {y:Str}{py spos:Pos}(m:bU C C)(nd:X.N.Nodup)(S:lF X scope cn aL)(hi:JI X C sub EF tg iter k aD)(hg:∀ fp s H Ca,JB (lQ X scope own cn fp s H Ca) tg one own.length)(hts:∀ fp s H Ca,JQ (lQ X scope own cn fp s H Ca) C sub EF ifs lJ)(he:∀ fp s H Ca,JE (lQ X scope own cn fp s H Ca) C sub EF elt xe)(hy:X.N[i]? = some y:=by kernel_rfl)(hx:X.env.scope.names.lookup y=some .local:=by kernel_rfl)(hsw:my (.ListComp elt [⟨tg,iter,ifs,0⟩] scope pos) (some (.Name y py)) spos.line X.env=pure true:=by kernel_rfl)(hc:X.calm=true:=by kernel_rfl)(nS:one=true->own.length=1:=by decide)(hs:∀ x,gq iter X.env x=pure x:=by intro _;rfl):JS X C sub (.Assign [.Name y py] (.ListComp elt [⟨tg,iter,ifs,0⟩] scope pos) spos) (.asg (.nm i) (.comp own.length aL (ay own.length) one k aD lJ xe)) :=⟨Ln m S hc nS hi.h (fun a b c d=>(hg a b c d).h) (fun a b c d=>(hts a b c d).h) (fun a b c d=>(he a b c d).h) nd hy (.inl hx) (.inr hx) hsw hs⟩
end
noncomputable def TB (k:Option vh):Bool:=k==some .cell||k==some .free
noncomputable def SK (names on:List (Str×NameKind))(N cn:List Str)(aL:List Nat):Bool :=names.all (fun y=>!(y.2 == .cell)&&(!(y.2 == .local)||names.lookup y.1==some .local)&&(!(y.2 == .free)||TB (on.lookup y.1)))&&(cn.length==aL.length) &&(cn.zip aL).all (fun p=>names.lookup p.1==some .free&&N[p.2]? == some p.1&&TB (on.lookup p.1))
theorem QV {k:Option vh}(h:TB k=true):k=some .cell∨k=some .free:=by
 unfold TB at h;rw[rf]at h;rcases h with h|h;·exact .inl (by simpa using h)
 ·exact .inr (by simpa using h)
theorem Xr {scope:Scope}{cn:List Str}{aL:List Nat}{on:List (Str×NameKind)}{N:List Str}(h:SK scope.names on N cn aL=true)(hE:X.env.scope.names=on:=by kernel_rfl)(hN:X.N=N:=by kernel_rfl)(hk:scope.kind=.function:=by kernel_rfl):lF X scope cn aL:=by
 unfold SK at h;rw[bc,bc]at h;obtain⟨⟨h1,h2⟩,h3⟩:=h;have h1:=List.all_eq_true.mp h1;have hl:cn.length=aL.length:=by simpa using h2
 refine⟨hk,fun y hy=>?_,fun y hy e=>?_,fun y hy e=>?_,hl,fun j y e=>?_⟩;·have:=h1 y hy;simp only[bc]at this;intro z;rw[z]at this;simp at this
 ·have:=h1 y hy;simp only[bc,rf]at this;rcases this.1.2 with q|q;·rw[e]at q;simp at q
  ·simpa using q
 ·have:=h1 y hy;simp only[bc,rf]at this;rcases this.2 with q|q;·rw[e]at q;simp at q
  ·show X.env.scope.names.lookup y.1=_∨X.env.scope.names.lookup y.1=_;rw[hE];exact QV q
 ·obtain⟨hj,ej⟩:=List.getElem?_eq_some_iff.mp e;have hj':j<aL.length:=by omega
  have hm:(y,aL[j])∈cn.zip aL:=by rw[<-ej];exact List.mem_iff_getElem.mpr ⟨j,by simp;omega,by simp⟩
  have:=List.all_eq_true.mp h3 _ hm;simp only[bc]at this;refine⟨by simpa using this.1.1,aL[j],ai hj',by rw[hN];simpa using this.1.2,?_⟩;show X.env.scope.names.lookup y=_∨X.env.scope.names.lookup y=_;rw[hE];exact QV this.2
end L3
namespace L3
theorem LC {k:Nat}{A:PySem.Around}(hr:L2.dM k A):A.units+180<yd:=by have:=hr.un;omega
end L3
end
section
namespace PySem
open Sem (wp)
variable {fp wr:List Addr}{P:Nat->ae->Prop}{T:String}
section
variable {prog:b7}{w:c9}{A:cp}{s:ag}{R:Aaz->ag->Prop}{I:Addr}{n:Nat}{St:Nat->Heap->Prop}
def AM (prog:b7)(w:c9)(I:Addr)(St:Nat->Heap->Prop):Prop:=∀(A:cp)(s:ag)(Q:Bool->ag->Prop)(E:ae->ag->Prop),St 0 s.heap->(∀ b tk,Q b { s with toks:=tk })->wpAny (model prog w) A (mr (.ref I)) Q E s
theorem U6 (W:Walks prog w A.in1 I fp wr n P St)(hn:n<=sizeLine)(hT:∀ h,St 0 h->∃ o,h.get? I=some o/\o.cls=.type T)(h2:(gp T==gp "list")=false)(h3:(gp T==gp "tuple")=false)(hint:AM prog w I St)(S:Addr)(res:ae)(tt:Nat)(eV:St 0 s.heap)(hSf:S∉fp)(hI:I∈fp)(hS:s.heap.get? S=some { cls:=.type "list", data:=.seq #[] tt })(hR:∀ h' tk pH c',(∀ b o,b∉S::wr->s.heap.get? b=some o->h'.get? b=some o)->h'.get? S=some { cls:=.type "list", dict:=none,data:=.seq pH c',slots:=#[] }->Zq P pH n->R (.ok (.ret res)) { s with heap:=h',toks:=tk }): wpAny (model prog w) A.in1 (j6 (.ref S) (.ref I) res) (fun fin s'=>match fin with|.done f=>R (.ok f) s'|.again c'=>c'.quiet=true/\lz (model prog w) A c' R s') (fun e s'=>R (.error e) s') s:=by
 have hSI:S≠I:=fun e=>hSf (e▸hI);have key:∀(h:Heap)(ii tk:Nat),St 0 h->(∀ b o,b≠S->s.heap.get? b=some o->h.get? b=some o)->h.get? S=some { cls:=.type "list", data:=.seq #[] ii } -> lz (model prog w) A (.builtin "list.extend.loop" ⟨[.ref S,.ref I,res],[]⟩) R { s with heap:=h,toks:=tk }:=by intro h ii tk wS hk ww;refine codeAny_extend_loopS W.toS hn S hSf res n 0 _ #[] ii rfl (dt _) wS ww (ItemsOf.nil _) fun s' pH c' hm hS' hacc=>?_;rw[Moved.eq_with hm];exact hR s'.heap s'.toks pH c' (fun b o hb e=>hm.heap b o hb (hk b o (fun z=>hb (by rw[z];exact dh ..)) e)) hS' hacc
 unfold j6;refine af (wg (T:=T) (hT _ eV) ?_);have h1:vc (.ref S) (.ref I)=false:=by simp [vc,hSI]
 simp only[h1,h2,h3,yx,ak,if_false];refine af (W.self 0 _ _ _ eV ?_);refine af (g7 (hint _ _ _ _ eV fun b tk=>?_));have touch:∀{Q:Fin->ag->Prop}{E:ae->ag->Prop}{k:Unit->Sem Fin},(∀ h' , St 0 h'->(∀ b o,b≠S->s.heap.get? b=some o->h'.get? b=some o)->(∃ ii,h'.get? S=some { cls:=.type "list", data:=.seq #[] ii })->wpAny (model prog w) A.in1 (k ()) Q E { s with heap:=h',toks:=tk }) -> wpAny (model prog w) A.in1 (rule "list.extend.makes-room" >>= fun _=>Builtin.List.listTouch (.ref S) >>= k) Q E { s with toks:=tk }:=fun{Q E k} hk=>by refine af (wo (af ?_));show wpAny _ A.in1 (Aav S (·.push .none) >>= fun _=>Aav S (·.pop)) _ _ _;refine af (rg hS rfl ?_);have re:=jj (kc (·.push j0)) hS rfl;refine rg (hz:=by seq_fits) re rfl ?_;have wT:=jj (kc (·.pop)) re rfl;have oth:∀ b o,b≠S->s.heap.get? b=some o->((s.heap.update S (kc (·.push j0))).update S (kc (·.pop))).get? b=some o :=fun b o hb e=>(gf _ _ (fj hb)).trans ((gf _ _ (fj hb)).trans e);exact hk _ (W.frame _ _ _ eV fun b hb o e=>oth b o (fun h=>hSf (h▸hb)) e) oth ⟨_,wT⟩
 refine du (fun _=>?_) (fun _=>ar ⟨plainId_quiet yp _,key _ tt _ eV (fun b o _ e=>e) hS⟩);refine touch fun h' a b ⟨ii,c⟩=>ar ⟨plainId_quiet yp _,key _ ii _ a b c⟩
theorem LZ (W:Walks prog w A.in1 I fp wr n P St)(hn:n<=sizeLine)(hT:∀ h,St 0 h->∃ o,h.get? I=some o/\o.cls=.type T)(h2:(gp T==gp "list")=false)(h3:(gp T==gp "tuple")=false)(hint:AM prog w I St)(S:Addr)(eV:St 0 s.heap)(hSf:S∉fp)(hI:I∈fp)(hS:s.heap.get? S=some { cls:=.type "list", data:=.seq #[] })(hR:∀ h' tk pH c',(∀ b o,b∉S::wr->s.heap.get? b=some o->h'.get? b=some o)->h'.get? S=some { cls:=.type "list", dict:=none,data:=.seq pH c',slots:=#[] }->Zq P pH n->R (.ok (.ret .none)) { s with heap:=h',toks:=tk }):wpAny (model prog w) A.in1 (Builtin.«list.__init__» ⟨[.ref S,.ref I],[]⟩) (fun fin s'=>match fin with|.done f=>R (.ok f) s'|.again c'=>c'.quiet=true/\lz (model prog w) A c' R s') (fun e s'=>R (.error e) s') s:=by show wpAny _ A.in1 (do let old <-wt (.ref S);Builtin.List.listUpdate (.ref S) (fun _=>#[]);letGo old.toList.reverse;j6 (.ref S) (.ref I) .none) _ _ s;refine af ?_;unfold wt;refine af (wpAny_seqItems hS rfl (ar ?_));show wpAny _ A.in1 (Aav S (fun _=>#[]) >>= fun _=>letGo (#[]:Array ae).toList.reverse >>= fun _=>j6 (.ref S) (.ref I) .none) _ _ s;refine af (rg hS rfl ?_);have re:=jj (kc (fun _=>(#[]:Array ae))) hS rfl;have oth:∀ b o,b≠S->s.heap.get? b=some o->(s.heap.update S (kc (fun _=>(#[]:Array ae)))).get? b=some o :=fun b o hb e=>(gf _ _ (fj hb)).trans e;refine af (wpAny_letGo ?_);refine U6 W hn hT h2 h3 hint S .none _ (W.frame _ _ _ eV fun b hb o e=>oth b o (fun h=>hSf (h▸hb)) e) hSf hI re fun h' tk pH c' hm hS' hacc=>?_;exact hR h' tk pH c' (fun b o hb e=>hm b o hb (oth b o (fun z=>hb (by rw[z];exact dh ..)) e)) hS' hacc
end
section
variable {prog:b7}{w:c9}{A:cp}{E:ae->ag->Prop}{s:ag}{I:Addr}{n:Nat}{St:Nat->Heap->Prop}
theorem AS {Q:ae->ag->Prop}(W:Walks prog w A.in1.in1 I fp wr n P St)(hn:n<=sizeLine)(hT:∀ h,St 0 h->∃ o,h.get? I=some o/\o.cls=.type T)(h2:(gp T==gp "list")=false)(h3:(gp T==gp "tuple")=false)(hint:AM prog w I St)(eV:St 0 s.heap)(hfp:∀ b∈fp,b<s.heap.objs.size)(hI:I∈fp)(hQ:∀ h' tk pH c',(∀ b o,b∉wr->s.heap.get? b=some o->h'.get? b=some o)->h'.get? s.heap.objs.size=some { cls:=.type "list", dict:=none,data:=.seq pH c',slots:=#[] }->Zq P pH n->Q (.ref s.heap.objs.size) { s with heap:=h',toks:=tk }): wpAny (model prog w) A (call (.type "list") [.ref I]) Q E s:=by
 have hSf:s.heap.objs.size∉fp:=fun hm=>fy _ (hfp _ hm);refine callType_codes (Q₁:=fun obj bv=>obj=.ref s.heap.objs.size/\bv = { s with heap:=s.heap.push { cls:=.type "list", data:=.seq #[] } }) F.called_list (F.typeCall_list_1 _) F.entry_list_init (code_list_new _ ⟨rfl,rfl⟩) fun obj bv db=>?_;obtain⟨rfl,rfl⟩:=db;have hS:(s.heap.push { cls:=.type "list", data:=.seq #[] }).get? s.heap.objs.size=some { cls:=.type "list", data:=.seq #[] }:=br _ rfl;refine⟨⟨_,hS,rfl⟩,F.args_list_init_2 _ _,LZ (A:=A.in1) W hn hT h2 h3 hint _ (W.frame _ _ _ eV fun b _ o e=>aj _ e) hSf hI hS fun h' tk pH c' hk hS' hacc=>?_⟩;refine⟨rfl,hQ h' tk pH c' (fun b o hb e=>hk b o (fun z=>?_) (aj _ e)) hS' hacc⟩;rcases List.mem_cons.mp z with z|z;·exact absurd (bh e) (by rw[z];exact fy _)
 ·exact hb z
end
end PySem
end
section
namespace PySem
namespace F
theorem SR:tq (.type "list_reverseiterator") "__len__" = pure none:=by rw[je,fb];kernel_rfl
theorem Y8:tq (.type "list_reverseiterator") "__length_hint__" = pure (some (.builtin "list_reverseiterator.__length_hint__")):=by rw[je,fb];kernel_rfl
end F
section
variable {prog:b7}{w:c9}
theorem Ad {I l:Addr}{items:Array ae}:AM prog w I (fun i h=>i<=items.size/\h.IsRevIter I l ((items.size:Int)-1-(i:Int))/\h.IsList l items):=fun A s Q E eV hQ=>by have hT:=eV.2.1.typeIs;unfold mr;refine af (gw hT F.SR ?_);refine du (fun eD=>absurd eD (by decide)) (fun _=>?_);refine du (fun eD=>absurd eD (by decide)) (fun _=>?_);refine af (gw hT F.Y8 ?_);generalize hid:("list_reverseiterator.__length_hint__" : String)=id0;wp_delta;rw[show splitId id0=some ("list_reverseiterator","__length_hint__")from by subst hid;decide +kernel];subst hid;refine af (mz (T :="list_reverseiterator") (b:=true) hT (by rw[ke];kernel_rfl) ?_);refine du (fun eD=>absurd eD (by decide)) (fun _=>?_);refine du (fun _=>?_) (fun eD=>absurd (by decide +kernel) eD);refine du (fun eD=>absurd eD (by decide +kernel)) (fun _=>?_);exact ar (hQ false s.toks)
end
end PySem
end
section
namespace PySem
open PyProof.Rows
namespace F
theorem SQ:tq (.type "tuple") "__reversed__" = pure none:=by rw[je,fb];kernel_rfl
theorem LP:tq (.type "tuple") "__getitem__" = pure (some (.builtin "tuple.__getitem__")):=by rw[je,fb];kernel_rfl
theorem SU:tq (.type "reversed") "__len__" = pure none:=by rw[je,fb];kernel_rfl
theorem A3:Manifest.owners.lookup (String.ofList ['d','e','s','r','e','v','e','r'].reverse)=some Manifest.sig_reversed:=by kernel_rfl
theorem lB:Slot "reversed" "__next__" "reversed.__next__" :=.of (owner :="reversed") (n :="__next__") (by rw[je,fb];kernel_rfl) (by decide +kernel) (by decide +kernel) (by decide +kernel) (by first|exact .inl (by decide +kernel)|exact .inr (by decide +kernel)) (by rw[ke];kernel_rfl)
theorem rN:Slot "reversed" "__length_hint__" "reversed.__length_hint__" :=.of (owner :="reversed") (n :="__length_hint__") (by rw[je,fb];kernel_rfl) (by decide +kernel) (by decide +kernel) (by decide +kernel) (by first|exact .inl (by decide +kernel)|exact .inr (by decide +kernel)) (by rw[ke];kernel_rfl)
theorem yX:Slot "reversed" "__iter__" "reversed.__iter__" :=.of (owner :="reversed") (n :="__iter__") (by rw[je,fb];kernel_rfl) (by decide +kernel) (by decide +kernel) (by decide +kernel) (by first|exact .inl (by decide +kernel)|exact .inr (by decide +kernel)) (by rw[ke];kernel_rfl)
theorem vW:entryFor table "reversed.__next__" = some Builtin.«reversed.__next__»:=Zg (by kernel_rfl)
theorem G7:entryFor table "reversed.__length_hint__" = some Builtin.«reversed.__length_hint__»:=Zg (by kernel_rfl)
theorem uP (a:ae):Aag "reversed.__next__" ⟨[a],[]⟩:=by unfold Aag;rw[ze (id :="reversed.__next__") (n:=['_','_','t','x','e','n','_','_']) (o:=['d','e','s','r','e','v','e','r']) (by kernel_rfl) A3];kernel_rfl
theorem EH (a:ae):Aag "reversed.__length_hint__" ⟨[a],[]⟩:=by unfold Aag;rw[ze (id :="reversed.__length_hint__") (n :="__length_hint__".toList.reverse) (o:=['d','e','s','r','e','v','e','r']) (by kernel_rfl) A3];kernel_rfl
theorem E1 (a:ae):Aag "reversed.__iter__" ⟨[a],[]⟩:=by unfold Aag;rw[ze (id :="reversed.__iter__") (n:=['_','_','r','e','t','i','_','_']) (o:=['d','e','s','r','e','v','e','r']) (by kernel_rfl) A3];kernel_rfl
theorem HG:entryFor table "reversed.__iter__" = some Builtin.«dict_keyiterator.__iter__» :=entryFor_alias (id' :="dict_keyiterator.__iter__") (by kernel_rfl) (by first|rfl|decide +kernel|(unfold String.splitOn;simp +decide [String.splitOnAux])) (by decide +kernel) (by kernel_rfl)
end F
end PySem
end
section
namespace PySem
open PyProof.Rows
variable {t:Addr}{i:Int}
section
variable {prog:b7}{w:c9}{A:cp}{E:ae->ag->Prop}{s:ag}
noncomputable def RZ (t:Addr)(i:Int):Obj:={ cls:=.type "reversed", data:=.fields #[.ref t,g8 i] }
def Heap.mD (h:Heap)(a t:Addr)(i:Int):Prop:=∃ o,h.get? a=some o/\o.cls=.type "reversed" /\ o.data=.fields #[.ref t,g8 i]
theorem Heap.mD.typeIs {a:Addr}(x:s.heap.mD a t i):s.TypeIs (.ref a) "reversed":=let⟨o,ho,hc,_⟩:=x;⟨o,ho,hc⟩
theorem Heap.mD.at {h h':Heap}{a:Addr}(x:h.mD a t i)(e:∀ o,h.get? a=some o->h'.get? a=some o):h'.mD a t i:=let⟨o,ho,r⟩:=x;⟨o,e _ ho,r⟩
theorem zP {items:Array ae}{Q₁:ae->ag->Prop}(ht:IsTup s.heap t items)(pG:(items.size:Int)<2 ^ 63)(h:Q₁ (.ref s.heap.objs.size) { s with heap:=s.heap.push (RZ t ((items.size:Int)-1)),toks:=s.toks+1+1 }):lz (model prog w) A (.call (.builtin "reversed.__new__") ⟨[.type "reversed", .ref t],[]⟩) (wants Q₁ E) s:=by
 refine Zo ?_;show wpAny _ A.in1 (do checkBuiltinCall "reversed.__new__" ⟨[.type "reversed", .ref t],[]⟩;again (.builtin "reversed.__new__" ⟨[.type "reversed", .ref t],[]⟩)) _ _ s;refine af (lj (F.newCall_reversed_1 _) (ar ⟨plainId_quiet ye _,rj F.entry_reversed_new ?_⟩));rw[qw ye _];unfold Builtin.«reversed.__new__»;refine af (lj (newClass_reversed _) ?_);try dsimp only
 refine af (lj (a:=()) (by first|rfl|kernel_rfl) ?_);refine af (lj (a:=()) (by first|rfl|kernel_rfl) ?_);try dsimp only
 refine af (gw ht.typeIs F.SQ ?_);try dsimp only
 refine af ?_;wp_delta;refine af (mz (T :="tuple") (b:=false) ht.typeIs (by rw[ke];kernel_rfl) ?_);refine du (fun eD=>absurd eD (by decide)) (fun _=>?_);refine af (gw ht.typeIs F.LP ?_);refine du (fun _=>?_) (fun eD=>absurd (by decide +kernel) eD);refine ar ?_;refine du (fun eD=>absurd eD (by decide)) (fun _=>?_);refine af (Aas ht pG ?_);refine af (m:=asInt? _) (ar ?_);refine af (m:=Builtin.SmallTypes.newRecord (.type "reversed") [i5 t,g8 ((items.size:Int)-1)]) ?_;show wpAny _ _ (newObj (.type "reversed") (.fields #[i5 t,g8 ((items.size:Int)-1)])) _ _ _;exact ij (ar h)
theorem CU {it:Addr}{Q:ae->ag->Prop}(hit:s.heap.mD it t i)(h:Q (.ref it) s):wpAny (model prog w) A (xm (.ref it)) Q E s:=by refine wpAny_pyIter_slot hit.typeIs F.yX (gb F.yX hit.typeIs F.HG ?_ (F.E1 _));show wpAny _ _ (ret (.ref it)) _ _ s;exact ar ⟨_,rfl,"reversed", _,hit.typeIs,F.lB.lookup,h⟩
theorem vG {it:Addr}{i:Nat}{items:Array ae}{x:ae}{Q:Option ae->ag->Prop}(hit:s.heap.mD it t (i:Int))(ht:IsTup s.heap t items)(pG:(items.size:Int)<2 ^ 63)(hx:items[i]? = some x)(hQ:∀ h',h'.mD it t ((i:Int)-1)->ll it s.heap h'->Q (some x) { s with heap:=h',toks:=s.toks+1 }):wpAny (model prog w) A (v8 (.ref it)) Q E s:=by
 obtain⟨o,ho,hc,hd⟩:=id hit;have hi:i<items.size:=by
  rcases Nat.lt_or_ge i items.size with z|z;·exact z
  ·rw[Array.getElem?_eq_none z]at hx;cases hx
 unfold v8;refine af (vd (jx (name:=kq "__next__") hit.typeIs F.lB (gb F.lB hit.typeIs F.vW ?_ (F.uP _))));unfold Builtin.«reversed.__next__»;refine af (lj (a:=(i5 it,[])) rfl ?_);try dsimp only
 refine af (kn ho hd (x:=.ref t) rfl ?_);refine af (kn ho hd (x:=g8 (i:Int)) rfl ?_);show wpAny _ _ (if(i:Int)<0 then _ else _) _ _ s;rw[if_neg (by omega)];refine af (gw ht.typeIs F.LP ?_);refine du (fun eD=>absurd eD (by decide)) (fun _=>?_);refine af (ux ?_);refine af (vd (PyProof.Rows.getItem_tuple (j:=i) ht (by omega) (by omega) (xq (by omega) (by omega)) hx ?_));refine af (kn ho hd (x:=g8 (i:Int)) rfl ?_);refine af (yf ho hd (by simp) ?_);first|refine ar ⟨x,rfl,ar (hQ _ ?_ (yq ..))⟩|refine af (ar (ar ⟨x,rfl,ar (hQ _ ?_ (yq ..))⟩))
 exact⟨_,jj _ ho (xk (oo hd _)),(Obj.cls_mapFields ..).trans hc,by rw[oo hd];simp⟩
end
end PySem
end
section
namespace PySem
open PyProof.Rows
variable {E:ae->ag->Prop}
section
variable {prog:b7}{w:c9}{A:cp}{s:ag}
theorem wC {it t:Addr}{Q:Option ae->ag->Prop}(hh:A.handled=none)(hit:s.heap.mD it t (-1))(hQ:∀ h',AaO it s.heap h'->Q none { s with heap:=h' }):wpAny (model prog w) A (v8 (.ref it)) Q E s:=by
 obtain⟨o,ho,hc,hd⟩:=id hit;unfold v8;refine af (vd (jx (name:=kq "__next__") hit.typeIs F.lB (gb F.lB hit.typeIs F.vW ?_ (F.uP _))));unfold Builtin.«reversed.__next__»;refine af (lj (a:=(i5 it,[])) rfl ?_);try dsimp only
 refine af (kn ho hd (x:=.ref t) rfl ?_);refine af (kn ho hd (x:=g8 (-1)) rfl ?_);show wpAny _ _ (if(-1:Int)<0 then _ else _) _ _ s;rw[if_pos (by decide)];refine af (wo ?_);refine af ?_;wp_delta;have ho2:=jj (zf (·.setIfInBounds 1 (g8 (-1)))) ho (xk (oo hd _));refine af (yf ho hd (by simp) ?_);refine yf ho2 (oo hd _) (by simp) ?_;first|show wpAny _ _ (newExc (.type "StopIteration") [] >>= _) _ _ _|(refine af ?_;show wpAny _ _ (newExc (.type "StopIteration") [] >>= _) _ _ _)
 refine af ?_;simp only[newExc,newTuple];refine af (ij ?_ (by size_fits));refine af (m:=firstArgMember _ _) (lj (a:=j0) (by first|rfl|(simp only[firstArgMember];rfl)) ?_);refine ij ?_ (by size_fits);simp only[raiseNew];refine af (wpAny_handled ?_);first|rw[show A.in1.handled=none from hh]|rw[hh]
 refine af (ar (wpAny_throw ?_));refine af (mz (T :="StopIteration") (b:=true) ⟨_,br _ rfl,rfl⟩ isSubtype_stop ?_);refine ar (hQ _ ?_);have e1:AaO it s.heap ((s.heap.update it (zf (·.setIfInBounds 1 (g8 (-1))))).update it (zf (·.setIfInBounds 0 j0))):=fun b u hb e =>(gf _ _ (fj hb)).trans ((gf _ _ (fj hb)).trans e);exact(e1.push _).push _
end
theorem Walks.Lp {prog:b7}{w:c9}{A:cp}(hh:A.handled=none)(I l:Addr)(hne:l≠I)(items:Array ae)(pG:(items.size:Int)<2 ^ 63): Walks prog w A I [I,l] [I] items.size (fun i v=>items[items.size-1-i]? = some v) (fun i h=>i<=items.size/\h.mD I l ((items.size:Int)-1-(i:Int))/\IsTup h l items) where
 sub:=fun b hb=>by simp at hb;simp [hb]
 frame:=fun _ _ _ x hk=>⟨x.1,x.2.1.at fun o e=>hk I (by simp) o e,let⟨o,ho,r⟩:=x.2.2;⟨o,hk l (by simp) o ho,r⟩⟩;item:=fun i s Q E hi x hQ=>by
  have e:(items.size:Int)-1-(i:Int)=((items.size-1-i:Nat):Int):=by omega
  have hit:=x.2.1;rw[e]at hit;have hx:items[items.size-1-i]? = some (items[items.size-1-i]'(by omega)):=ug (by omega);refine vG hit x.2.2 pG hx fun h' hit' iA=>?_;have e2:((items.size-1-i:Nat):Int)-1=(items.size:Int)-1-((i+1:Nat):Int):=by omega
  rw[e2]at hit';exact hQ _ h' _ hx ⟨hi,hit',let⟨o,ho,r⟩:=x.2.2;⟨o,(iA.2 l hne).trans ho,r⟩⟩ fun b o hb eo=>iA.extBut b o (fun h=>hb (by simp [h])) eo
 done:=fun s Q E x hQ=>by
  have e:(items.size:Int)-1-(items.size:Int) = -1:=by omega
  have hit:=x.2.1;rw[e]at hit;exact wC hh hit fun h' he'=>hQ h' s.toks fun b o hb eo=>he' b o (fun h=>hb (by simp [h])) eo
 self:=fun _ _ _ _ x hQ=>CU x.2.1 hQ
section
variable {prog:b7}{w:c9}{A:cp}{s:ag}
theorem F.zL:Slot "reversed" "__init__" "object.__init__" :=.of (owner :="object") (n :="__init__") (by rw[je,fb];kernel_rfl) (by decide +kernel) (by decide +kernel) (by decide +kernel) (by first|exact .inl (by decide +kernel)|exact .inr (by decide +kernel)) (by rw[ke];kernel_rfl)
theorem F.oO:TypeCalled "reversed" "reversed.__new__" "object.__init__" :=⟨by decide +kernel,by decide +kernel,⟨_,_,F.mro_reversed⟩,F.made_reversed,by decide +kernel,by rw[ke];kernel_rfl,F.zL⟩
theorem CP {t:Addr}{items:Array ae}{Q:ae->ag->Prop}(ht:IsTup s.heap t items)(pG:(items.size:Int)<2 ^ 63) (h:Q (.ref s.heap.objs.size) { s with heap:=s.heap.push (RZ t ((items.size:Int)-1)),toks:=s.toks+1+1 }):wpAny (model prog w) A (call (.type "reversed") [.ref t]) Q E s:=by refine callType_codes (Q₁:=fun obj bv=>bv.TypeIs obj "reversed" /\ Q obj bv) F.oO (F.typeCall_reversed_1 _) F.entry_object_init (zP ht pG ⟨⟨_,br _ rfl,rfl⟩,h⟩) fun obj bv hq=>⟨hq.1,F.args_object_init_2 obj _,?_⟩;exact object_init_meets F.oO.init.lookup F.oO.made (by decide) prog w A.in1 _ bv ⟨hq.1,rfl,hq.2⟩
theorem Ac {I l:Addr}{items:Array ae}(pG:items.size<=sizeLine):AM prog w I (fun i h=>i<=items.size/\h.mD I l ((items.size:Int)-1-(i:Int))/\IsTup h l items):=fun A s Q E eV hQ=>by
 have hit:=eV.2.1;have hT:=hit.typeIs;obtain⟨o,ho,hc,hd⟩:=id hit;have hf:(items.size:Int)<2 ^ 63:=by have:=pG;rw[kl]at this;omega
 unfold mr;refine af (gw hT F.SU ?_);refine du (fun eD=>absurd eD (by decide)) (fun _=>?_);refine du (fun eD=>absurd eD (by decide)) (fun _=>?_);refine af (gw hT F.rN.lookup ?_);generalize hid:("reversed.__length_hint__" : String)=id0;wp_delta;rw[show splitId id0=some ("reversed","__length_hint__")from by subst hid;decide +kernel];subst hid;refine af (mz (T :="reversed") (b:=true) hT (by rw[ke];kernel_rfl) ?_);refine du (fun eD=>absurd eD (by decide)) (fun _=>?_);refine du (fun eD=>absurd eD (by decide +kernel)) (fun _=>?_);refine af (wo ?_);refine af (lj (F.rN.bind _) ?_);refine af (vd (gb F.rN hT F.G7 ?_ (F.EH _)));unfold Builtin.«reversed.__length_hint__»;refine af (lj (a:=i5 I) rfl ?_);refine af (kn ho hd (x:=.ref l) rfl ?_);refine du (fun eD=>absurd eD (by simp)) (fun _=>?_);refine af (Aas eV.2.2 hf ?_);refine af (m:=asInt? _) (ar ?_);refine af (m:=field (.ref I) 1) (kn ho hd (x:=g8 ((items.size:Int)-1-((0:Nat):Int))) rfl ?_);show wpAny _ _ (if(items.size:Int)<((items.size:Int)-1-((0:Nat):Int))+1 then _ else _) _ _ _;rw[if_neg (by omega)];refine af (ux (ar ⟨_,rfl,?_⟩));refine af (m:=asInt? _) (ar ?_);dsimp only;have e0:(items.size:Int)-1-((0:Nat):Int)+1=items.size:=by omega
 rw[e0];have hfi:Builtin.List.listFitsIndex (items.size:Int)=true:=Zw (by omega) hf;have htl:eu ((items.size:Int).toNat)=false:=by simp [eu];exact pG
 rw[hfi,htl];refine du (fun eD=>absurd eD (by decide)) (fun _=>?_);refine du (fun eD=>absurd eD (by omega)) (fun _=>?_);refine du (fun eD=>absurd eD (by decide)) (fun _=>ar (hQ _ _))
end
end PySem
end
section
namespace L3
open PySem PySem.Spec PyProof.Rows L2
variable {aD:List ae}{n:Str}
theorem Y6 {X:Cx}{pz:List (Addr×Obj)}{σ:L2.St}{H:Hp}{s:ag}{h':Heap}{t':Nat}{it:Addr}{ys:List V}{n:Nat}(I:Inv X pz σ H s)(f:mS X pz H it)(k:∀ b o,b≠it->s.heap.get? b=some o->h'.get? b=some o)(new:h'.get? s.heap.objs.size=some { cls:=.type "list", data:=.seq aD.toArray n })(hv:aR ys aD)(hz:ys.length<=sizeLine):Inv X pz σ (upd H s.heap.objs.size (.lst ys)) { s with heap:=h',toks:=t' }:=by
 have hS:=I.fresh;have neS:∀ b o,s.heap.get? b=some o->b≠s.heap.objs.size:=fun b o e=>b9 (bh e);have tr:∀ b u,H b=some u->b≠s.heap.objs.size:=fun b u e=>jK e hS;obtain⟨f0,f1,f2,f3,f4,f5⟩:=f;refine I.step (g':=s.gens) (d':=s.drawn) (ch:=[it]) (fun b hb=>?_) (fun b o _ _ hc e _=>k b o (fun z=>hc (by simp [z])) e) (fun b o _ _ hc e _=>⟨o.slots,k b o (fun z=>hc (by simp [z])) e⟩) (fun b o _ e n=>by rw[bI (neS b o e)];exact n) (fun b o hc e=>⟨o,k b o (fun z=>hc (by simp [z])) e⟩) (fun b xs e=>by rw[bI (tr b _ e)];exact e) (fun b o u e=>by rw[bI (tr b _ e)];exact e) (fun b ps e=>⟨#[],by rw[bI (tr b _ e),e];simp⟩) (fun m hm=>?_) (fun b u e=>?_) I.bare
 ·have e:b=it:=by simpa using hb
  subst e;exact⟨f3,f1,f4,f5⟩
 ·obtain⟨o,es,ep,ho,r⟩:=hm;exact⟨o,es,ep,k _ o (fj f1) ho,r⟩
 ·by_cases hb:b=s.heap.objs.size;·subst hb;rw[dE]at e;cases e;exact⟨hz,aD,n,hv,new⟩
  ·rw[bI hb]at e;refine(I.bO b u e).pP (fun c v hc q=>k c v ?_ q) (fun c q=>by rw[bI (tr c _ q)];exact q) fun c xs q=>by rw[bI (tr c _ q)];exact q
   rcases hc with z|z;·rw[z];exact fun y=>by rw[y,f0]at e;cases e
   ·exact fun y=>by rw[y,f0]at z;cases z
theorem XG {acc:Array ae}(h:Zq (fun i v=>aD.toArray[aD.toArray.size-1-i]? = some v) acc aD.toArray.size):acc=aD.reverse.toArray:=by
 obtain⟨h1,h2⟩:=h;apply Array.ext;·rw[h1];simp
 ·intro i hi hi';have:aD.toArray[aD.toArray.size-1-i]? = some acc[i]:=h2 i acc[i] (ug hi);have hl:i<aD.length:=by rw[h1]at hi;simpa using hi
  have e:aD.toArray[aD.toArray.size-1-i]? = some (aD.reverse.toArray[i]):=by simp
  rw[e]at this;exact(c7 this).symm
theorem aR.reverse:∀{vs:List V}{us:List ae},aR vs us->aR vs.reverse us.reverse|_,_,.nil=>.nil|_,_,.cons h t=>by simp only[jy];exact(aR.reverse t).append (.cons h .nil)
section
variable {X:Cx}{C:bG}{sub:Nat->Nat->Bool}{E:XK}{a b c e o tg:Expr}{es:List Expr}{x y z:Ex}{xs:List Ex}{p p2 pos pos2:Pos}{kk:IK}
theorem Sj (hm:X.mg "list" = none)(hm2:X.mg "reversed" = none)(hc:X.calm=true)(ha:PA X [a] (kU X.K (bM C sub E [x])))(hg:X.env.kindOf "list" = some .globalImplicit:=by kernel_rfl)(hg2:X.env.kindOf "reversed" = some .globalImplicit:=by kernel_rfl)(he:aq [.Call (.Name "reversed" p2) [a] [] pos2] X.env=(false,eval (.Call (.Name "reversed" p2) [a] [] pos2) X.env)::aq [] X.env:=by kernel_rfl)(dO:(eh pos (aq [] X.env)).any (·.1)=false:=by kernel_rfl)(he2:aq [a] X.env=(false,eval a X.env)::aq [] X.env:=by kernel_rfl)(hpl2:(eh pos2 (aq [] X.env)).any (·.1)=false:=by kernel_rfl):PE X (.Call (.Name "list" p) [.Call (.Name "reversed" p2) [a] [] pos2] [] pos) (cF X.K (aG C sub E (.bit .list .rev [x]))):=by intro pz s σ H Q I ⟨ap,st,R,r,ok,q,hq⟩;refine fw (mV I hg hm BL ?_ (by decide) (by decide));refine e9 ?_ he dO;rw[he];show wpAny _ _ (zu ((false,eval (.Call (.Name "reversed" p2) [a] [] pos2) X.env)::eh pos (aq [] X.env))) _ _ s;refine j9 ?_;refine fw (mV I hg2 hm2 PH ?_ (by decide) (by decide));refine e9 (bF (ha pos2 pz s σ H _ I ⟨ap,st,_,r,ok,q,fun vs H' z=>z⟩) fun us s1 ⟨vs,H1,I1,rv,ds,aC,dH,aO,rs,q1⟩=>?_) he2 hpl2;match ds,rs,q1 with
 |[d],rs,q1 =>
  obtain⟨v,rfl,rd⟩:=rs.one;obtain⟨u,rfl,ru⟩:=vals1 rv;have q1:eR d aC fun as xs=>iK xs.reverse aC R:=q1;obtain⟨l,ws,as,ys,rfl,sa,g,q1⟩:=nX aO rd q1;cases ru;have hh:X.A.handled=none:=I1.ok.hd hc;have nil:∀{Q':List ae->ag->Prop}{s':ag},Q' [] s'->wpAny (model X.prog X.w) X.A (zu (eh pos (aq [] X.env))) Q' X.xe s':=fun h=>pk h;have fin:∀(aD:List ae)(s2:ag)(h':Heap)(tk:Nat)(acc:Array ae)(cc:Nat),aR ws aD->ws.length<=sizeLine->Inv X pz σ H1 s2->mS X pz H1 s1.heap.objs.size->(∀ b o,b∉[s1.heap.objs.size]->s2.heap.get? b=some o->h'.get? b=some o) -> h'.get? s2.heap.objs.size=some { cls:=.type "list", dict:=none,data:=.seq acc cc,slots:=#[] }->Zq (fun i v=>aD.toArray[aD.toArray.size-1-i]? = some v) acc aD.toArray.size->EP X pz σ Q (.ref s2.heap.objs.size) { s2 with heap:=h',toks:=tk }:=by intro aD s2 h' tk acc cc hv hz I2 f2 k2 hS hacc;have ea:=XG hacc;subst ea;refine⟨.ref s2.heap.objs.size,_,Y6 I2 f2 (fun b o hb e=>k2 b o (by simpa using hb) e) hS (aR.reverse hv) (by simpa using hz),rfl,hq _ _ (.after dH ?_)⟩;exact .iK aO g.reverse I2.fresh q1.2
  rcases sa with sa|sa
  ·obtain⟨aD,r1,pl,hz⟩:=I1.list sa;have hl:=pl.isList;have cN:l<s1.heap.objs.size:=by obtain⟨_,e,_⟩:=hl;exact bh e
   have hzz:aD.toArray.size<=sizeLine:=by simp;rw[<-r1.length];exact hz
   refine call_reversed_list hl (nil ?_);have I2:Inv X pz σ H1 { s1 with heap:=s1.heap.push (revObj l ((aD.toArray.size:Int)-1)) }:=I1.kept (t':=s1.toks) fun b o e=>aj _ e;have W:=fun A hA=>Walks.listRev (prog:=X.prog) (w:=X.w) (A:=A) hA s1.heap.objs.size l (b9 cN) aD.toArray;refine AS (W _ hh) hzz (fun h st=>let⟨o,ho,hcl,_⟩:=st.2.1;⟨o,ho,hcl⟩) (by decide) (by decide) Ad ⟨Nat.zero_le _,⟨_,br _ rfl,rfl,by simp [revObj]⟩,hl.push _⟩ (fun b hb=>?_) (by simp) fun h' tk acc cc k hS hacc=>?_
   ·show b<(s1.heap.push _).objs.size;rw[ju];rcases List.mem_cons.mp hb with rfl|hb;·exact gz _
    ·rcases List.mem_cons.mp hb with rfl|hb;·exact kr cN
     ·cases hb
   ·exact fin aD _ h' tk acc cc r1 hz I2 (I1.HE (aw _) I1.fresh) k hS hacc
  ·obtain⟨aD,r1,pl,hz⟩:=I1.tuple sa;have cN:l<s1.heap.objs.size:=by obtain⟨_,e,_⟩:=pl;exact bh e
   have hzz:aD.toArray.size<=sizeLine:=by simp;rw[<-r1.length];exact hz
   have pG:(aD.toArray.size:Int)<2 ^ 63:=by have:=hzz;rw[kl]at this;omega
   refine CP pl pG (nil ?_);have I2:Inv X pz σ H1 { s1 with heap:=s1.heap.push (RZ l ((aD.toArray.size:Int)-1)),toks:=s1.toks+1+1 }:=I1.kept (t':=s1.toks+1+1) fun b o e=>aj _ e;have W:=fun A hA=>Walks.Lp (prog:=X.prog) (w:=X.w) (A:=A) hA s1.heap.objs.size l (b9 cN) aD.toArray pG;refine AS (W _ hh) hzz (fun h st=>let⟨o,ho,hcl,_⟩:=st.2.1;⟨o,ho,hcl⟩) (by decide) (by decide) (Ac hzz) ⟨Nat.zero_le _,⟨_,br _ rfl,rfl,by simp [RZ]⟩,let⟨o,ho,r⟩:=pl;⟨o,aj _ ho,r⟩⟩ (fun b hb=>?_) (by simp) fun h' tk acc cc k hS hacc=>?_
   ·show b<(s1.heap.push _).objs.size;rw[ju];rcases List.mem_cons.mp hb with rfl|hb;·exact gz _
    ·rcases List.mem_cons.mp hb with rfl|hb;·exact kr cN
     ·cases hb
   ·exact fin aD _ h' tk acc cc r1 hz I2 (I1.HE (aw _) I1.fresh) k hS hacc
theorem Tr (hm:X.mg "list" = none)(hm2:X.mg "reversed" = none)(ha:JA X C sub E [a] [x])(hc:X.calm=true:=by kernel_rfl)(hg:X.env.kindOf "list" = some .globalImplicit:=by kernel_rfl)(hg2:X.env.kindOf "reversed" = some .globalImplicit:=by kernel_rfl)(he:aq [.Call (.Name "reversed" p2) [a] [] pos2] X.env=(false,eval (.Call (.Name "reversed" p2) [a] [] pos2) X.env)::aq [] X.env:=by kernel_rfl)(dO:(eh pos (aq [] X.env)).any (·.1)=false:=by kernel_rfl)(he2:aq [a] X.env=(false,eval a X.env)::aq [] X.env:=by kernel_rfl)(hpl2:(eh pos2 (aq [] X.env)).any (·.1)=false:=by kernel_rfl):JE X C sub E (.Call (.Name "list" p) [.Call (.Name "reversed" p2) [a] [] pos2] [] pos) (.bit .list .rev [x]):=⟨Sj hm hm2 hc ha.h hg hg2 he dO he2 hpl2⟩
end
theorem Kb {K:aa}{h:Heap}{mg:Str->Option ae}(X:K.In h)(G:h.Ns cz mg){i:Int}{t:Tok}(a:jo K cz n=some (some (.int i t))):GC K mg n (.int i):=⟨_,.int i,mf X G a,⟨t,rfl⟩,fun _=>.int i⟩
theorem Jg {K:aa}{h:Heap}{mg:Str->Option ae}(X:K.In h)(G:h.Ns cz mg){x:Str}{w:List Nat}{t:Tok}(a:jo K cz n=some (some (.str x t)))(e:x=⟨w.toArray⟩):GC K mg n (.str w):=⟨_,.str x,mf X G a,⟨t,rfl⟩,fun _=>by rw[e];exact .str w⟩
noncomputable def TQ:D->ae->Bool|.non,.none=>true|.bl b,.bool c=>b==c|.int i,.int j _=>i==j|.str w,.str x _=>w==x.cps.toList|_,_=>false
noncomputable def LH:List D->List ae->Bool|[],[]=>true|d::ds,u::us=>TQ d u&&LH ds us|_,_=>false
noncomputable def By:D->V|.bl b=>.bl b|.int i=>.int i|.str w=>.str ⟨w.toArray⟩|_=>.non
set_option tactic.hygienic true in
theorem ZG {K:aa}{H:Hp}{d:D}{u:ae}(h:TQ d u=true):L2.RelV (By d) u/\Rep K H d (By d):=by
 unfold TQ at h;split at h;·exact⟨rfl,.non⟩
 ·exact⟨by rw[eq_of_beq h];rfl,.bl _⟩
 ·exact⟨⟨_,by rw[eq_of_beq h]⟩,.int _⟩
 ·rename_i w x t;exact⟨⟨t,by rw[eq_of_beq h]⟩,.str w⟩
 ·cases h
theorem OO {K:aa}{H:Hp}:∀{ds:List D}{us:List ae},LH ds us=true->aR (ds.map By) us/\aJ K H ds (ds.map By)|[],[],_=>⟨.nil,.nil⟩|d::ds,u::us,h=>by simp only[LH,bc]at h;have r:=ZG (K:=K) (H:=H) h.1;have s:=OO (K:=K) (H:=H) h.2;exact⟨.cons r.1 s.1,.cons r.2 s.2⟩|[],_::_,h=>by cases h|_::_,[],h=>by cases h
theorem XC {K:aa}{h:Heap}{mg:Str->Option ae}(X:K.In h)(G:h.Ns cz mg){ds:List D}{p:Addr}{aD:Array ae}{k:Nat}{sl:Array (Option ae)}(a:jo K cz n=some (some (.ref p)))(l:K.lookup p=some ⟨.type "tuple", none,.seq aD k,sl⟩)(f:LH ds aD.toList=true)(z:Nat.ble aD.size 1000=true):GC K mg n (.tup ds):=by refine⟨_,.ref p,mf X G a,rfl,fun H=>?_⟩;have s:=OO (K:=K) (H:=H) f;exact .tup (.inr ⟨_,aD,k,l,rfl,rfl,rfl,r8 (WH (Nat.le_of_ble_eq_true z)),s.1⟩) s.2
noncomputable def Jn:D->Zy|.bl b=>.bool b|.int i=>.int i|.str w=>.str ⟨w.toArray⟩|_=>.none
noncomputable def Tv:D->Bool|.non=>true|.bl _=>true|.int _=>true|.str _=>true|_=>false
noncomputable def xJ:List D->List D->List (Str×PyData)|.str w::ks,v::vs=>(⟨w.toArray⟩,Jn v)::xJ ks vs|_,_=>[]
noncomputable def Bw:List D->List D->Bool|[],[]=>true|.str _::ks,v::vs=>Tv v&&Bw ks vs|_,_=>false
theorem Ke {v:D}(h:Tv v=true):uE (Jn v)=v/\pJ (Jn v)=true:=by cases v<;>first|exact⟨rfl,rfl⟩|cases h
theorem XJ:∀{ks vs:List D},Bw ks vs=true->((xJ ks vs).all fun p=>pJ p.2)=true/\ks=(xJ ks vs).map (fun p=>.str p.1.cps.toList)/\vs=(xJ ks vs).map (fun p=>uE p.2)
 |[],[],_=>⟨rfl,rfl,rfl⟩|.str w::ks,v::vs,h=>by
  simp only[Bw,bc]at h;obtain⟨a,b,c⟩:=XJ h.2;obtain⟨d,e⟩:=Ke h.1;refine⟨?_,?_,?_⟩;·simp only[xJ,ny,e,a,fz]
  ·simp only[xJ,bb];rw[<-b]
  ·simp only[xJ,bb,d];rw[<-c]|[],_::_,h=>by cases h|.str _::_,[],h=>by cases h|.non::_,_,h=>by cases h|.bl _::_,_,h=>by cases h|.int _::_,_,h=>by cases h|.tup _::_,_,h=>by cases h|.ref _::_,_,h=>by cases h|.dP _ _::_,_,h=>by cases h|.bR _::_,_,h=>by cases h|.exc _::_,_,h=>by cases h
theorem Kf {K:aa}{h:Heap}{mg:Str->Option ae}(X:K.In h)(G:h.Ns cz mg){ks vs:List D}{p:Addr}{es:Array DictEntry}{ep:Nat}(a:jo K cz n=some (some (.ref p)))(l:K.lookup p=some ⟨.type "dict", none,.dict es ep,#[]⟩)(f:(KTD.rowsLook uz es.toList (xJ ks vs)&&Bw ks vs && !(p==qe))=true):GC K mg n (.dP ks vs):=by simp only[bc]at f;obtain⟨⟨f1,f2⟩,f3⟩:=f;obtain⟨a1,a2,a3⟩:=XJ f2;refine⟨_,.ref p,mf X G a,rfl,fun H=>.dP ⟨xJ ks vs,?_,a1,a2,a3⟩⟩;simp only[xt,l,f1,f3];rfl
end L3
end
section
namespace L3
open PySem PySem.Spec PyProof.Rows L2 PySem.SeqAt
theorem PK {β:Type}(n:Nat)(b:β)(f:Nat->β->Sem (ForInStep β)):forIn [0:n] b f=forIn (qx 0 n 1) b f:=by
 rw[Std.Legacy.Range.forIn_eq_forIn_range'];have iS:([0:n]:Zh).size=n:=by simp [Std.Legacy.Range.size]
 show forIn (qx 0 ([0:n]:Zh).size 1) b f=_;rw[iS]
variable {E:ae->ag->Prop}{items:Array ae}{j:Nat}
theorem D1 {prog:b7}{w:c9}{A:cp}{s:ag}{t:Addr}{x:ae}{e:ae->Bool}{P:Fin->ag->Prop}(ht:IsTup s.heap t items)(he:∀ y,y∈items->EqAt A s y x (e y))(hj:j<items.size)(hit:e items[j]=true)(hno:∀ m (hm:m<items.size),m<j->e items[m]=false)(h:P (.done (.ret (.int j s.toks))) { s with toks:=s.toks+1 }):wpAny (model prog w) A (Builtin.«tuple.index» ⟨[.ref t,x],[]⟩) P E s:=by
 show wpAny _ _ (ig (.ref t) >>= _) _ _ s;refine af (yw ht ?_);show wpAny _ _ (forIn [0:min items.size items.size] _ _ >>= _) _ _ s;rw[Nat.min_self,PK];refine af (j8 (Q:=fun(b:Option PySem.Fin×Unit) s'=>b.1=some (.done (.ret (.int j s.toks)))/\s' = { s with toks:=s.toks+1 }) (vq (β:=Option PySem.Fin×Unit) _ (fun rest b s'=>s'=s/\b.1=none/\∃ i,rest=qx i (items.size-i) 1/\i<=j) _ ?_ ?_ _ _ ⟨rfl,rfl,0,rfl,dt _⟩) ?_ fun _ _ z=>z)
 ·rintro i rest b s' ⟨rfl,hb,k,hk,hkj⟩;have cN:k<items.size:=by omega
  have e1:items.size-k=(items.size-(k+1))+1:=by omega
  rw[e1,vw]at hk;injection hk with h1 h2;subst h1;have hg:items[i]? = some items[i]:=by simp [cN]
  rw[hg];show wpAny _ _ (eqBool items[i] x >>= _) _ _ _;refine af (he _ (Array.getElem_mem cN) prog w _ _ ?_);by_cases hij:i=j;·subst hij;rw[hit];exact af (af (ux (ar (ar ⟨rfl,rfl⟩))))
  ·rw[hno i cN (by omega)];exact ar ⟨rfl,rfl,i+1,h2,by omega⟩
 ·rintro b s' ⟨_,_,i,hi,hij⟩;have:(qx i (items.size-i) 1).length=0:=by rw[<-hi];rfl
  simp at this;omega
 ·rintro⟨b1,b2⟩ s' ⟨hb,rfl⟩;simp only at hb;subst hb;exact ar h
variable {X:Cx}{pz:List (Addr×Obj)}{σ:L2.St}{H:Hp}{st:aB}{ds:List D}{vs:List V}{v:V}{u:ae}
section
theorem OM {s:ag}(I:Inv X pz σ H s)(ok:aS X.K st H){aD:List ae}{d:D}{A:cp}(g:aJ X.K H ds vs)(r:aR vs aD)(p:eF st ds)(pd:plainS st d)(rd:Rep X.K H d v)(rv:RelV v u)(hu:A.units+178<cLine): ∃ e:ae->Bool,(∀ y,y∈aD.toArray->EqAt A.in1 s y u (e y))/\∀ j (hj:j<aD.length)(hj':j<ds.length),e aD[j]=bW st ds[j] d:=by classical
 have hD:iC=80:=rfl;have item:∀(d':D)(v':V)(y:ae),d'∈ds->Rep X.K H d' v'->RelV v' y->EqAt A.in1 s y u (bW st d' d):=fun d' v' y m r' bJ=>by have h1:=kK m;have h2:=p.2;exact(S8 I ok 80 (by omega) (iD p.1 m) pd.1 r' bJ rd rv (by simp only[gh];omega)).2.1
 let e:ae->Bool:=fun y=>decide (∃ d' v',d'∈ds/\Rep X.K H d' v'/\RelV v' y/\bW st d' d=true);have he:∀(d':D)(v':V)(y:ae),d'∈ds->Rep X.K H d' v'->RelV v' y->e y=bW st d' d:=fun d' v' y m r' bJ=>by show decide _=_;cases q:bW st d' d with|true=>exact decide_eq_true ⟨d',v',m,r',bJ,q⟩|false =>refine decide_eq_false fun⟨d2,v2,m2,r2,rv2,q2⟩=>?_;cases RelV.inj bJ rv2;have:=OY I ok _ (aw _) (iD p.1 m) (iD p.1 m2) r' r2;subst this;rw[q]at q2;cases q2
 refine⟨e,fun y hy=>?_,fun j hj hj'=>?_⟩;·obtain⟨j,hj,rfl⟩:=Array.mem_iff_getElem.mp hy;obtain⟨v',e1,e2⟩:=aR.at r hj;obtain⟨d',e3,e4⟩:=aJ.get' g e1;rw[he d' v' _ (bp e3) e4 e2];exact item d' v' _ (bp e3) e4 e2
 ·obtain⟨v',e1,e2⟩:=aR.at r (by simpa using hj);obtain⟨d',e3,e4⟩:=aJ.get' g e1;have e5:ds[j]=d':=(List.getElem?_eq_some_iff.mp e3).2;rw[e5];exact he d' v' _ (bp e3) e4 (by simpa using e2)
theorem xS {st:aB}{d:D}:∀{ds:List D}{j:Nat},findD st d ds=some j->∃ hj:j<ds.length,bW st ds[j] d=true/\∀ m (hm:m<ds.length),m<j->bW st ds[m] d=false
 |[],_,h=>by cases h|x::r,j,h=>by
  have h:(if bW st x d=true then some 0 else(findD st d r).map (·+ 1))=some j:=h;by_cases c:bW st x d=true;·rw[if_pos c]at h;cases h;exact⟨by simp,c,fun m _ hm=>by omega⟩
  ·rw[if_neg c]at h;obtain⟨k,e,rfl⟩:=Option.map_eq_some_iff.mp h;obtain⟨h1,h2,h3⟩:=xS e;refine⟨by simpa using h1,by simpa using h2,fun m hm hl=>?_⟩;cases m with|zero=>simpa using c|succ m=>simpa using h3 m (by simpa using hm) (by omega)
theorem index_list {s:ag}{R:VK}{d:D}{a:Addr}(hu:X.A.units+180<cLine)(I:Inv X pz σ H s)(ok:aS X.K st H)(f:dA X.K H a vs)(g:aJ X.K H ds vs)(rd:Rep X.K H d v)(rv:RelV v u)(pd:plainS st d)(ps:eF st ds)(hj:findD st d ds=some j)(q:R (.int (j:Nat)) st):wpAny (model X.prog X.w) X.A (call (.builtin "list.index") [.ref a,u]) (EP X pz σ (QD X.K H st R)) X.xe s:=by
 obtain⟨aD,r1,p1,hz⟩:=I.list f;obtain⟨e,he,ha⟩:=OM I ok g r1 ps pd rd rv (A:=X.A) (by omega);obtain⟨h1,h2,h3⟩:=xS hj;have l1:=g.length;have l2:=r1.length;have hn:=sS;obtain⟨⟨cls,dd,data,sl⟩,ho,hc,n,hd⟩:=id p1.isList;simp only at hc hd;subst hc hd;refine oj vx ⟨_,ho,rfl⟩ PySem.F.entry_list_index (PySem.F.args_list_index_2 _ _) (list_indexAt a aD.toArray n dd sl u e j (by simp;omega) (by omega) ?_ ?_) ⟨ho,he,?_⟩;·show e aD[j]=true;rw[ha j (by omega) h1];exact h2
 ·intro m hm hl;have hm:m<aD.length:=by simpa using hm
  show e aD[m]=false;rw[ha m hm (by omega)];exact h3 m (by omega) hl
 ·exact⟨.int j,H,I.tok _,⟨_,rfl⟩,.here ok (.int _) q⟩
theorem XE {s:ag}{R:VK}{d:D}{a:Addr}(hu:X.A.units+180<cLine)(I:Inv X pz σ H s)(ok:aS X.K st H)(f:eU X.K H a vs)(g:aJ X.K H ds vs)(rd:Rep X.K H d v)(rv:RelV v u)(pd:plainS st d)(ps:eF st ds)(hj:findD st d ds=some j)(q:R (.int (j:Nat)) st):wpAny (model X.prog X.w) X.A (call (.builtin "tuple.index") [.ref a,u]) (EP X pz σ (QD X.K H st R)) X.xe s:=by
 obtain⟨aD,r1,p1,hz⟩:=I.tuple f;obtain⟨e,he,ha⟩:=OM I ok g r1 ps pd rd rv (A:=X.A) (by omega);obtain⟨h1,h2,h3⟩:=xS hj;have l1:=g.length;have l2:=r1.length;refine gb ve p1.typeIs PySem.F.entry_tuple_index (D1 p1 he (j:=j) (by simp;omega) ?_ ?_ ⟨_,rfl,?_⟩) (PySem.F.args_tuple_index_2 _ _);·show e aD[j]=true;rw[ha j (by omega) h1];exact h2
 ·intro m hm hl;have hm:m<aD.length:=by simpa using hm
  show e aD[m]=false;rw[ha m hm (by omega)];exact h3 m (by omega) hl
 ·exact⟨.int j,H,I.tok _,⟨_,rfl⟩,.here ok (.int _) q⟩
end
section
variable {C:bG}{sub:Nat->Nat->Bool}{E:XK}{e o:Expr}{x y:Ex}{pos apos lI:Pos}
noncomputable def Io:D->Bool|.tup _=>true|_=>false
theorem M9 {K:aa}{d:D}{Kk:List Nat->List D->Prop}(ok:aS K st H)(r:Rep K H d v)(h:eR d st Kk):∃ a vs as ds,v=.ref a/\aJ K H ds vs/\((Io d=false/\dA K H a vs)∨(Io d=true/\eU K H a vs))/\Kk as ds:=by
 unfold eR at h;split at h;·obtain⟨a,vs,rfl,f,g⟩:=r.cA;exact⟨a,vs,_,_,rfl,g,.inr ⟨rfl,f⟩,h⟩
 ·cases r.cQ;obtain⟨ds,e,h⟩:=dQ h;obtain⟨vs,g1,g2⟩:=ok.lst e;exact⟨_,vs,_,_,rfl,g2,.inl ⟨rfl,dA.of g1⟩,h⟩
 ·obtain⟨a,vs,rfl,f,g⟩:=r.mJ;exact⟨a,vs,_,_,rfl,g,.inl ⟨rfl,f.sq⟩,h⟩
 ·exact h.elim
theorem Z7 (m:bU C C)(hu:X.A.units+180<cLine)(ho:JE X C sub E o x)(ha:JA X C sub E [e] [y])(kY:gu o "index" X.env (eval o X.env)=eval o X.env:=by kernel_rfl)(vN:((eh pos (aq [e] X.env)).all (fun x=>!x.1)&&(pj pos (km [] X.env)).all (fun x=>x.1.isSome)&&decide ([e].length+([]:List sh).length+(if([]:List sh).isEmpty then 0 else 1)<30))=true:=by kernel_rfl)(kZ:(apos.endLine==pos.line)=true:=by kernel_rfl)(hs:aq [e] X.env=[(false,eval e X.env)]:=by kernel_rfl):JE X C sub E (.Call (.Attribute o "index" apos) [e] [] pos) (.cM .index x [y]):=⟨by
 intro pz s σ H Q I ⟨ap,st,R,r,ok,q,hq⟩;refine wj kY vN kZ rfl (bF (ho.h pz s σ H _ I ⟨ap,st,_,r,ok,q,fun v H' z=>z⟩) fun v s1 ⟨x1,H1,I1,r1,d1,aC,dH,aO,rd1,q1⟩=>?_);obtain⟨rc,q1⟩:=q1;obtain⟨a,vs,as,ds,rfl,g,ty,-⟩:=M9 aO rd1 rc;cases r1;have rest:∀ id:String,(∀(s2:ag)(H2:Hp)(aF:aB)(d2:D)(v2:V)(u2:ae),Inv X pz σ H2 s2->Step H1 aC H2 aF->aS X.K aF H2->Rep X.K H2 d2 v2->RelV v2 u2->lK .index d1 [d2] aF R->wpAny (model X.prog X.w) X.A (call (.builtin id) [.ref a,u2]) (EP X pz σ (QD X.K H2 aF R)) X.xe s2) -> wpAny (model X.prog X.w) X.A (xo pos (.builtin id) [.ref a] (eh pos (aq [e] X.env)) []) (EP X pz σ Q) X.xe s1:=by intro id hc;have hA:=ha.h pos pz s1 σ H1 _ I1 ⟨ap,aC,_,r.step ok dH,aO,pR [y] m q1,fun vs H' z=>z⟩;rw[hs]at hA ⊢;refine l4 (by rfl) (qs ?_);refine bF hA fun us s2 ⟨ws,H2,I2,r2,es,aF,hZ,bZ,rs2,l2,q2⟩=>?_;match es,l2,ws,rs2,us,r2 with|[d2],_,_,.cons rd2 .nil,_,.cons rv2 .nil =>exact bF (hc s2 H2 aF d2 _ _ I2 hZ bZ rd2 rv2 q2) fun w s3 ⟨v3,H3,I3,r3,z⟩=>⟨v3,H3,I3,r3,hq _ _ (.after (dH.trans hZ) z)⟩
 rcases ty with⟨tk,ty⟩|⟨tk,ty⟩
 ·obtain⟨aD,_,p1,_⟩:=I1.list ty;refine⟨"list","list.index", ox,vx,PySem.F.type_list_index,p1.isList.typeIs,fun b e=>?_,rest _ fun s2 H2 aF d2 v2 u2 I2 hZ bZ rd2 rv2 q2=>?_⟩;·cases e;obtain⟨o,n,e,c,hd,_⟩:=p1;exact⟨o,e,hd⟩
  ·obtain⟨a',vs2,as2,ds2,e2,g2,ty2,pd,ps,q2⟩:=M9 bZ (rd1.step aO hZ) q2;cases e2;obtain⟨j,hj,q2⟩:=fE q2;rcases ty2 with⟨tk2,ty2⟩|⟨tk2,ty2⟩;·exact index_list hu I2 bZ ty2 g2 rd2 rv2 pd ps hj q2
   ·rw[tk]at tk2;cases tk2
 ·obtain⟨aD,_,p1,_⟩:=I1.tuple ty;refine⟨"tuple","tuple.index", PySem.F.plainAttrs_tuple,ve,PySem.F.type_tuple_index,p1.typeIs,fun b e=>?_,rest _ fun s2 H2 aF d2 v2 u2 I2 hZ bZ rd2 rv2 q2=>?_⟩;·cases e;exact I1.Om ty
  ·obtain⟨a',vs2,as2,ds2,e2,g2,ty2,pd,ps,q2⟩:=M9 bZ (rd1.step aO hZ) q2;cases e2;obtain⟨j,hj,q2⟩:=fE q2;rcases ty2 with⟨tk2,ty2⟩|⟨tk2,ty2⟩;·rw[tk]at tk2;cases tk2
   ·exact XE hu I2 bZ ty2 g2 rd2 rv2 pd ps hj q2⟩
end
noncomputable def tX (val:Nat->Str):Nat->Nat|0=>0|i+1=>if((ay i).map val).any (·== val i)then tX val i else tX val i+1
theorem VM (val:Nat->Str):∀ i,tX val i<=i|0=>aw _|i+1=>by have:=VM val i;unfold tX;split<;>omega
variable {val:Nat->Str}
section
variable {prog:b7}{w:c9}{A:cp}{R:Aaz->ag->Prop}{I:Addr}{fp wr:List Addr}{G:Array Zr->Array Zr->Prop}{n:Nat}{P:Nat->ae->Prop}{St:Nat->ag->Prop}
abbrev rU (prog:b7)(w:c9)(val:Nat->Str)(S:Addr)(i:Nat)(h:Heap):Prop:=h.SetOf (strKind prog w) S (fun k=>((ay i).map val).any (·== k)) (tX val i)
theorem PM {S:Addr}{i:Nat}{h:Heap}(x:h.SetOf (strKind prog w) S (fun k'=>((ay i).map val).any (·== k')||decide (k'=val i)) (if((ay i).map val).any (·== val i)then tX val i else tX val i+1)):rU prog w val S (i+1) h:=by
 refine SetOf_congr x (fun k=>?_) rfl;rw[ki,dw,List.any_append];congr 1;simp only[bb,gg,kx,List.any_nil,yx];by_cases e:k=val i;·subst e;simp
 ·rw[decide_eq_false e];symm;exact beq_eq_false_iff_ne.mpr fun z=>e z.symm
theorem Aa (W:WalksS prog w A.in1 I fp wr G n P St)(S:Addr)(hSf:S∉fp)(val:Nat->Str)(hval:∀ i v,P i v->∃ t,v=.str (val i) t)(hb:n+1<vy):∀(k i:Nat)(s:ag),n-i=k->i<=n->St i s->rU prog w val S i s.heap->(∀ s',Moved (S::wr) G s s'->rU prog w val S n s'.heap->R (.ok (.ret .none)) s') -> lz (model prog w) A (.builtin "set.update.loop" ⟨[.ref S,.ref I],[]⟩) R s:=by
 have hSw:S∉wr:=fun h=>hSf (W.sub _ h);have hsub:∀ b∈wr,b∈S::wr:=fun b hb=>cq _ hb
 have keep:∀{i:Nat}{s s':ag},rU prog w val S i s.heap->Moved wr G s s'->rU prog w val S i s'.heap:=fun⟨o,es,ep,t,ho,rest⟩ hm=>⟨o,es,ep,t,hm.heap S _ hSw ho,rest⟩;intro k;induction k with|zero =>
 intro i s hk hi eV hS hR;obtain rfl:i=n:=by omega
 refine rj nq ?_;rw[qw j5 _];show wpAny _ A.in1 (v8 (.ref I) >>= _) _ _ s;refine af (W.done s _ _ eV fun s' hm=>?_);show wpAny _ A.in1 (ret j0) _ _ s';exact ar (hR s' (hm.mono hsub) (keep hS hm))|succ k ih =>
 intro i s hk hi eV hS hR;have cN:i<n:=by omega
 refine rj nq ?_;rw[qw j5 _];show wpAny _ A.in1 (v8 (.ref I) >>= _) _ _ s;refine af (W.item i s _ _ cN eV fun v s' hP hst' hm=>?_);obtain⟨t,rfl⟩:=hval i v hP;show wpAny _ A.in1 (ky [Yv (val i) t] (setAdd S (.str (val i) t)) >>= _) _ _ s';refine af (g7 ?_);unfold setAdd;refine g7 (af ((strKind prog w).pyHash (k:=val i) (zo _ _ _ _) ?_));refine wpAny_setAddHashed_of (knd:=strKind prog w) (s:={ s' with toks:=s'.toks+1 }) (zo _ _ _ _) rfl (show rU prog w val S i s'.heap from keep hS hm) (by have:=VM val i;omega) fun h' hsb hS2=>?_;refine ar ⟨plainId_quiet j5 _,ih (i+1) _ (by omega) cN (W.frame _ s' _ _ hst' (ur _) fun b hb o e=>?_) (PM hS2) fun s'' hm'' hS''=>?_⟩;·rw[hsb.2 b (fun h:b=S=>hSf (by rw[<-h];exact hb))];exact e
 ·refine hR s'' (Moved.trans W.gtrans ((hm.mono hsub).then_heap (ur _) fun b o hb e=>?_) hm'') hS'';rw[hsb.2 b (fun h:b=S=>hb (by rw[h];exact dh))];exact e
end
section
variable {prog:b7}{w:c9}{A:cp}{s:ag}
noncomputable abbrev iL (led:Bool):Obj:={ cls:=.type "set", dict:=none,data:=.set #[] 0 (.fresh 0 0 led) }
theorem GU {l:Addr}{led:Bool}{Q:PySem.Fin->ag->Prop}(hh:A.handled=none)(hl:s.heap.IsTuple l items)(hv:∀(i:Nat)(v:ae),items[i]? = some v->∃ t,v=.str (val i) t)(hb:items.size+1<vy)(h:∀(h':Heap)(tk:Nat),rU prog w val s.heap.objs.size items.size h'->(∀ b o,s.heap.get? b=some o->h'.get? b=some o)->Q (.done (.ret .none)) { s with heap:=h',toks:=tk }): wpAny (model prog w) A (Builtin.«set.__init__» ⟨[.ref s.heap.objs.size,.ref l],[]⟩) Q E { s with heap:=s.heap.push (iL led) }:=by
 obtain⟨ol,hol,hcl,nl,hdl⟩:=hl;obtain⟨ocls,odict,odata,oslots⟩:=ol;simp only at hcl hdl;subst hcl;subst hdl;have hS:(s.heap.push (iL led)).get? s.heap.objs.size=some (iL led):=br _ rfl;have hT:Aap { s with heap:=s.heap.push (iL led) } (.ref s.heap.objs.size) "set":=⟨_,hS,rfl⟩;have hol':(s.heap.push (iL led)).get? l=some { cls:=.type "tuple", dict:=odict,data:=.seq items nl,slots:=oslots }:=aj _ hol;have hsls:=PySem.F.sub_tuple_set;have hslf:=PySem.F.sub_tuple_frozenset;have hne:(gp "tuple" == gp "dict")=false:=by decide
 have hl1:(s.heap.push (iL led)).IsTuple l items:=⟨_,hol',rfl,nl,rfl⟩;unfold Builtin.«set.__init__» noKeywords Builtin.Frozenset.updateFrom;generalize hPI:xm=PI;wp_walk;subst hPI;refine ua hl1 ?_;refine af (wpAny_runValue ?_);have hlS:l<s.heap.objs.size:=bh hol;have hh3:A.in1.handled=none:=by simp [hh]
 have iS:(s.heap.push (iL led)).objs.size=s.heap.objs.size+1:=ju ..;have hneI:l≠(s.heap.push (iL led)).objs.size:=by rw[iS];exact b9 (kr hlS)
 have hSf:s.heap.objs.size∉[(s.heap.push (iL led)).objs.size,l]:=by simp only[bw,bj,or_false,not_or];exact⟨by rw[iS];exact b9 (gz _),ly hlS⟩
 refine Aa ((AaL hh3 _ l hneI items).toS) s.heap.objs.size hSf val hv hb (items.size-0) 0 _ (by omega) (dt _) ⟨?hT1,?hT0⟩ ?hS0 ?hR;case hT1=>exact⟨_,br _ rfl,rfl,rfl⟩
 case hT0=>exact⟨_,aj _ hol',rfl,nl,rfl⟩
 case hS0=>exact SetOf_congr ((setObjOf_fresh (knd:=strKind prog w) led).setOf (aj _ hS) (by unfold vy;omega)) (fun _=>rfl) rfl
 case hR =>intro s' hm hS';obtain⟨h',g',d',tk',os'⟩:=s';have eg:g'=s.gens:=hm.gens;have ed:d'=s.drawn:=hm.drawn;have eo:os'=s.os:=hm.os;subst eg;subst ed;subst eo;show wpAny _ _ _ _ _ _;refine ar ?_;show wpAny _ _ (ret j0) _ _ _;refine ar (h h' tk' hS' fun b o e=>?_);have hb1:b<s.heap.objs.size:=bh e;exact hm.heap b o (by simp only[bw,bj,or_false,not_or];exact⟨Nat.ne_of_lt hb1,by rw[iS];exact b9 (kr hb1)⟩) (aj _ (aj _ e))
set_option maxHeartbeats 6400000 in
theorem NU {l:Addr}{Q:ae->ag->Prop}(hh:A.handled=none)(hl:s.heap.IsTuple l items)(hv:∀(i:Nat)(v:ae),items[i]? = some v->∃ t,v=.str (val i) t)(hb:items.size+1<vy)(h:∀(h':Heap)(tk:Nat),rU prog w val s.heap.objs.size items.size h'->(∀ b o,s.heap.get? b=some o->h'.get? b=some o)->Q (.ref s.heap.objs.size) { s with heap:=h',toks:=tk }):wpAny (model prog w) A (call (.type "set") [.ref l]) Q E s:=by
 obtain⟨c,tl,hmro⟩:=PySem.F.called_set.mro;have hmade:=PySem.F.called_set.made;have hsub:=PySem.F.called_set.sub;refine wa (Zo ?_);show wpAny _ _ (callAny (.type "set") _) _ _ _;refine ar ⟨Code.quiet_builtin _ (by decide +kernel),rj PySem.F.entry_type_call ?_⟩;rw[Around.under_plain (weight_type_call_type "set" [.ref l] []) rfl];have h1:=PySem.F.called_set.notType;have h2:=PySem.F.called_set.canCreate;have hct:=PySem.F.typeCall_set_1 (.ref l);repeat (any_goals (first|assumption|wp_step))
 refine l0 (code_set_new_1 (.ref l) (E:=E) (Q₁:=fun obj bv=>∃ led:Bool,obj=.ref s.heap.objs.size/\bv = { s with heap:=s.heap.push (iL led) }) fun led=>⟨led,rfl,rfl⟩) fun r bv hr=>?_;cases r with|error e=>exact hr|ok fl =>cases fl with
 |ret obj =>
  obtain⟨led,rfl,rfl⟩:=hr;have hT:Aap { s with heap:=s.heap.push (iL led) } (.ref s.heap.objs.size) "set":=⟨_,br _ rfl,rfl⟩;have hli:=PySem.F.called_set.init.lookup;have hbi:=PySem.F.called_set.init.bind (.ref s.heap.objs.size);repeat (any_goals (first|assumption|wp_step))
  refine l0 (codeAny_call_builtin (R:=wants (fun r ce=>r=.none/\∃ h' tk,ce = { s with heap:=h',toks:=tk }/\rU prog w val s.heap.objs.size items.size h'/\(∀ b o,s.heap.get? b=some o->h'.get? b=some o)) E) PySem.F.called_set.init.plain PySem.F.entry_set_init (check_set_init_1 hT ?_)) fun lc ce sB=>?_;·exact GU (by simp [hh]) hl hv hb fun h' tk hS hk=>⟨rfl,h',tk,rfl,hS,hk⟩
  ·cases lc with|error e=>exact sB|ok xz =>
   cases xz with|ret r =>
   obtain⟨rfl,h',tk,rfl,hS',hk'⟩:=sB;repeat (any_goals (first|assumption|wp_step))
   exact h _ _ hS' hk'|_=>exact sB.elim
 |_=>exact hr.elim
end
noncomputable abbrev oI (ws:List (List Nat))(i:Nat):Str:=⟨(ws.getD i []).toArray⟩
theorem str_beq (a b:List Nat):((⟨a.toArray⟩:Str)==⟨b.toArray⟩)=(a==b):=by
 by_cases h:a=b;·subst h;simp
 ·rw[beq_eq_false_iff_ne.mpr h];refine beq_eq_false_iff_ne.mpr fun e=>h ?_;have e1:a.toArray=b.toArray:=congrArg Aa2 e;simpa using e1
theorem U3 (ws:List (List Nat)):∀(rest seen:List (List Nat)),ws=seen++rest->tX (oI ws) seen.length+AF seen rest=tX (oI ws) ws.length
 |[],seen,h=>by simp [h,AF]|w::r,seen,h=>by
  have ih:=U3 ws r (seen++[w]) (by simp [h]);rw[<-ih];have e1:oI ws seen.length=⟨w.toArray⟩:=by simp [oI,h]
  have e2:((ay seen.length).map (oI ws)).any (·== oI ws seen.length)=seen.any (·== w):=by
   have e3:(ay seen.length).map (oI ws)=seen.map fun x=>(⟨x.toArray⟩:Str):=by
    refine vz (by simp) fun i h1 h2=>?_;have hi:i<seen.length:=by simpa using h1
    simp [oI,h,bu hi,ai hi]
   rw[e3,e1,ku];congr 1;funext x;exact str_beq x w
  simp only[bq,bf,az,AF];have e5:tX (oI ws) (seen.length+1)=if seen.any (·== w)=true then tX (oI ws) seen.length else tX (oI ws) seen.length+1:=by rw[<-e2];rfl
  show _=tX (oI ws) (seen.length+1)+_;rw[e5];by_cases c:seen.any (·== w)=true;·rw[if_pos c,if_pos c];omega
  ·rw[if_neg c,if_neg c];omega
theorem IX {K:aa}{H:Hp}:∀{ds:List D}{ws:List (List Nat)}{vs:List V}{us:List ae},strsOf ds=some ws->aJ K H ds vs->aR vs us->us.length=ws.length/\∀(i:Nat)(v:ae),us[i]? = some v->∃ t,v=.str (oI ws i) t
 |[],ws,_,_,h,.nil,.nil=>by cases h;exact⟨rfl,fun i v e=>by simp at e⟩|.str w::r,ws,_,_,h,.cons rd rs,.cons rv rvs=>by have h:(strsOf r).map (w :: ·)=some ws:=h;obtain⟨ws',e,rfl⟩:=Option.map_eq_some_iff.mp h;obtain⟨l,ih⟩:=IX e rs rvs;refine⟨by simpa using l,fun i v e=>?_⟩;cases i with|zero =>cases rd.str_inv;obtain⟨t,rfl⟩:=rv;simp at e;exact⟨t,e.symm⟩|succ i=>exact ih i v (by simpa using e)
 |.non::_,_,_,_,h,_,_=>by cases h|.bl _::_,_,_,_,h,_,_=>by cases h|.int _::_,_,_,_,h,_,_=>by cases h|.tup _::_,_,_,_,h,_,_=>by cases h|.ref _::_,_,_,_,h,_,_=>by cases h|.dP _ _::_,_,_,_,h,_,_=>by cases h|.bR _::_,_,_,_,h,_,_=>by cases h|.exc _::_,_,_,_,h,_,_=>by cases h
theorem Xm {a b:D}{r:List D}{Q:VK}(h:iU .wY (a::b::r) st Q):False:=by cases a<;>first|exact h|(cases b<;>exact h)
section
variable {C:bG}{sub:Nat->Nat->Bool}{E:XK}{a:Expr}{x:Ex}{p p2 pos pos2:Pos}
theorem Xn (hm:X.mg "len" = none)(hm2:X.mg "set" = none)(ha:JA X C sub E [a] [x])(hc:X.calm=true:=by kernel_rfl)(hg:X.env.kindOf "len" = some .globalImplicit:=by kernel_rfl)(hg2:X.env.kindOf "set" = some .globalImplicit:=by kernel_rfl)(he:aq [.Call (.Name "set" p2) [a] [] pos2] X.env=(false,eval (.Call (.Name "set" p2) [a] [] pos2) X.env)::aq [] X.env:=by kernel_rfl)(dO:(eh pos (aq [] X.env)).any (·.1)=false:=by kernel_rfl)(he2:aq [a] X.env=(false,eval a X.env)::aq [] X.env:=by kernel_rfl)(hpl2:(eh pos2 (aq [] X.env)).any (·.1)=false:=by kernel_rfl):JE X C sub E (.Call (.Name "len" p) [.Call (.Name "set" p2) [a] [] pos2] [] pos) (.bi .wY [x]):=⟨by intro pz s σ H Q I ⟨ap,st,R,r,ok,q,hq⟩;refine fw (mV I hg hm dS ?_ (by decide) (by decide));rw[he];refine l4 (by show(false||(eh pos (aq [] X.env)).any (·.1))=false;rw[dO];rfl) (qs ?_);show wpAny _ _ (zu ((false,eval (.Call (.Name "set" p2) [a] [] pos2) X.env)::eh pos (aq [] X.env))) _ _ s;refine j9 ?_;refine fw (mV I hg2 hm2 Jp ?_ (by decide) (by decide));refine e9 (bF (ha.h pos2 pz s σ H _ I ⟨ap,st,_,r,ok,q,fun vs H' z=>z⟩) fun us s1 ⟨vs,H1,I1,rv,ds,aC,dH,aO,rs,q1⟩=>?_) he2 hpl2;match ds,rs,q1 with
 |[d],rs,q1 =>obtain⟨v,rfl,rd⟩:=rs.one;obtain⟨u,rfl,ru⟩:=vals1 rv;cases d with|tup es =>
   rw[IM]at q1;obtain⟨ws,e1,hl,q1⟩:=fE q1;obtain⟨l,vs,rfl,f,g⟩:=rd.cA;cases ru;obtain⟨aD,r1,pl,hz⟩:=I1.tuple f;obtain⟨hlen,hat⟩:=IX e1 g r1;have hh:X.A.handled=none:=I1.ok.hd hc;refine NU (val:=oI ws) hh (show s1.heap.IsTuple l aD.toArray from pl) (fun i v e=>hat i v (by simpa using e)) (by simp;unfold vy;omega) fun h' tk hS hk=>?_;refine pk ?_;have I2:Inv X pz σ H1 { s1 with heap:=h',toks:=tk }:=I1.kept hk;obtain⟨o,es',ep,t,ho,hex,hd,hel,hmem,hb,hf,hn⟩:=hS;refine call_len_set (s:={ s1 with heap:=h',toks:=tk }) ho hex hd hf (by unfold vy at hb;omega) ?_;have hn2:es'.size=AF [] ws:=by rw[hn];have:=U3 ws ws [] rfl;simp only[az,tX,si]at this;rw[this];simp [hlen]
   rw[hn2];exact⟨.int (AF [] ws:Nat),H1,I2.tok _,⟨_,rfl⟩,hq _ _ (.after dH (.here aO (.int _) q1))⟩|ref b =>obtain⟨_,_,z⟩:=dQ (show cO aC b fun xs=>fK .wY xs aC R from q1);exact(show False from z).elim|_=>exact(show False from q1).elim
 |[],rs,q1=>exact(show False from q1).elim|_::_::_,rs,q1=>exact(Xm q1).elim⟩
end
end L3
end
section
namespace L3
open PySem PySem.Spec PyProof.Rows L2
variable {X:Cx}{C:bG}{n:Str}{own:List Str}{fp:List Addr}{H:Hp}
theorem pB.qQ {i:Nat}{scope:Scope}{cn:List Str}{s:ag}{Ca:Addr}(h:pB X C n i):pB (lQ X scope own cn fp s H Ca) C n i:=let⟨a,b⟩:=h;⟨a,b⟩
variable {b:Expr}
section
variable {K:aa}
theorem str_inj {a b:List Nat}(h:(⟨a.toArray⟩:Str)=⟨b.toArray⟩):a=b:=by have:a.toArray=b.toArray:=congrArg Aa2 h;simpa using this
theorem jG.get {f:List Nat}{d:D}:∀{fs:List (List Nat×D)}{ws:List (Str×V)},jG K H fs ws->bY fs f=some d->∃ v,ws.lookup (⟨f.toArray⟩:Str)=some v/\Rep K H d v|[],_,_,h=>by cases h|(g,e)::fs,[],r,_=>by cases r.1|(g,e)::fs,(g',v)::ws,r,h=>by obtain⟨r1,r2⟩:=r;simp only[bb,rl]at r1;cases r2 with|cons rd rs =>
   simp only[bY]at h;by_cases q:g=f;·rw[if_pos q]at h;cases h;refine⟨v,?_,rd⟩;simp [jc,r1.1,q]
   ·rw[if_neg q]at h;obtain⟨v',e1,e2⟩:=jG.get (fs:=fs) (ws:=ws) ⟨r1.2,rs⟩ h;refine⟨v',?_,e2⟩;have:((⟨f.toArray⟩:Str)==g')=false:=beq_eq_false_iff_ne.mpr fun z=>q (str_inj (by rw[z];exact r1.1.symm));simp only[jc,this];exact e1
theorem jG.no {f:List Nat}:∀{fs:List (List Nat×D)}{ws:List (Str×V)},jG K H fs ws->bY fs f=none->ws.lookup (⟨f.toArray⟩:Str)=none|[],[],_,_=>rfl|[],_::_,r,_=>by cases r.1|(g,e)::fs,[],r,_=>by cases r.1|(g,e)::fs,(g',v)::ws,r,h=>by obtain⟨r1,r2⟩:=r;simp only[bb,rl]at r1;cases r2 with|cons rd rs =>
   simp only[bY]at h;by_cases q:g=f;·rw[if_pos q]at h;cases h
   ·rw[if_neg q]at h;have:((⟨f.toArray⟩:Str)==g')=false:=beq_eq_false_iff_ne.mpr fun z=>q (str_inj (by rw[z];exact r1.1.symm));simp only[jc,this];exact jG.no (fs:=fs) (ws:=ws) ⟨r1.2,rs⟩ h
theorem jG.put {f:List Nat}{d:D}{v:V}(rd:Rep K H d v):∀{fs:List (List Nat×D)}{ws:List (Str×V)},jG K H fs ws->jG K H (sR f d fs) (jR ⟨f.toArray⟩ v ws)|[],[],_=>⟨rfl,.cons rd .nil⟩|[],_::_,r=>by cases r.1|(g,e)::fs,[],r=>by cases r.1|(g,e)::fs,(g',v')::ws,r=>by obtain⟨r1,r2⟩:=r;simp only[bb,rl]at r1;cases r2 with|cons rd' rs =>
   by_cases q:g=f
   ·have q':g'=(⟨f.toArray⟩:Str):=by rw[r1.1,q]
    simp only[sR,jR,if_pos q,if_pos q'];exact⟨by simp [r1.1,r1.2],.cons rd rs⟩
   ·have q':¬g'=(⟨f.toArray⟩:Str):=fun z=>q (str_inj (r1.1.symm.trans z));simp only[sR,jR,if_neg q,if_neg q'];have ih:=jG.put (f:=f) rd (fs:=fs) (ws:=ws) ⟨r1.2,rs⟩;exact⟨by simp [r1.1,ih.1],.cons rd' ih.2⟩
theorem jG.length {fs:List (List Nat×D)}{ws:List (Str×V)}(r:jG K H fs ws):ws.length=fs.length:=by have:=congrArg Zk r.1;simpa using this
end
variable {st:aB}
theorem AI {a:Nat}{P:List Nat->List (List Nat×D)->Prop}(h:oS st a P):∃ c fs,st a=some (.ins c fs)/\P c fs:=by
 unfold oS at h;split at h;·exact⟨_,_,by assumption,h⟩
 ·exact h.elim
variable {P:b7}
theorem zN {a:Nat}{P:List D->List D->Prop}(h:tabAt st a P):∃ c fs,st a=some (.tab c fs)/\P c fs:=by
 unfold tabAt at h;split at h;·exact⟨_,_,by assumption,h⟩
 ·exact h.elim
variable {f:List Nat}{x:Ex}{Q:aB->Prop}
theorem ZP {c:List Nat}{x:D}{Q:VK}(h:rK c f x st Q):∃ a fs d,x=.ref a/\st a=some (.ins c fs)/\bY fs f=some d/\Q d st:=by
 unfold rK at h;split at h;·obtain⟨c',fs,e,rfl,q⟩:=AI h;obtain⟨d,e1,q⟩:=fE q;exact⟨_,fs,d,rfl,e,e1,q⟩
 ·exact h.elim
theorem Cy {c:List Nat}{v x:D}(h:FL c f v x st Q):∃ a fs,x=.ref a/\st a=some (.ins c fs)/\fs.length<900/\Q (put st a (.ins c (sR f v fs))):=by
 unfold FL at h;split at h;·obtain⟨c',fs,e,rfl,l,q⟩:=AI h;exact⟨_,fs,rfl,e,l,q⟩
 ·exact h.elim
variable {m:List Nat}
theorem YL {c:List Nat}{x:D}(h:HI c m x st):∃ a fs,x=.ref a/\st a=some (.ins c fs)/\bY fs m=none:=by
 unfold HI at h;split at h;·obtain⟨c',fs,e,rfl,q⟩:=AI h;exact⟨_,fs,rfl,e,q⟩
 ·exact h.elim
structure tY (K:aa)(c:List Nat):Prop where h:∃ C,clsAt K c C/\wJ K C
structure qI (K:aa)(c f:List Nat):Prop where h:∀ C,clsAt K c C->tN K C ⟨f.toArray⟩
structure qY (X:Cx)(C:bG)(c:List Nat)(n:Str)(fid:Nat):Prop where h:∃ k f fd ps C0,fP X.prog X.w X.K X.mg X.base dZ k f fd ps (fZ X.K C fid)/\dM k X.A/\Binds X.K fd ps []/\clsAt X.K c C0/\wJ X.K C0/\GR X.K C0 n f
structure A7 (X:Cx)(C:bG)(c:List Nat)(n:Str)(fid:Nat):Prop where h:∃ k f fd ps C0,fP X.prog X.w X.K X.mg X.base dZ k f fd ps (fZ X.K C fid)/\dM (k+1) X.A/\Binds X.K fd ps []/\clsAt X.K c C0/\X.mg n=some (.ref C0)/\Mk X.K C0 f
theorem qY.qQ {c:List Nat}{i:Nat}{scope:Scope}{cn:List Str}{s:ag}{Ca:Addr}(h:qY X C c n i):qY (lQ X scope own cn fp s H Ca) C c n i:=let⟨a,b⟩:=h;⟨a,b⟩
variable {E:XK}{y:Ex}{xs:List (D×Addr×Value)}{p:Pos}{k:Nat}{pl:Sem Bool}
section
variable {sub:Nat->Nat->Bool}{a e o value:Expr}{es:List Expr}{xs:List Ex}{pos apos pos':Pos}{c:List Nat}{fid:Nat}
theorem Td (hn:n=⟨f.toArray⟩)(hc:tY X.K c)(hna:qI X.K c f)(ho:PE X o (cF X.K (aG C sub E x)))(hb:gu o n X.env (eval o X.env)=eval o X.env):PE X (.Attribute o n pos) (cF X.K (aG C sub E (.fld c f x))) :=(Jk ho hb).imp fun σ H Q ⟨ap,st,R,r,ok,q,hq⟩=>by refine⟨ap,st,_,r,ok,q,fun v H1 ⟨d,aC,s1,aO,r1,q1⟩=>?_⟩;obtain⟨a,fs,d',rfl,e,ed,q1⟩:=ZP q1;cases r1.cQ;obtain⟨C0,dx,ws,h1,h2,h3⟩:=aO a _ e;obtain⟨v,l,rv⟩:=jG.get h3 ed;obtain⟨C',c1,c2⟩:=hc.h;have eC:=c1.inj h1;subst eC;exact⟨a,C',dx,ws,v,rfl,h2,c2,by rw[hn];exact hna.h C' c1,by rw[hn];exact l,hq _ _ (.after s1 (.here aO rv q1))⟩
theorem Pw (hC:bU C C)(hn:n=⟨f.toArray⟩)(hc:tY X.K c)(hna:qI X.K c f)(ho:PE X o (cF X.K (aG C sub EF y)))(hv:PE X value (cF X.K (aG C sub EF x)))(hs:my value (some (.Attribute o n pos')) pos.line X.env=pure false):PS X (.Assign [.Attribute o n pos'] value pos) (iX X.K (wpS C sub (.asg (.fl c f y) x))) :=(Ld ho hv hs).imp fun D σ H ⟨ap,st,P,r,ok,q,h⟩=>by refine⟨ap,st,_,r,ok,tE hC h.ex q,fun v H1 ⟨d,aC,s1,aO,rd,q1⟩=>?_⟩;refine⟨ap,aC,_,r.step ok s1,aO,tE hC h.ex q1,fun u H2 ⟨d2,aF,s2,bZ,r2,q2⟩=>?_⟩;obtain⟨a,fs,rfl,e,l,q2⟩:=Cy q2;cases r2.cQ;obtain⟨C0,dx,ws,h1,h2,h3⟩:=bZ a _ e;obtain⟨C',c1,c2⟩:=hc.h;have eC:=c1.inj h1;subst eC;have s3:Step H2 aF (upd H2 a (.ins C' dx (jR n v ws))) (put aF a (.ins c (sR f d fs))):=mF e;have rd2:=(rd.step aO s2).step bZ s3;have h3':jG X.K (upd H2 a (.ins C' dx (jR n v ws))) fs ws:=⟨h3.1,h3.2.step bZ s3⟩;refine⟨a,C',dx,ws,rfl,h2,c2,by rw[hn];exact hna.h C' c1,by rw[h3.length];omega,h.nx _ _ _ _ (((r.step ok s1).step aO s2).step bZ s3) ((s1.trans s2).trans s3) (bZ.GX e ?_) q2⟩;exact⟨C',dx,_,c1,dE,by rw[hn]at *;exact jG.put rd2 h3'⟩
theorem Rb {fa:Addr}{fd:h9}{ps:List Str}{C0:Addr}(hn:n=⟨m.toArray⟩)(hcl:clsAt X.K c C0)(hC0:wJ X.K C0)(hm:GR X.K C0 n fa)(F:fP X.prog X.w X.K X.mg X.base dZ k fa fd ps (fZ X.K C fid))(hr:dM k X.A)(hb:Binds X.K fd ps [])(ho:PE X o (cF X.K (aG C sub EF x)))(ha:PA X (e::es) (kU X.K (bM C sub EF xs)))(eV:aq (e::es) X.env=(false,eval e X.env)::aq es X.env)(dO:(eh pos (aq es X.env)).any (·.1)=false)(ht:eval (.Call (.Attribute o n apos) (e::es) [] pos) X.env=(do
  let ov <-eval o X.env
  pe apos.atName let(f,first) <-ky [ov] (vg ov n pl)xo pos f first (eh pos (aq (e::es) X.env)) (pj pos (km [] X.env)))):PE X (.Call (.Attribute o n apos) (e::es) [] pos) (cF X.K (aG C sub EF (.mcl c m fid x xs))) :=(Gd (pl:=pl) ho hC0 hm F hr hb .nil K7 ha eV dO ht).imp fun σ H Q ⟨ap,st,R,r,ok,q,hq⟩=>by refine⟨ap,st,_,r,ok,q,fun v H1 ⟨d,aC,s1,aO,r1,q1,q2⟩=>?_⟩;obtain⟨a,fs,rfl,e0,l⟩:=YL q1;cases r1.cQ;obtain⟨C1,dx,ws,h1,h2,h3⟩:=aO a _ e0;cases hcl.inj h1;refine⟨a,dx,ws,rfl,h2,by rw[hn];exact jG.no h3 l,?_⟩;refine⟨ap,aC,_,r.step ok s1,aO,q2,fun vs H2 ⟨ds,aF,s2,bZ,r2,q3⟩=>?_⟩;show fZ X.K C fid (.ref a::(vs++[])) H2 Q E0;rw[d5];exact⟨.ref a::ds,aF,R,.cons (.ref a) r2,bZ,q3,fun v H' z=>hq _ _ (.after (s1.trans s2) z)⟩
theorem Uw {fa:Addr}{fd:h9}{ps:List Str}{C0:Addr}(hcl:clsAt X.K c C0)(hM:Mk X.K C0 fa)(F:fP X.prog X.w X.K X.mg X.base dZ k fa fd ps (fZ X.K C fid))(hr:dM (k+1) X.A)(hg:Gl X n)(hmg:X.mg n=some (.ref C0))(hb:Binds X.K fd ps [])(ha:PA X (e::es) (kU X.K (bM C sub EF xs)))(hdb:(n==("__debug__" : Str))=false)(he:aq (e::es) X.env=(false,eval e X.env)::aq es X.env)(dO:(eh pos (aq es X.env)).any (·.1)=false):PE X (.Call (.Name n p) (e::es) [] pos) (cF X.K (aG C sub EF (.mk c fid xs))) :=(Ds hM F hr hg hmg hb .nil K7 ha hdb he dO).imp fun σ H Q ⟨ap,st,R,r,ok,q,hq⟩=>by
 refine⟨ap,st,_,r,ok,q,fun vs H1 ⟨ds,aC,s1,aO,r1,q1⟩=>?_⟩;intro x dx hx hdx hne;show fZ X.K C fid (.ref x::(vs++[])) _ _ E0;rw[d5];have bZ:aS X.K aC (upd H1 dx (.own x)):=aO.new hdx;have s2:Step H1 aC (upd H1 dx (.own x)) aC:=kR hdx;have hx2:upd H1 dx (.own x) x=none:=by rw[bI (fj hne)];exact hx
 have s3:Step (upd H1 dx (.own x)) aC (upd (upd H1 dx (.own x)) x (.ins C0 dx [])) (put aC x (.ins c [])):=nV hx2;have qZ:aS X.K (put aC x (.ins c [])) (upd (upd H1 dx (.own x)) x (.ins C0 dx [])):=bZ.ZM hx2 ⟨C0,dx,[],hcl,dE,rfl,.nil⟩;refine⟨.ref x::ds,put aC x (.ins c []),_,.cons (.ref x) ((r1.step aO s2).step bZ s3),qZ,q1 x (aO.fresh hx),fun v H' ⟨d,aA,s',fX,rd,ed,q'⟩=>?_⟩;subst ed;exact⟨rd.gC,hq _ _ (.after ((s1.trans s2).trans (s3.trans s')) (.here fX (.ref x) q'))⟩
theorem gH (c:List Nat)(hc:tY X.K c)(hna:qI X.K c f)(ho:JE X C sub E o x)(hn:n=⟨f.toArray⟩:=by kernel_rfl)(hb:gu o n X.env (eval o X.env)=eval o X.env:=by kernel_rfl):JE X C sub E (.Attribute o n pos) (.fld c f x):=⟨Td hn hc hna ho.h hb⟩
theorem zG (m:bU C C)(c:List Nat)(hc:tY X.K c)(hna:qI X.K c f)(ho:JE X C sub EF o y)(hv:JE X C sub EF value x)(hn:n=⟨f.toArray⟩:=by kernel_rfl)(hs:my value (some (.Attribute o n pos')) pos.line X.env=pure false:=by kernel_rfl): JS X C sub (.Assign [.Attribute o n pos'] value pos) (.asg (.fl c f y) x):=⟨Pw m hn hc hna ho.h hv.h hs⟩
theorem tL {mm:List Nat}(h:qY X C c n fid)(ho:JE X C sub EF o x)(ha:JA X C sub EF (e::es) xs)(hn:n=⟨mm.toArray⟩:=by kernel_rfl)(eV:aq (e::es) X.env=(false,eval e X.env)::aq es X.env:=by kernel_rfl)(dO:(eh pos (aq es X.env)).any (·.1)=false:=by kernel_rfl)(ht:eval (.Call (.Attribute o n apos) (e::es) [] pos) X.env=(do
  let ov <-eval o X.env
  pe apos.atName let(f,first) <-ky [ov] (vg ov n pl)xo pos f first (eh pos (aq (e::es) X.env)) (pj pos (km [] X.env))):=by rfl):JE X C sub EF (.Call (.Attribute o n apos) (e::es) [] pos) (.mcl c mm fid x xs):=⟨let⟨k,f,fd,ps,C0,h1,h2,h3,h4,h5,h6⟩:=h.h;Rb hn h4 h5 h6 h1 h2 h3 ho.h ha.h eV dO ht⟩
theorem Ay (h:A7 X C c n fid)(ha:JA X C sub EF (e::es) xs)(hg:X.env.kindOf n=some .globalImplicit:=by kernel_rfl)(hdb:(n==("__debug__" : Str))=false:=by kernel_rfl)(he:aq (e::es) X.env=(false,eval e X.env)::aq es X.env:=by kernel_rfl)(dO:(eh pos (aq es X.env)).any (·.1)=false:=by kernel_rfl): JE X C sub EF (.Call (.Name n p) (e::es) [] pos) (.mk c fid xs):=⟨let⟨k,f,fd,ps,C0,h1,h2,h3,h4,h5,h6⟩:=h.h;Uw h4 h6 h1 h2 hg h5 h3 ha.h hdb he dO⟩
end
variable {pz:List (Addr×Obj)}{σ:L2.St}
section
variable {s:ag}
mutual
theorem MN (I:Inv X pz σ H s):∀{d:D}{v:V}{u:ae},jO d=true->Rep X.K H d v->RelV v u->kI s.heap d u|_,_,u,_,.str x,rv=>by obtain⟨tk,rfl⟩:=rv;exact .str x tk|_,_,u,t,.tup h r,rv=>by cases rv;obtain⟨aD,r1,⟨o,e,c,n,d⟩,_⟩:=I.tuple h;exact .tup e c d (by simpa using P2 I (by simpa [jO]using t) r r1)|_,_,_,t,.non,_=>by cases t|_,_,u,_,.bl b,rv=>by cases rv;exact .bl b|_,_,_,t,.int _,_=>by cases t|_,_,_,t,.ref _,_=>by cases t|_,_,_,t,.bR _ _,_=>by cases t|_,_,_,t,.dP _,_=>by cases t;theorem P2 (I:Inv X pz σ H s):∀{ds:List D}{vs:List V}{us:List ae},jW ds=true->aJ X.K H ds vs->aR vs us->gM s.heap ds us|_,_,_,_,.nil,rv=>by cases rv;exact .nil|_,_,_,t,.cons h r,rv=>by simp only[jW,bc]at t;cases rv with|cons r1 r2=>exact .cons (MN I t.1 h r1) (P2 I t.2 r r2)end
theorem key_is (I:Inv X pz σ H s){d:D}{v:V}{u:ae}(k:keyed d)(r:Rep X.K H d v)(rv:RelV v u):∃ a,u=.ref a/\v=.ref a/\(uK X.prog X.w).is s.heap d a:=by have h:=MN I k.txt r rv;cases d with|tup ds =>obtain⟨a,vs,rfl,_,_⟩:=r.cA;cases rv;exact⟨a,rfl,rfl,k,h⟩|_=>exact k.elim
theorem GD (I:Inv X pz σ H s)(ok:aS X.K st H){a:Addr}{ks vs:List D}(e:st a=some (.tab ks vs)):∃(xs:List (D×Addr×Value))(ws:List V),H a=some (sM a xs)/\(a==qe)=false/\xs.map (·.1)=ks/\(∀ x∈xs,keyed x.1)/\aR ws (xs.map (·.2.2))/\aJ X.K H vs ws/\aJ X.K H ks (xs.map fun x=>.ref x.2.1) /\ s.heap.DictOfH (uK X.prog X.w) a xs:=by
 obtain⟨xs,ws,q,q0,q1,q2,q3,q4,q5,r⟩:=ok a _ e;refine⟨xs,ws,q,q0,q1,q4,q5,r,q3,?_⟩;obtain⟨⟨o,es,ep,h1,h2,h3,h4⟩,_⟩:=I.bO a _ q;refine⟨o,es,ep,h1,h2,h3,h4,fun x hx=>?_,q2⟩;obtain⟨j,hj⟩:=List.mem_iff_getElem?.mp hx;have e1:ks[j]? = some x.1:=by rw[<-q1,bg,hj];rfl
 obtain⟨v,e2,rv⟩:=q3.get e1;have e3:v=.ref x.2.1:=by rw[bg,hj]at e2;exact(c7 e2).symm
 subst e3;exact⟨q4 x hx,MN I (q4 x hx).txt rv rfl⟩
theorem L6 {k:D}(kk:keyed k)(h:∀ x∈xs,keyed x.1):(atKey xs k).isSome=(xs.map (·.1)).any fun y=>bT y k:=by induction xs with|nil=>rfl|cons x xs ih =>
 have ih:=ih fun y hy=>h y (by simp [hy]);simp only[bb,kx,<-ih,GQ (h x (by simp)).txt kk.txt];by_cases q:x.1=k;·simp [atKey,q]
 ·simp [atKey,q]
theorem Q3 {K:aa}{k:D}(kk:keyed k){d:D}:∀{xs:List (D×Addr×Value)}{vs:List D}{ws:List V},(∀ x∈xs,keyed x.1)->aR ws (xs.map (·.2.2))->aJ K H vs ws->lP (xs.map (·.1)) vs k=some d->∃ p v,atKey xs k=some p/\RelV v p.2/\Rep K H d v|[],_,_,_,_,_,h=>by simp [lP]at h|x::xs,[],_,_,rv,r,h=>by simp [lP]at h|x::xs,d0::vs,ws,hk,rv,r,h=>by cases r with|cons r1 r2 =>cases rv with|cons v1 v2 =>
    simp only[bb,lP]at h;rw[GQ (hk x (by simp)).txt kk.txt]at h;by_cases q:x.1=k;·rw[if_pos (by simpa using q)]at h;cases h;exact⟨x.2,_,by simp [atKey,q],v1,r1⟩
    ·rw[if_neg (by simpa using q)]at h;obtain⟨p,v,e1,e2,e3⟩:=Q3 kk (fun y hy=>hk y (by simp [hy])) v2 r2 h;exact⟨p,v,by simpa [atKey,q]using e1,e2,e3⟩
end
section
variable {sub:Nat->Nat->Bool}{a e o i value:Expr}{z:Ex}{pos apos pos':Pos}
theorem Ry (hu:X.A.units+180<cLine)(neg:Bool):pL X (if neg=true then .NotIn else .In) (fun d d' st P=>yQ d d' st fun b=>P (if neg=true then !b else b)):=by
 intro pz s σ H st d d' v v' u u' P I ok r rv r' bJ q;unfold yQ at q;split at q
 ·obtain⟨ks,vs,e,hk,q⟩:=zN q;cases r'.cQ;cases bJ;obtain⟨xs,ws,t1,t2,t3,t4,t5,t6,t8,t7⟩:=GD I ok e;obtain⟨ka,rfl,rfl,hka⟩:=key_is I hk r rv;have hroom:(uK X.prog X.w).room X.A.in1:=by show X.A.in1.units+12<cLine;simp only[gh];omega
  rw[<-t3,<-L6 hk t4]at q;cases neg with|true=>exact wpAny_notIn_heap hroom hka t2 t7 ⟨_,rfl,q,I.tok _⟩|false=>exact wpAny_in_heap hroom hka t2 t7 ⟨_,rfl,q,I.tok _⟩
 ·exact q.elim
theorem VH {neg:Bool}(hu:X.A.units+180<cLine)(ha:PE X a (cF X.K (aG C sub E x)))(hb:PE X b (cF X.K (aG C sub E y)))(hm:me (if neg=true then .NotIn else .In) b=false):PT X (.Compare a [if neg=true then .NotIn else .In] [b] pos) (kW X.K (aG C sub E (.din neg x y))):=by intro pz s σ H Q I ⟨ap,st,R,r,ok,q,hq⟩;refine xj (bF (ha pz s σ H _ I ⟨ap,st,_,r,ok,q,fun v H' z=>z⟩) fun u s1 ⟨v,H1,I1,rv,d,aC,dH,aO,r1,q1⟩ =>bF (hb pz s1 σ H1 _ I1 ⟨ap,aC,_,r.step ok dH,aO,q1,fun v H' z=>z⟩) fun u' s2 ⟨v',H2,I2,bJ,d',aF,hZ,bZ,r2,q2⟩ =>bF (Ry hu neg pz s2 σ H2 aF d d' v v' u u' (fun k=>R k aF) I2 bZ (r1.step aO hZ) rv r2 bJ q2) fun w s3 ⟨k,e,q3,I3⟩=>?_) hm;subst e;exact mi ⟨H2,I3,hq _ _ ⟨aF,dH.trans hZ,bZ,q3⟩⟩
noncomputable def Ui (K:aa):R2:=fun v v' H Q=>∃ d d' st R,Rep K H d v/\Rep K H d' v'/\aS K st H/\tF d' d st R/\∀ v H',QD K H st R v H'->Q v H'
theorem Kz (hu:X.A.units+180<cLine):zA X (Ui X.K):=by
 intro value slice pz s σ H x y v u Q I rx ry h hs;obtain⟨d,d',st,R,r1,r2,ok,q,hq⟩:=h;unfold tF at q;split at q
 ·obtain⟨ks,vs,e,hk,q⟩:=zN q;obtain⟨d0,e0,q⟩:=fE q;cases r1.cQ;cases rx;obtain⟨xs,ws,t1,t2,t3,t4,t5,t6,t8,t7⟩:=GD I ok e;obtain⟨ka,rfl,rfl,hka⟩:=key_is I hk r2 ry;have hroom:(uK X.prog X.w).room X.A.in1:=by show X.A.in1.units+12<cLine;simp only[gh];omega
  rw[<-t3]at e0;obtain⟨pp,v0,e1,e2,e3⟩:=Q3 hk t4 t5 t6 e0;refine px (x:=pp.2) t7.typeIs slot_dict_getitem.lookup ?_ hs;exact wpAny_getItem_heap hroom hka t7 e1 ⟨rfl,v0,H,I.tok _,e2,hq _ _ (.here ok e3 q)⟩
 ·exact q.elim
theorem Oe (hu:X.A.units+180<cLine)(ha:PE X a (cF X.K (aG C sub E x)))(hb:PE X b (cF X.K (aG C sub E y)))(hp:wX b):PE X (.Subscript a b pos) (cF X.K (aG C sub E (.dix x y))) :=(Cb (Kz hu) ha hb hp).imp fun σ H Q ⟨ap,st,R,r,ok,q,hq⟩=>by refine⟨ap,st,_,r,ok,q,fun v H1 ⟨d,aC,s1,aO,r1,q1⟩=>?_⟩;refine⟨ap,aC,_,r.step ok s1,aO,q1,fun v' H2 ⟨d',aF,s2,bZ,r2,q2⟩=>?_⟩;exact⟨d,d',aF,R,r1.step aO s2,r2,bZ,q2,fun v H' z=>hq _ _ (.after (s1.trans s2) z)⟩
theorem Tw {s:ag}(I:Inv X pz σ H s):qe<s.heap.objs.size:=by have h:cz<s.heap.objs.size:=(I.mod.glob.keeps I.bk).lt;exact AaB (by decide) h
theorem uU {a:Addr}{w:c9}:∀ h1 h2:Heap,SI a xs w h1->(∀ o,h1.get? a=some o->h2.get? a=some o)->SI a xs w h2:=fun h1 h2 ⟨o,es,ep,e,r⟩ k=>⟨o,es,ep,k o e,r⟩
theorem Kd:PE X (.Dict [] [] pos) (cF X.K (aG C sub E .dnew)):=fun pz s σ H Q I ⟨ap,st,R,r,ok,q,hq⟩=>by
 have hf:H s.heap.objs.size=none:=I.bO.fresh (aw _);refine wpAny_Dict_empty ⟨.ref s.heap.objs.size,_,I.laid (a:=s.heap.objs.size) (o:=sM s.heap.objs.size []) (t':=s.toks) (fun _ _ q=>aj _ q) (aw _) ?_,rfl,hq _ _ ⟨.ref s.heap.objs.size,put st s.heap.objs.size (.tab [] []),nV hf,ok.ZM hf ?_,.ref _,q _ (ok.fresh hf)⟩⟩;·exact⟨⟨_,#[],0,br _ rfl,⟨rfl,rfl,rfl⟩,rfl,rfl⟩,⟨_,br _ rfl⟩,uU⟩
 ·exact⟨[],[],dE,beq_eq_false_iff_ne.mpr (ly (Tw I)),rfl,yg,.nil,fun x hx=>(by cases hx),.nil,.nil⟩
theorem QS {x v y:D}(h:zU x v y st Q):∃ a ks vs,y=.ref a/\st a=some (.tab ks vs)/\keyed x/\(ks.any fun k=>bT k x)=false/\ks.length<10000/\Q (put st a (.tab (ks++[x]) (vs++[v]))):=by
 unfold zU at h;split at h;·obtain⟨ks,vs,e,h1,h2,h3,q⟩:=zN h;exact⟨_,ks,vs,rfl,e,h1,h2,h3,q⟩
 ·exact h.elim
theorem Vq (hC:bU C C)(hu:X.A.units+180<cLine)(ho:PE X o (cF X.K (aG C sub EF y)))(hi:PE X i (cF X.K (aG C sub EF z)))(hv:PE X value (cF X.K (aG C sub EF x)))(hs:my value (some (.Subscript o i pos')) pos.line X.env=pure false): PS X (.Assign [.Subscript o i pos'] value pos) (iX X.K (wpS C sub (.asg (.dk y z) x))):=by
 intro pz s σ H D I ⟨ap,st,P,r,ok,q,h⟩;refine wpAny_Assign_Subscript (bF (hv pz s σ H _ I ⟨ap,st,_,r,ok,tE hC h.ex q,fun v H' z=>z⟩) fun uv s1 ⟨v,H1,I1,rv,d,aC,dH,aO,rd,q1⟩ =>bF (ho pz s1 σ H1 _ I1 ⟨ap,aC,_,r.step ok dH,aO,tE hC h.ex q1,fun v H' z=>z⟩) fun uo s2 ⟨vo,H2,I2,rvo,d2,aF,hZ,bZ,rd2,q2⟩ =>bF (hi pz s2 σ H2 _ I2 ⟨ap,aF,_,(r.step ok dH).step aO hZ,bZ,tE hC h.ex q2,fun v H' z=>z⟩) fun ui s3 ⟨vi,H3,I3,rvi,d3,aX,s3s,qZ,rd3,q3⟩=>?_) hs;obtain⟨da,ks,vs,ed2,e,hk,hnew,hlen,q4⟩:=QS q3
 ·subst ed2;cases rd2.cQ;cases rvo;obtain⟨xs,ws,t1,t2,t3,t4,t5,t6,t8,t7⟩:=GD I3 qZ e;obtain⟨ka,rfl,rfl,hka⟩:=key_is I3 hk rd3 rvi;have hroom:(uK X.prog X.w).room X.A.in1:=by show X.A.in1.units+12<cLine;simp only[gh];omega
  have hno:atKey xs d3=none:=by have:=L6 (k:=d3) hk t4;rw[t3,hnew]at this;cases q:atKey xs d3 with|none=>rfl|some p=>rw[q]at this;cases this
  have hxl:xs.length=ks.length:=by rw[<-t3];simp
  refine wpAny_setItem_heap hroom hka t7 (fun h' hm hsb=>?_) (by rw[gA,hxl];have h10:(10000:Nat)<=bE:=(by decide);omega);rw[storedH_new hno]at hm;obtain⟨o',es,ep,m1,m2,m3,m4,m5,m6⟩:=id hm;have hS:Step H3 aX (upd H3 da (sM da (xs++[(d3,ka,uv)]))) (put aX da (.tab (ks++[d3]) (vs++[d]))):=mF e;have I4:Inv X pz σ (upd H3 da (sM da (xs++[(d3,ka,uv)]))) { s3 with heap:=h',toks:=s3.toks+(uK X.prog X.w).draws d3 }:=by refine I3.write (x:=da) (e:=da) (by rw[t1];exact cy) (.inl rfl) (fun b u hb z=>(hsb.2 b hb).trans z) ⟨o',m1⟩ ?_;exact⟨⟨o',es,ep,m1,m2,m3,m4⟩,⟨o',m1⟩,uU⟩
  refine⟨σ,_,I4,h.nx _ _ _ _ ((((r.step ok dH).step aO hZ).step bZ s3s).step qZ hS) (((dH.trans hZ).trans s3s).trans hS) (qZ.GX e ?_) q4⟩;refine⟨xs++[(d3,ka,uv)],ws++[v],dE,t2,by simp [t3],m6,?_,?_,?_,?_⟩;·rw[dw];exact(t8.step qZ hS).append (.cons (rd3.step qZ hS) .nil)
  ·intro x hx;rcases List.mem_append.mp hx with hx|hx;·exact t4 x hx
   ·simp only[ah]at hx;subst hx;exact hk
  ·rw[dw];exact t5.append (.cons rv .nil)
  ·exact(t6.step qZ hS).append (.cons ((((rd.step aO hZ).step bZ s3s)).step qZ hS) .nil)
theorem Xs (hu:X.A.units+180<cLine)(ha:JE X C sub E a x)(hb:JE X C sub E b y)(hm:me .In b=false:=by kernel_rfl):JT X C sub E (.Compare a [.In] [b] pos) (.din false x y):=⟨VH (neg:=false) hu ha.h hb.h hm⟩
theorem Yb (hu:X.A.units+180<cLine)(ha:JE X C sub E a x)(hb:JE X C sub E b y)(hm:me .NotIn b=false:=by kernel_rfl):JT X C sub E (.Compare a [.NotIn] [b] pos) (.din true x y):=⟨VH (neg:=true) hu ha.h hb.h hm⟩
theorem N0 (hu:X.A.units+180<cLine)(ha:JE X C sub E a x)(hb:JE X C sub E b y)(hp:wX b:=by intro _ _;rfl):JE X C sub E (.Subscript a b pos) (.dix x y):=⟨Oe hu ha.h hb.h hp⟩
theorem Ye:JE X C sub E (.Dict [] [] pos) .dnew:=⟨Kd⟩
theorem Ua (m:bU C C)(hu:X.A.units+180<cLine)(ho:JE X C sub EF o y)(hi:JE X C sub EF i z)(hv:JE X C sub EF value x)(hs:my value (some (.Subscript o i pos')) pos.line X.env=pure false:=by kernel_rfl): JS X C sub (.Assign [.Subscript o i pos'] value pos) (.asg (.dk y z) x):=⟨Vq m hu ho.h hi.h hv.h hs⟩
end
variable {st:Stmt}{f:Addr}
theorem VN {w:c9}{K:aa}{mg:Str->Option ae}{base:Heap}{G:Prog}{r f:Nat}{fn:Fn}{x qual:Str}{a:Addr}{fd:h9}{N ps:List Str}(F:AO K x qual st a fd)(S:nT N ps (bA st))(hG:G.fns f=some fn)(hp:fn.np=ps.length)(hl:fn.nl=N.length)(hb:∀(dC:ae)(A:cp)(outer:List Env)(s:ag)(H:Hp)(E:L2.XK),dM r (A.deeper (nk qual (bA st) s.heap.objs.size a dC)) -> vO (fH dZ P w K mg base N qual (bA st) a dC A outer s H E).jL (aH G k) G.sub (fL st) fn.body): fP P w K mg base dZ (r+1) a fd ps (fZ K (aH G (k+1)) f):=by
 refine F.ok S (fun vs H Q E h=>?_) (fun dC A outer s H vs Q E hr h=>?_);·obtain⟨ds,aA,R,r,_,h,_⟩:=h;simp only[aH,hG]at h;rw[<-r.length,h.1,hp]
 ·obtain⟨ds,aA,R,r,ok,h,hq⟩:=h;simp only[aH,hG]at h;refine⟨_,(hb dC A outer s H E hr).h,?_⟩;refine⟨start fn.np fn.nl ds,aA,_,?_,ok,h.2,⟨fun bn H' eT aV sr s' fX q=>?_,fun v H' z=>hq v H' z,fun _ _ _ _ _ _ _ q=>q,fun _ _ _ _ _ _ _ q=>q,fun _ _ _ q=>q⟩⟩;·rw[hl];exact J1 r h.1
  ·exact hq _ _ ⟨.non,aV,s',fX,.non,q⟩
noncomputable def lE (s:Stmt)(j:Nat):Stmt:=match s with|.ClassDef _ _ _ body ..=>body.getD j (.Pass ⟨0,0,0,0⟩)|_=>.Pass ⟨0,0,0,0⟩
inductive At where|top|cM (c:List Nat)|init (c:List Nat)
def Y1 (K:aa)(mg:Str->Option ae)(n:Str)(a:Addr):At->Prop|.top=>mg n=some (.ref a)|.cM c=>∃ C0,clsAt K c C0/\wJ K C0/\GR K C0 n a|.init c=>∃ C0,clsAt K c C0/\mg ⟨c.toArray⟩=some (.ref C0)/\Mk K C0 a
structure HH (K:aa)(mg:Str->Option ae)(nf:Nat)(nm qn:Nat->Str)(ps:Nat->List Str)(st:Nat->Stmt)(at_:Nat->At) where
 a:Nat->Addr
 fd:Nat->h9
 fn:∀ i,i<nf->AO K (nm i) (qn i) (st i) (a i) (fd i)bi:∀ i,i<nf->Binds K (fd i) (ps i) []mg:∀ i,i<nf->Y1 K mg (nm i) (a i) (at_ i)
def G5 (n q:Str)(ps:List Str)(st:Stmt):Prop:=∀(kV doc pm:ae)(an:Option Addr)(dC ct:ae)(us:List ae),us.length=ps.length->Zu (jk n q (mN st) (fL st) (bA st) .none kV doc pm an dC ct) ⟨us,[]⟩=pure (ps.zip us)
def uW (K:aa)(mg:Str->Option ae)(n q:Str)(st:Stmt)(at_:At):Prop:=∃ a fd,AO K n q st a fd/\Y1 K mg n a at_
variable {oc dc pm cd:ae}{od:Option Addr}{sl:Array (Option ae)}
theorem Po {K:aa}{h:Heap}{mg:Str->Option ae}(X:K.In h)(G:h.Ns cz mg){an:Option Addr}{kV ct:ae}(a:jo K cz n=some (some (.ref f)))(l:K.lookup f=some ⟨oc,od,.func (jk n n (mN st) (fL st) (bA st) .none kV dc pm an cd ct),sl⟩)(c:la K cd n=true)(k:fx K (.ref f)=true):uW K mg n n st .top :=⟨f,_,E9 l c k,mf X G a⟩
theorem Pn {K:aa}{h:Heap}{mg:Str->Option ae}(X:K.In h)(G:h.Ns cz mg){q:Str}{c:List Nat}{C:Addr}{an:Option Addr}{kV ct:ae}(cl:jo K cz ⟨c.toArray⟩=some (some (.ref C)))(pg:kz K C Aat=true)(hd:mn K C=true)(po:ph K C=true)(sa:ff K (.ref C) "__setattr__" = some (some (.builtin "object.__setattr__")))(a:ff K (.ref C) n=some (some (.ref f)))(fn:se K (.ref f)=true)(l:K.lookup f=some ⟨oc,od,.func (jk n q (mN st) (fL st) (bA st) .none kV dc pm an cd ct),sl⟩)(cc:la K cd q=true)(k:fx K (.ref f)=true):uW K mg n q st (.cM c) :=⟨f,_,E9 l cc k,C,cl,⟨pg,hd,po,sa⟩,⟨a,fn,k⟩⟩
theorem Sa {K:aa}{h:Heap}{mg:Str->Option ae}(X:K.In h)(G:h.Ns cz mg){q:Str}{c:List Nat}{C:Addr}{an:Option Addr}{kV ct:ae}(cl:jo K cz ⟨c.toArray⟩=some (some (.ref C)))(mk:w4 K C=true)(kp:fx K (.ref C)=true)(a:ff K (.ref C) "__init__" = some (some (.ref f)))(fn:se K (.ref f)=true)(l:K.lookup f=some ⟨oc,od,.func (jk "__init__" q (mN st) (fL st) (bA st) .none kV dc pm an cd ct),sl⟩)(cc:la K cd q=true)(k:fx K (.ref f)=true):uW K mg "__init__" q st (.init c) :=⟨f,_,E9 l cc k,C,cl,mf X G cl,⟨mk,a,fn,kp⟩⟩
theorem Nb {K:aa}{c:List Nat}{C:Addr}(cl:jo K cz ⟨c.toArray⟩=some (some (.ref C)))(pg:kz K C Aat=true)(hd:mn K C=true)(po:ph K C=true)(sa:ff K (.ref C) "__setattr__" = some (some (.builtin "object.__setattr__"))):tY K c:=⟨C,cl,pg,hd,po,sa⟩
theorem Iw {K:aa}{c f:List Nat}{C:Addr}(cl:jo K cz ⟨c.toArray⟩=some (some (.ref C)))(na:ff K (.ref C) ⟨f.toArray⟩=some none):qI K c f:=⟨fun C' h=>by cases clsAt.inj h cl;exact na⟩
theorem R7 {K:aa}{q x:Str}{a:Addr}{fd:h9}(F:AO K n q st a fd)(h:G5 n q [x] st)(s:ag)(u:ae):z9 s fd ⟨[u],[]⟩ [(x,u)]:=by obtain⟨oc,od,kV,doc,pm,an,dC,ct,osl,rfl,lk,hcd⟩:=F.ex;exact .of_eq (h kV doc pm an dC ct [u] rfl)
variable {ch:List Addr}
theorem vD {s:ag}{h':Heap}{t':Nat}(I:Inv X pz σ H s)(k:∀ b o,b∉ch->s.heap.get? b=some o->h'.get? b=some o)(f:∀ b∈ch,mS X pz H b):Inv X pz σ H { s with heap:=h',toks:=t' }:=by
 have nit:∀ b u,H b=some u->b∉ch:=fun b u e z=>by rw[(f b z).1]at e;cases e
 refine I.step (g':=s.gens) (d':=s.drawn) (ch:=ch) (fun b hb=>?_) (fun b o _ _ hc e _=>k b o hc e) (fun b o _ _ hc e _=>⟨o.slots,k b o hc e⟩) (fun _ _ _ _ n=>n) (fun b o hc e=>⟨o,k b o hc e⟩) (fun _ _ e=>e) (fun _ _ _ e=>e) (fun b ps e=>⟨#[],by rw[e];simp⟩) (fun m hm=>?_) (fun b u e=>?_) I.bare;·obtain⟨f0,f1,f2,f3,f4,f5⟩:=f b hb;exact⟨f3,f1,f4,f5⟩
 ·obtain⟨o,es,ep,ho,r⟩:=hm;exact⟨o,es,ep,k _ o (fun z=>(f _ z).2.1 rfl) ho,r⟩
 ·refine(I.bO b u e).pP (fun c v hc q=>k c v ?_ q) (fun _ q=>q) fun _ _ q=>q;rcases hc with z|z;·rw[z];exact nit b u e
  ·exact nit c _ z
theorem L7 {s:ag}{h':Heap}{t':Nat}{xs:List V}{us:List ae}(I:Inv X pz σ H s)(hz:xs.length<=sizeLine)(rv:aR xs us)(k:∀ b o,b∉ch->s.heap.get? b=some o->h'.get? b=some o)(lt:∀ b∈ch,b<s.heap.objs.size)(hT:h'.get? s.heap.objs.size=some { cls:=.type "tuple", data:=.seq us.toArray })(f:∀ b∈ch,mS X pz H b):Inv X pz σ (upd H s.heap.objs.size (.tup xs)) { s with heap:=h',toks:=t' }:=by
 have I1:Inv X pz σ (upd H s.heap.objs.size (.tup xs)) { s with heap:=s.heap.push { cls:=.type "tuple", data:=.seq us.toArray },toks:=s.toks } :=I.laid (fun b u e=>aj _ e) (aw _) ⟨hz,us,rv,pT.new _ _⟩;refine vD (s:={ s with heap:=s.heap.push { cls:=.type "tuple", data:=.seq us.toArray },toks:=s.toks }) (ch:=ch) I1 (fun b o hb e=>?_) fun b hb=>?_
 ·by_cases z:b=s.heap.objs.size;·subst z;rw[show(s.heap.push { cls:=.type "tuple", data:=.seq us.toArray }).get? s.heap.objs.size=some { cls:=.type "tuple", data:=.seq us.toArray } from br _ rfl]at e;rw[hT,e]
  ·refine k b o hb ?_;have cN:=bh e;have iS:(s.heap.push { cls:=.type "tuple", data:=.seq us.toArray }).objs.size=s.heap.objs.size+1:=ju ..;have hlt2:b<s.heap.objs.size:=by have hq:b<(s.heap.push { cls:=.type "tuple", data:=.seq us.toArray }).objs.size:=cN;rw[iS]at hq;exact Nat.lt_of_le_of_ne (Nat.le_of_lt_succ hq) z
   have e':(s.heap.push { cls:=.type "tuple", data:=.seq us.toArray }).get? b=some o:=e;rwa [Heap.get?_push_ne _ _ _ z]at e'
 ·obtain⟨f0,f1⟩:=f b hb;exact⟨by rw[bI (b9 (lt b hb))];exact f0,f1⟩
noncomputable def Mf (K:aa)(a:Addr):It :=⟨fun i H=>∃ xs x,dA K H a xs/\xs[i]? = some x,fun i H v H'=>∃ T x,H T=none/\v=.ref T/\H'=upd H T (.tup [.int (i:Nat),x])/\∀ xs,dA K H a xs->xs[i]? = some x,fun i H=>∃ xs,dA K H a xs/\xs.length<=i⟩
variable {elts:List Expr}
theorem WV {w:c9}{K:aa}{x1}{pos:Pos}(a e it:Addr)(hne:e≠it):Turn P w K (.Tuple elts x1 pos) (Mf K a) [e,it] e (fun i h=>(∃ old,IsEnum h e it i old)/\h.IsListIter it a i) where
 mem:=by simp
 obj:=fun i h st b hb=>by
  obtain⟨⟨old,he⟩,o,e1,c,d⟩:=st;simp only[bw,bj,or_false]at hb;rcases hb with hb|hb;·subst hb;exact⟨_,he,fun v z=>by cases z⟩
  ·subst hb;exact⟨o,e1,fun v z=>by rw[d]at z;cases z⟩
 keep:=fun i h h' st k=>by obtain⟨⟨old,he⟩,hit⟩:=st;exact⟨⟨old,k e (by simp) _ he⟩,hit.at fun o x=>k it (by simp) o x⟩
 item:=by
  intro X hP hw hK hc i pz s σ H E I hf st hg;subst hP hw hK;obtain⟨xs,x,hq,hx⟩:=hg;obtain⟨aD,rv,p,hz⟩:=I.list hq;obtain⟨u,hu,ru⟩:=rv.get hx;obtain⟨⟨old,he⟩,hit⟩:=st;have ne:∀ b∈[e,it],b<s.heap.objs.size:=fun b hb=>by
   simp only[bw,bj,or_false]at hb;rcases hb with hb|hb;·subst hb;exact bh he
   ·subst hb;obtain⟨_,y,_⟩:=hit;exact bh y
  refine wpAny_pyNext_enum_item he hit p.isList (x:=u) (by simpa using hu) hne fun h' ho hit' hT iS hk=>⟨_,rfl,?_⟩;refine wpAny_letOwnedTupleGo_enum ho fun h2 he2 hs2=>?_;have hTe:s.heap.objs.size≠e:=ly (ne e (by simp));refine⟨.ref s.heap.objs.size,upd H s.heap.objs.size (.tup [.int (i:Nat),x]),?_,rfl,⟨_,x,I.bO.fresh (aw _),rfl,rfl,fun ys hy=>by rw[I.mI hy hq];exact hx⟩,⟨⟨_,by simpa using he2⟩,hit'.at fun o y=>(hs2.2 it (fj hne)).trans y⟩,fun b hb=>?_⟩
  ·refine L7 (ch:=[e,it]) (us:=[.int i s.toks,u]) I (by simp [sizeLine]) (.cons ⟨_,rfl⟩ (.cons ru .nil)) (fun b o hb y=>?_) ne ?_ hf;·simp only[bw,bj,or_false,not_or]at hb;exact(hs2.2 b hb.1).trans (hk b o hb.1 hb.2 y)
   ·exact(hs2.2 _ hTe).trans hT
  ·rw[bI (b9 (ne b hb))];exact(hf b hb).1
 done:=by intro X hP hw hK hc i pz s σ H E I hf st hg;subst hP hw hK;obtain⟨xs,hq,hx⟩:=hg;obtain⟨aD,rv,p,hz⟩:=I.list hq;obtain⟨⟨old,he⟩,hit⟩:=st;have hl:=rv.length;exact wpAny_pyNext_enum_end (I.ok.hd hc) he hit p.isList (by simp;omega) fun h' eb=>⟨rfl,vD (t':=s.toks) (ch:=[e,it]) I (fun b o hb y=>eb b o (fun z=>hb (by simp [z])) y) hf⟩
 self:=fun _ _ _ _ _ st h=>let⟨⟨_,he⟩,_⟩:=st;Yq he h
theorem AJ:∀(xs:List D)(k i:Nat),(nH k xs)[i]? = (xs[i]?).map fun x=>.tup [.int ((k+i:Nat):Int),x]|[],_,_=>by simp [nH]|x::xs,k,0=>by simp [nH]|x::xs,k,i+1=>by simp only[nH,gV,AJ xs (k+1) i];rw[show k+1+i=k+(i+1)by omega]
theorem KC:∀(xs:List D)(k:Nat),(nH k xs).length=xs.length|[],_=>rfl|x::xs,k=>by simp [nH,KC xs]
section
variable {K:aa}{H1:Hp}{aC:aB}{a b:Addr}{xs ys:List D}
theorem Z4 (aO:aS K aC H1)(e0:aC a=some (.lst xs)):zM K (Mf K a) [a] (nH 0 xs) H1 aC where
 go:=fun i H st d s ok sm e=>by have e':st a=some (.lst xs):=(sm a (by simp)).trans e0;obtain⟨us,g1,g2⟩:=ok.lst e';rw[AJ,di]at e;obtain⟨x,e,_⟩:=e;obtain⟨v,e1,_⟩:=g2.get e;exact⟨us,v,dA.of g1,e1⟩
 yld:=fun i H st d x H' s ok sm e ⟨T,v,hT,ex,eH,h⟩=>by subst ex eH;have e':st a=some (.lst xs):=(sm a (by simp)).trans e0;obtain⟨us,g1,g2⟩:=ok.lst e';rw[AJ,di]at e;obtain⟨x,e,ed⟩:=e;subst ed;obtain⟨v',e1,e2⟩:=g2.get e;have:=h us (dA.of g1);rw[e1]at this;cases this;rw[si];exact⟨kR hT,ok.new hT,.tup (eU.of dE) ((aJ.cons (.int _) (.cons e2 .nil)).step ok (kR (st:=st) hT))⟩
 stop:=fun i H st s ok sm l=>by have e':st a=some (.lst xs):=(sm a (by simp)).trans e0;obtain⟨us,g1,g2⟩:=ok.lst e';rw[KC]at l;exact⟨us,dA.of g1,by rw[<-g2.length];exact l⟩
end
variable {x1:Nat}
section
variable {sub:Nat->Nat->Bool}{a:Expr}{pos:Pos}{tp:Pos}
theorem Gq (hC:bU C C)(hg:Gl X "enumerate")(hm:X.mg "enumerate" = none)(ha:PA X [a] (kU X.K (bM C sub E [x])))(hs:aq [a] X.env=[(false,eval a X.env)]): PI X (.Tuple elts x1 tp) (.Call (.Name "enumerate" p) [a] [] pos) (xO X.K fun σ st M=>bM C sub E [x] σ st fun ds aC=>gZ (some .enum) ds aC fun as xs=>M as xs aC):=by intro pz s σ H R I ⟨ap,st,M,r,ok,q,hq⟩;refine Call_ (mV I hg hm boot_enumerate (e9 (bF (ha pos pz s σ H _ I ⟨ap,st,_,r,ok,pR [x] hC q,fun vs H1 z=>z⟩) fun us s1 ⟨vs,H1,I1,r1,ds,aC,dH,aO,rd,l1,q1⟩=>?_) hs rfl));match ds,l1,q1 with|[d],_,q1 =>obtain⟨v,rfl,rd1⟩:=rd.one;have q1:gZ (some .enum) [d] aC fun as xs=>M as xs aC:=q1;cases d with
  |ref l =>cases rd1.cQ;cases r1 with|cons r rr =>
   cases rr;cases r;obtain⟨xs,e,q1⟩:=dQ (st:=aC) q1;obtain⟨ws,g1,g2⟩:=aO.lst e;obtain⟨aD,rv,pp,hz⟩:=I1.list (dA.of g1);refine call_enumerate_list pp.isList fun h' he hit iS hk=>Yq he ?_;refine⟨s1.heap.objs.size+1,[s1.heap.objs.size+1,s1.heap.objs.size],_,Mf X.K l,H1,rfl,I1.kept (t':=s1.toks) hk,WV l _ _ (Nat.succ_ne_self _),⟨⟨_,he⟩,hit⟩,fun b hb=>?_,hq _ _ ⟨_,_,aC,dH,aO,Z4 aO e,q1⟩⟩;have hb':s1.heap.objs.size<=b:=by
    simp only[bw,bj,or_false]at hb;rcases hb with hb|hb;·rw[hb];exact ur _
    ·rw[hb];exact aw _
   exact I1.HE hb' (I1.bO.fresh hb')
  |_=>exact(show False from q1).elim
end
noncomputable def Lx (K:aa)(a b:Addr):It :=⟨fun i H=>∃ xs ys x y,dA K H a xs/\dA K H b ys/\xs[i]? = some x/\ys[i]? = some y,fun i H v H'=>∃ T x y,H T=none/\v=.ref T/\H'=upd H T (.tup [x,y])/\(∀ xs,dA K H a xs->xs[i]? = some x)/\∀ ys,dA K H b ys->ys[i]? = some y,fun i H=>∃ xs ys,dA K H a xs/\dA K H b ys/\(xs.length<=i∨ys.length<=i)⟩
structure Bi (z TI TO i1 i2:Addr):Prop where
 a1:TI≠z
 a2:TO≠z
 a3:i1≠z
 a4:i2≠z
 a5:TI≠TO
 a6:TI≠i1
 a7:TI≠i2
 a8:TO≠i1
 a9:TO≠i2
 a0:i1≠i2
theorem XM {h:Heap}{z TI TO i1 i2 a b:Addr}{f0 p q:ae}{k1 k2:Nat}{xs ys:Array ae}{c d:Addr}(F:Bi z TI TO i1 i2)(hz:IsZip h z TI TO f0)(hTO:IsPair h TO p q)(h1:h.IsListIter i1 c k1)(h2:h.IsListIter i2 d k2)(ha:h.IsList a xs)(hb:h.IsList b ys):ZipApart z TI TO i1 i2 a b:=by
 obtain⟨o1,e1,c1,_⟩:=h1;obtain⟨o2,e2,c2,_⟩:=h2;obtain⟨oa,ea,ca,_⟩:=ha;obtain⟨ob,eb,cb,_⟩:=hb;have nz:∀{l:Addr}{o:Obj},h.get? l=some o->o.cls=.type "list" -> l≠z/\l≠TO/\l≠i1/\l≠i2:=fun{l o} e c=>by
  refine⟨fun y=>?_,fun y=>?_,fun y=>?_,fun y=>?_⟩;·subst y;rw[hz]at e;cases e;simp at c
  ·subst y;rw[hTO]at e;cases e;simp at c
  ·subst y;rw[e1]at e;cases e;rw[c1]at c;simp at c
  ·subst y;rw[e2]at e;cases e;rw[c2]at c;simp at c
 obtain⟨m1,m2,m3,m4⟩:=nz ea ca;obtain⟨n1,n2,n3,n4⟩:=nz eb cb;exact⟨F.a1,F.a2,F.a3,F.a4,F.a5,F.a6,F.a7,F.a8,F.a9,F.a0,m1,m2,m3,m4,n1,n2,n3,n4⟩
theorem YU {w:c9}{K:aa}{x1}{pos:Pos}(a b z TI TO i1 i2:Addr)(F:Bi z TI TO i1 i2):Turn P w K (.Tuple elts x1 pos) (Lx K a b) [z,TO,i1,i2,TI] z (fun i h=>IsZip h z TI TO .none/\IsPair h TI (.ref i1) (.ref i2)/\(∃ p q,IsPair h TO p q)/\h.IsListIter i1 a i/\h.IsListIter i2 b i) where
 mem:=by simp
 obj:=fun i h st c hc=>by
  obtain⟨hz,hTI,⟨p,q,hTO⟩,⟨o1,e1,c1,d1⟩,⟨o2,e2,c2,d2⟩⟩:=st;simp only[bw,bj,or_false]at hc;rcases hc with hc|hc|hc|hc|hc<;>subst hc;·exact⟨_,hz,fun v y=>by cases y⟩
  ·exact⟨_,hTO,fun v y=>by cases y⟩
  ·exact⟨o1,e1,fun v y=>by rw[d1]at y;cases y⟩
  ·exact⟨o2,e2,fun v y=>by rw[d2]at y;cases y⟩
  ·exact⟨_,hTI,fun v y=>by cases y⟩
 keep:=fun i h h' st k=>by obtain⟨hz,hTI,⟨p,q,hTO⟩,h1,h2⟩:=st;exact⟨k z (by simp) _ hz,k TI (by simp) _ hTI,⟨p,q,k TO (by simp) _ hTO⟩,h1.at fun o x=>k i1 (by simp) o x,h2.at fun o x=>k i2 (by simp) o x⟩
 item:=by
  intro X hP hw hK hc i pz s σ H E I hf st hg;subst hP hw hK;obtain⟨xs,ys,x,y,hqa,hqb,hx,hy⟩:=hg;obtain⟨aD,rv,pa,hza⟩:=I.list hqa;obtain⟨jts,rw',pb,hzb⟩:=I.list hqb;obtain⟨u,hu,ru⟩:=rv.get hx;obtain⟨v,hv,bJ⟩:=rw'.get hy;obtain⟨hz,hTI,⟨p,q,hTO⟩,h1,h2⟩:=st;have D:=XM F hz hTO h1 h2 pa.isList pb.isList;have lt:∀{c o},s.heap.get? c=some o->c<s.heap.objs.size:=fun e=>bh e;have ne:∀ c∈[z,TO,i1,i2,TI],c<s.heap.objs.size:=fun c hc=>by
   simp only[bw,bj,or_false]at hc;rcases hc with hc|hc|hc|hc|hc<;>subst hc;·exact lt hz
   ·exact lt hTO
   ·obtain⟨_,e,_⟩:=h1;exact lt e
   ·obtain⟨_,e,_⟩:=h2;exact lt e
   ·exact lt hTI
  refine wpAny_pyNext_zip_item D hz hTI hTO h1 h2 pa.isList pb.isList (x:=u) (y:=v) (by simpa using hu) (by simpa using hv) fun h' a1 a2 a3 a4 a5 a6 hk=>⟨_,rfl,?_⟩;refine wpAny_letOwnedTupleGo_zip a1 fun h3 hz3 hs3=>?_;have hTz:s.heap.objs.size≠z:=ly (ne z (by simp));refine⟨.ref s.heap.objs.size,upd H s.heap.objs.size (.tup [x,y]),?_,rfl,⟨_,x,y,I.bO.fresh (aw _),rfl,rfl,fun ws hw=>by rw[I.mI hw hqa];exact hx,fun ws hw=>by rw[I.mI hw hqb];exact hy⟩,⟨hz3,hs3.extBut _ _ D.TIz (hk _ _ D.TIz D.TITO D.TIi1 D.TIi2 hTI),⟨_,_,hs3.extBut _ _ D.TOz a2⟩,a3.extBut hs3.extBut D.i1z,a4.extBut hs3.extBut D.i2z⟩,fun c hc=>?_⟩
  ·refine L7 (ch:=[z,TO,i1,i2]) (us:=[u,v]) I (by simp [sizeLine]) (.cons ru (.cons bJ .nil)) (fun c o hc e=>?_) (fun c hc=>ne c (by simp only[bw,bj,or_false]at hc ⊢;rcases hc with hc|hc|hc|hc<;>simp [hc])) ?_ (fun c hc=>hf c (by simp only[bw,bj,or_false]at hc ⊢;rcases hc with hc|hc|hc|hc<;>simp [hc]));·simp only[bw,bj,or_false,not_or]at hc;exact hs3.extBut _ _ hc.1 (hk c o hc.1 hc.2.1 hc.2.2.1 hc.2.2.2 e)
   ·exact hs3.extBut _ _ hTz a5
  ·rw[bI (b9 (ne c hc))];exact(hf c hc).1
 done:=by intro X hP hw hK hc i pz s σ H E I hf st hg;subst hP hw hK;obtain⟨xs,ys,hqa,hqb,hx⟩:=hg;obtain⟨aD,rv,pa,hza⟩:=I.list hqa;obtain⟨jts,rw',pb,hzb⟩:=I.list hqb;obtain⟨hz,hTI,⟨p,q,hTO⟩,h1,h2⟩:=st;have D:=XM F hz hTO h1 h2 pa.isList pb.isList;have hl:=rv.length;have hl':=rw'.length;refine wpAny_pyNext_zip_end (I.ok.hd hc) D hz hTI hTO h1 h2 pa.isList pb.isList (by rcases hx with hx|hx;exact .inl (by simp;omega);exact .inr (by simp;omega)) fun h' hk=>⟨rfl,vD (t':=s.toks) (ch:=[z,TO,i1,i2]) I (fun c o hc e=>?_) (fun c hc=>hf c (by simp only[bw,bj,or_false]at hc ⊢;rcases hc with hc|hc|hc|hc<;>simp [hc]))⟩;simp only[bw,bj,or_false,not_or]at hc;exact hk c o hc.1 hc.2.1 hc.2.2.1 hc.2.2.2 e
 self:=fun _ _ _ _ _ st h=>Zi st.1 h
theorem DH:∀(xs ys:List D)(i:Nat)(d:D),(zip2 xs ys)[i]? = some d->∃ x y,xs[i]? = some x/\ys[i]? = some y/\d=.tup [x,y]|[],_,_,_,h=>by simp [zip2]at h|_::_,[],_,_,h=>by simp [zip2]at h|x::xs,y::ys,0,d,h=>by simp [zip2]at h;exact⟨x,y,rfl,rfl,h.symm⟩|x::xs,y::ys,i+1,d,h=>by simp only[zip2,gV]at h ⊢;exact DH xs ys i d h
theorem OS:∀(xs ys:List D),(zip2 xs ys).length=min xs.length ys.length|[],_=>by simp [zip2]|_::_,[]=>by simp [zip2]|x::xs,y::ys=>by simp only[zip2,bf,OS xs ys];omega
section
variable {K:aa}{H1:Hp}{aC:aB}{a b:Addr}{xs ys:List D}
theorem Eh (aO:aS K aC H1)(e0:aC a=some (.lst xs))(e1:aC b=some (.lst ys)):zM K (Lx K a b) [a,b] (zip2 xs ys) H1 aC where
 go:=fun i H st d s ok sm e=>by have ea:st a=some (.lst xs):=(sm a (by simp)).trans e0;have eb:st b=some (.lst ys):=(sm b (by simp)).trans e1;obtain⟨us,g1,g2⟩:=ok.lst ea;obtain⟨vs,g3,g4⟩:=ok.lst eb;obtain⟨x,y,q1,q2,_⟩:=DH _ _ _ _ e;obtain⟨u,w1,_⟩:=g2.get q1;obtain⟨v,w2,_⟩:=g4.get q2;exact⟨us,vs,u,v,dA.of g1,dA.of g3,w1,w2⟩
 yld:=fun i H st d x H' s ok sm e ⟨T,v,w,hT,ex,eH,h,h'⟩=>by subst ex eH;have ea:st a=some (.lst xs):=(sm a (by simp)).trans e0;have eb:st b=some (.lst ys):=(sm b (by simp)).trans e1;obtain⟨us,g1,g2⟩:=ok.lst ea;obtain⟨vs,g3,g4⟩:=ok.lst eb;obtain⟨x,y,q1,q2,ed⟩:=DH _ _ _ _ e;subst ed;obtain⟨u',w1,r1⟩:=g2.get q1;obtain⟨v',w2,r2⟩:=g4.get q2;have z1:=h us (dA.of g1);rw[w1]at z1;cases z1;have z2:=h' vs (dA.of g3);rw[w2]at z2;cases z2;exact⟨kR hT,ok.new hT,.tup (eU.of dE) ((aJ.cons r1 (.cons r2 .nil)).step ok (kR (st:=st) hT))⟩
 stop:=fun i H st s ok sm l=>by have ea:st a=some (.lst xs):=(sm a (by simp)).trans e0;have eb:st b=some (.lst ys):=(sm b (by simp)).trans e1;obtain⟨us,g1,g2⟩:=ok.lst ea;obtain⟨vs,g3,g4⟩:=ok.lst eb;rw[OS]at l;have l1:=g2.length;have l2:=g4.length;exact⟨us,vs,dA.of g1,dA.of g3,by omega⟩
end
section
variable {sub:Nat->Nat->Bool}{a:Expr}{pos:Pos}{tp:Pos}
theorem Hr (hC:bU C C)(hg:Gl X "zip")(hm:X.mg "zip" = none)(ha:PA X [a,b] (kU X.K (bM C sub E [x,y])))(hs:aq [a,b] X.env=[(false,eval a X.env),(false,eval b X.env)])(hs2:aq [b] X.env=[(false,eval b X.env)]):PI X (.Tuple elts x1 tp) (.Call (.Name "zip" p) [a,b] [] pos) (xO X.K fun σ st M=>bM C sub E [x,y] σ st fun ds aC=>gZ (some .zip) ds aC fun as xs=>M as xs aC):=by intro pz s σ H R I ⟨ap,st,M,r,ok,q,hq⟩;refine Call_ (mV I hg hm boot_zip (e9 (bF (ha pos pz s σ H _ I ⟨ap,st,_,r,ok,pR [x,y] hC q,fun vs H1 z=>z⟩) fun us s1 ⟨vs,H1,I1,r1,ds,aC,dH,aO,rd,l1,q1⟩=>?_) (by rw[hs,hs2]) (by rw[hs2];rfl)));match ds,l1,q1 with|[d,d'],_,q1 =>have q1:gZ (some .zip) [d,d'] aC fun as xs=>M as xs aC:=q1;cases rd with|cons rd1 rd2=>cases rd2 with|cons rd2 rd3 =>
 cases rd3;cases d<;>first|exact(show False from q1).elim|skip
 cases d'<;>first|exact(show False from q1).elim|skip
 cases rd1.cQ;cases rd2.cQ;cases r1 with|cons r rr=>cases rr with|cons r' rr =>
 cases rr;cases r;cases r';obtain⟨xs,e,q1⟩:=dQ (st:=aC) q1;obtain⟨ys,e',q1⟩:=dQ (st:=aC) q1;obtain⟨ws,g1,g2⟩:=aO.lst e;obtain⟨ws',g1',g2'⟩:=aO.lst e';obtain⟨aD,rv,pp,hz⟩:=I1.list (dA.of g1);obtain⟨mM,bJ,pp',hz'⟩:=I1.list (dA.of g1');refine call_zip_2 pp.isList pp'.isList fun h' hz hTI hTO h1 h2 iS hk=>Zi hz ?_;have o:∀ n:Nat,s1.heap.objs.size<=s1.heap.objs.size+n:=fun n=>Nat.le_add_right _ _;have df:∀{i j:Nat},i≠j->s1.heap.objs.size+i≠s1.heap.objs.size+j:=fun h z=>h (Nat.add_left_cancel z);refine⟨s1.heap.objs.size+4,[s1.heap.objs.size+4,s1.heap.objs.size+3,s1.heap.objs.size,s1.heap.objs.size+1,s1.heap.objs.size+2],_,Lx X.K _ _,H1,rfl,I1.kept (t':=s1.toks) hk,YU _ _ _ _ _ _ _ ⟨df (by decide),df (by decide),df (i:=0) (by decide),df (by decide),df (by decide),df (j:=0) (by decide),df (by decide),df (j:=0) (by decide),df (by decide),df (i:=0) (by decide)⟩,⟨hz,hTI,⟨_,_,hTO⟩,h1,h2⟩,fun c hc=>?_,hq _ _ ⟨_,_,aC,dH,aO,Eh aO e e',q1⟩⟩;have hc':s1.heap.objs.size<=c:=by
  simp only[bw,bj,or_false]at hc;rcases hc with hc|hc|hc|hc|hc<;>rw[hc];·exact o 4
  ·exact o 3
  ·exact aw _
  ·exact o 1
  ·exact o 2
 exact I1.HE hc' (I1.bO.fresh hc')
end
section
variable {sub:Nat->Nat->Bool}{a:Expr}{pos tp:Pos}
theorem Xl (m:bU C C)(hm:X.mg "enumerate" = none)(ha:JA X C sub E [a] [x])(hg:X.env.kindOf "enumerate" = some .globalImplicit:=by kernel_rfl)(hs:aq [a] X.env=[(false,eval a X.env)]:=by kernel_rfl): JI X C sub E (.Tuple elts x1 tp) (.Call (.Name "enumerate" p) [a] [] pos) (some .enum) [x]:=⟨Gq m hg hm ha.h hs⟩
theorem Xk (m:bU C C)(hm:X.mg "zip" = none)(ha:JA X C sub E [a,b] [x,y])(hg:X.env.kindOf "zip" = some .globalImplicit:=by kernel_rfl)(hs:aq [a,b] X.env=[(false,eval a X.env),(false,eval b X.env)]:=by kernel_rfl)(hs2:aq [b] X.env=[(false,eval b X.env)]:=by kernel_rfl): JI X C sub E (.Tuple elts x1 tp) (.Call (.Name "zip" p) [a,b] [] pos) (some .zip) [x,y]:=⟨Hr m hg hm ha.h hs hs2⟩
end
section
variable {sub:Nat->Nat->Bool}{k v:Expr}{pos:Pos}
theorem Wf (hu:X.A.units+180<cLine)(ha:PE X k (cF X.K (aG C sub E x)))(hb:PE X v (cF X.K (aG C sub E y))):PE X (.Dict [some k] [v] pos) (cF X.K (aG C sub E (.d1 x y))):=fun pz s σ H Q I ⟨ap,st,R,r,ok,q,hq⟩=>by
 have hs:(evalEachOpt [some k] X.env).zip ((evalEach [v] X.env).map fun t=>do let z <-t;pe pos;pure z)=([(eval k X.env,do let z <-eval v X.env;pe pos;pure z)]:List (Sem Value×Sem ae)).map fun p=>(some p.1,p.2):=by simp [evalEachOpt,evalEach];rfl
 rw[arm_eval_Dict,hs,dictDisplay_pairs _ (by simp) (by simp)];refine af (qk (af ?_));unfold subDict;refine af (wpAny_alloc ?_);refine af (g7 ?_);rw[if_pos (by simp)];have hf:H s.heap.objs.size=none:=I.bO.fresh (aw _);have I0:Inv X pz σ (upd H s.heap.objs.size (sM s.heap.objs.size [])) { s with heap:=s.heap.push { cls:=.type "dict", data:=.dict #[] } }:=by refine I.laid (a:=s.heap.objs.size) (o:=sM s.heap.objs.size []) (t':=s.toks) (fun _ _ q=>aj _ q) (aw _) ?_;exact⟨⟨_,#[],0,br _ rfl,⟨rfl,rfl,rfl⟩,rfl,rfl⟩,⟨_,br _ rfl⟩,uU⟩
 have S0:Step H st (upd H s.heap.objs.size (sM s.heap.objs.size [])) (put st s.heap.objs.size (.tab [] [])):=nV hf;have Uc:aS X.K (put st s.heap.objs.size (.tab [] [])) (upd H s.heap.objs.size (sM s.heap.objs.size [])) :=ok.ZM hf ⟨[],[],dE,beq_eq_false_iff_ne.mpr (ly (Tw I)),rfl,yg,.nil,fun x hx=>(by cases hx),.nil,.nil⟩;have q:=q _ (ok.fresh hf);refine af (evalPairs_cons ?_);refine bF (ha pz _ σ _ _ I0 ⟨ap,_,_,r.step ok S0,Uc,q,fun v H' z=>z⟩) fun uk s1 ⟨vk,H1,I1,rvk,dk,aC,dH,aO,rdk,q1⟩=>?_;refine af (bF (hb pz s1 σ H1 _ I1 ⟨ap,aC,_,(r.step ok S0).step Uc dH,aO,q1,fun v H' z=>z⟩) fun uv s2 ⟨vv,H2,I2,rvv,dv,aF,hZ,bZ,rdv,q2⟩=>?_);refine af (qk (ar (evalPairs_nil ?_)));obtain⟨da,ks,vs,ed2,e,hk,hnew,hlen,q4⟩:=QS q2;cases ed2;obtain⟨xs,ws,t1,t2,t3,t4,t5,t6,t8,t7⟩:=GD I2 bZ e;obtain⟨ka,rfl,rfl,hka⟩:=key_is I2 hk (rdk.step aO hZ) rvk;have hroom:(uK X.prog X.w).room X.A:=by show X.A.units+12<cLine;omega
 have hno:atKey xs dk=none:=by have:=L6 (k:=dk) hk t4;rw[t3,hnew]at this;cases q:atKey xs dk with|none=>rfl|some p=>rw[q]at this;cases this
 have hxl:xs.length=ks.length:=by rw[<-t3];simp
 refine g7 ?_;rw[rh];refine af (af ?_);show wpAny _ _ (dictSet s.heap.objs.size (.ref ka) uv >>= fun _=>pure (kh PUnit.unit)) _ _ s2;refine af (wpAny_dictSet_heap hroom hka t7 (fun h' hm hsb=>?_) (by rw[gA,hxl];have h10:(10000:Nat)<=bE:=(by decide);omega));rw[storedH_new hno]at hm;obtain⟨o',es,ep,m1,m2,m3,m4,m5,m6⟩:=id hm;have hS:Step H2 aF (upd H2 s.heap.objs.size (sM s.heap.objs.size (xs++[(dk,ka,uv)]))) (put aF s.heap.objs.size (.tab (ks++[dk]) (vs++[dv]))):=mF e;have I4:Inv X pz σ (upd H2 s.heap.objs.size (sM s.heap.objs.size (xs++[(dk,ka,uv)]))) { s2 with heap:=h',toks:=s2.toks+(uK X.prog X.w).draws dk }:=by refine I2.write (x:=s.heap.objs.size) (e:=s.heap.objs.size) (by rw[t1];exact cy) (.inl rfl) (fun b u hb z=>(hsb.2 b hb).trans z) ⟨o',m1⟩ ?_;exact⟨⟨o',es,ep,m1,m2,m3,m4⟩,⟨o',m1⟩,uU⟩
 refine ar ?_;show wpAny _ _ (forIn [] _ _) _ _ _;rw[Aad];refine ar (ar (ar (ar ⟨.ref s.heap.objs.size,_,I4,rfl,hq _ _ (.after S0 (.after dH (.after hZ ⟨.ref s.heap.objs.size,_,hS,bZ.GX e ?_,.ref _,q4⟩)))⟩)));refine⟨xs++[(dk,ka,uv)],ws++[vv],dE,t2,by simp [t3],m6,?_,?_,?_,?_⟩;·rw[dw];exact(t8.step bZ hS).append (.cons ((rdk.step aO hZ).step bZ hS) .nil)
 ·intro x hx;rcases List.mem_append.mp hx with hx|hx;·exact t4 x hx
  ·simp only[ah]at hx;subst hx;exact hk
 ·rw[dw];exact t5.append (.cons rvv .nil)
 ·exact(t6.step bZ hS).append (.cons (rdv.step bZ hS) .nil)
theorem Xx (hu:X.A.units+180<cLine)(ha:JE X C sub E k x)(hb:JE X C sub E v y):JE X C sub E (.Dict [some k] [v] pos) (.d1 x y):=⟨Wf hu ha.h hb.h⟩
end
end L3
end
section
namespace L3
variable {f p:Nat}{f m is:List Nat}{k:Option IK}{x:D}{QL:List D->Prop}{R:aB->Prop}{ks vs:List D}
section
variable {C:bG}{sub:Nat->Nat->Bool}{E:XK}{σ:St}{st:aB}{Q:VK}{QQ:List D->aB->Prop}{QB:Bool->aB->Prop}{P:gN}{e a b c:Ex}{es:List Ex}{i:Nat}{d:D}{M:St->aB->Prop}
theorem M4:aG C sub E (.c d) σ st Q=Q d st:=rfl
theorem KI:aG C sub E (.v i) σ st Q=fA σ i fun d=>Q d st:=rfl
theorem Qv:aG C sub E (.tup es) σ st Q=bM C sub E es σ st fun ds aA=>Q (.tup ds) aA:=rfl
theorem Px:aG C sub E (.lst es) σ st Q=bM C sub E es σ st fun ds aA=>iK ds aA Q:=rfl
theorem TR {op:wQ}:aG C sub E (.bin op a b) σ st Q=aG C sub E a σ st fun x aC=>aG C sub E b σ aC fun y aF=>iY op x y aF Q:=rfl
theorem Pq:aG C sub E (.neg a) σ st Q=aG C sub E a σ st fun x aC=>HD x aC Q:=rfl
theorem Ta {op:sY}:aG C sub E (.cmp op a b) σ st Q=aG C sub E a σ st fun x aC=>aG C sub E b σ aC fun y aF=>dU op x y aF fun k=>Q (.bl k) aF:=rfl
theorem Ed {op op':sY}:aG C sub E (.chain op op' a b c) σ st Q=aG C sub E a σ st fun x aC=>aG C sub E b σ aC fun y aF=>dU op x y aF fun k =>if k=true then aG C sub E c σ aF fun z aX=>dU op' y z aX fun k=>Q (.bl k) aX else Q (.bl false) aF:=rfl
theorem Pf:aG C sub E (.and_ a b) σ st Q=aG C sub E a σ st fun x aC=>fB x aC fun k=>if k=true then aG C sub E b σ aC Q else Q x aC:=rfl
theorem Uv:aG C sub E (.or_ a b) σ st Q=aG C sub E a σ st fun x aC=>fB x aC fun k=>if k=true then Q x aC else aG C sub E b σ aC Q:=rfl
theorem Qd:aG C sub E (.not_ a) σ st Q=aG C sub E a σ st fun x aC=>fB x aC fun k=>Q (.bl (!k)) aC:=rfl
theorem Pt:aG C sub E (.ite c a b) σ st Q=aG C sub E c σ st fun x aC=>fB x aC fun k=>if k=true then aG C sub E a σ aC Q else aG C sub E b σ aC Q:=rfl
theorem Hg {f:Nat}:aG C sub E (.call f es) σ st Q=bM C sub E es σ st fun ds aA=>C f ds aA Q E:=rfl
theorem Jo {f:BI}:aG C sub E (.bi f es) σ st Q=bM C sub E es σ st fun ds aA=>iU f ds aA Q:=rfl
theorem Od {ts:List Ty}:aG C sub E (.isi a ts) σ st Q=aG C sub E a σ st fun x aC=>xG sub x aC ts fun k=>Q (.bl k) aC:=rfl
theorem Hh {m:MT}:aG C sub E (.cM m a es) σ st Q=aG C sub E a σ st fun x aC=>AZ m x aC/\bM C sub E es σ aC fun ds aF=>lK m x ds aF Q:=rfl
theorem DN:aG C sub E (.ix a b) σ st Q=aG C sub E a σ st fun x aC=>aG C sub E b σ aC fun y aF=>mY x y aF Q:=rfl
theorem Vt {lo hi:List Ex}:aG C sub E (.sl a lo hi) σ st Q=aG C sub E a σ st fun x aC=>bM C sub E lo σ aC fun ls aF=>qB ls fun l=>bM C sub E hi σ aF fun hs aX=>qB hs fun h=>FY x l h aX Q:=rfl
theorem Qc {f:BI}{k:IK}:aG C sub E (.bit f k es) σ st Q=bM C sub E es σ st fun ds aC=>gZ (some k) ds aC fun _ xs=>fK f xs aC Q:=rfl
theorem Js {n:Nat}{aL tg:List Nat}{one:Bool}{aD ifs:List Ex}:aG C sub E (.comp n aL tg one k aD ifs e) σ st Q=bM C sub E aD σ st fun ds aC=>gZ k ds aC fun as xs =>kM (same as aC) (fun x aF K=>lM one tg x (ao n none++aL.map fun i=>(σ[i]?).getD none) fun bn =>iZ C sub E ifs bn aF fun b aX=>if b=true then aG C sub E e bn aX fun d cG=>K (some d) cG else K none aX) xs [] aC fun ds cW=>iK ds cW Q:=rfl
theorem U7:bM C sub E [] σ st QQ=QQ [] st:=rfl
theorem P1:bM C sub E (e::es) σ st QQ=aG C sub E e σ st fun d aA=>bM C sub E es σ aA fun ds aV=>QQ (d::ds) aV:=rfl
theorem Ru:iZ C sub E [] σ st QB=QB true st:=rfl
theorem Ig:iZ C sub E (e::es) σ st QB=aG C sub E e σ st fun d aA=>fB d aA fun k=>if k=true then iZ C sub E es σ aA QB else QB false aA:=rfl
theorem Sz:wpS C sub (.ex e) P σ st=aG C sub (fun c aA=>P.ex c σ aA) e σ st fun _ aA=>P.nx σ aA:=rfl
theorem wH {t:Tg}:wpS C sub (.asg t e) P σ st=aG C sub (fun c aA=>P.ex c σ aA) e σ st fun d aA=>oF C sub (fun c aA=>P.ex c σ aA) t d σ aA P.nx:=rfl
theorem Mq {op:wQ}:wpS C sub (.aug i op e) P σ st=fA σ i fun x=>aG C sub (fun c aA=>P.ex c σ aA) e σ st fun y aA=>notRef x/\iY op x y aA fun d aV=>P.nx (σ.set i (some d)) aV:=rfl
theorem Ko {x y:List Sx}:wpS C sub (.iff e x y) P σ st=aG C sub (fun c aA=>P.ex c σ aA) e σ st fun d aA=>fB d aA fun k=>if k=true then dD C sub x P σ aA else dD C sub y P σ aA:=rfl
theorem Ni {t:Tg}{b:List Sx}:wpS C sub (.jA t k es b) P σ st=bM C sub (fun c aA=>P.ex c σ aA) es σ st fun ds aC=>gZ k ds aC fun as xs=>BE (same as aC) (fun x next σ st=>oF C sub (fun c aA=>P.ex c σ aA) t x σ st fun bn aA=>dD C sub b { P with nx:=next,ct:=next,bk:=P.nx } bn aA) P.nx xs σ aC:=rfl
theorem W3:wpS C sub (.ret e) P σ st=aG C sub (fun c aA=>P.ex c σ aA) e σ st P.rt:=rfl
theorem Hn:wpS C sub .brk P σ st=P.bk σ st:=rfl
theorem Kh:wpS C sub .cnt P σ st=P.ct σ st:=rfl
theorem Hc:wpS C sub .pass P σ st=P.nx σ st:=rfl
theorem CD:oF C sub E (.nm i) d σ st M=M (σ.set i (some d)) st:=rfl
theorem Ob:oF C sub E (.tp is) d σ st M=lM false is d σ fun bn=>M bn st:=rfl
theorem Qe:oF C sub E (.ix a b) d σ st M=aG C sub E a σ st fun x aC=>aG C sub E b σ aC fun y aF=>DG x y d aF fun aX=>M σ aX:=rfl
theorem Qx {c:List Nat}:oF C sub E (.fl c f a) d σ st M=aG C sub E a σ st fun x aC=>FL c f d x aC fun aF=>M σ aF:=rfl
theorem Ro:oF C sub E (.dk a b) d σ st M=aG C sub E a σ st fun x aC=>aG C sub E b σ aC fun y aF=>zU y d x aF fun aX=>M σ aX:=rfl
theorem Oq {c:List Nat}:aG C sub E (.fld c f a) σ st Q=aG C sub E a σ st fun x aC=>rK c f x aC Q:=rfl
theorem Vp {c:List Nat}{f:Nat}:aG C sub E (.mk c f es) σ st Q=bM C sub E es σ st fun ds aC=>∀ p,aC p=none->C f (.ref p::ds) (put aC p (.ins c [])) (fun d aF=>d=.non/\Q (.ref p) aF) E:=rfl
theorem Pc {c:List Nat}{f:Nat}:aG C sub E (.mcl c m f a es) σ st Q=aG C sub E a σ st fun x aC=>HI c m x aC/\bM C sub E es σ aC fun ds aF=>C f (x::ds) aF Q E:=rfl
theorem Vy:aG C sub E (.cv i es) σ st Q=fA σ i fun d=>A0 d st (fun _ _ _=>True)/\bM C sub E es σ st fun ds aA=>A0 d aA fun a f cs=>C f (cs++ds) (del aA a) (fun d2 aF=>Q d2 (put aF a (.fn f cs))) (fun c aF=>E c (put aF a (.fn f cs))):=rfl
theorem Fd {f g:Nat}{aL:List Nat}{κ:CK}:aG C sub E (.callL f es g aL κ) σ st Q=bM C sub E es σ st fun ds aC=>(∃ P,aC P=some (.cod κ))/\rV σ aL fun cs=>∀ a,aC a=none->C f (ds++[.ref a]) (put aC a (.fn g cs)) (fun d aF=>Q d (del aF a)) (fun c aF=>E c (del aF a)):=rfl
theorem Ct:rV σ [] QL=QL []:=rfl
theorem Aj:rV σ (i::is) QL=fA σ i fun d=>rV σ is fun ds=>QL (d::ds):=rfl
theorem Bo {f:Nat}{cs:List D}{K:Nat->Nat->List D->Prop}(h:st p=some (.fn f cs)):A0 (.ref p) st K=K p f cs:=by unfold A0;simp only[h]
theorem wA {q:Nat}(h:q≠p):del st p q=st q:=by unfold del;rw[if_neg h]
theorem Ux {k v:Ex}:aG C sub E (.d1 k v) σ st Q = ∀ p,st p=none->aG C sub E k σ (put st p (.tab [] [])) fun x aC=>aG C sub E v σ aC fun y aF=>zU x y (.ref p) aF fun aX=>Q (.ref p) aX:=rfl
theorem Hl:aG C sub E .dnew σ st Q = ∀ p,st p=none->Q (.ref p) (put st p (.tab [] [])):=rfl
theorem To {neg:Bool}:aG C sub E (.din neg a b) σ st Q=aG C sub E a σ st fun x aC=>aG C sub E b σ aC fun y aF=>yQ x y aF fun k=>Q (.bl (if neg=true then !k else k)) aF:=rfl
theorem Tj:aG C sub E (.dix a b) σ st Q=aG C sub E a σ st fun y aC=>aG C sub E b σ aC fun x aF=>tF x y aF Q:=rfl
theorem dB {c:List Nat}{fs:List (List Nat×D)}(h:st p=some (.ins c fs))(hx:bY fs f=some x):rK c f (.ref p) st Q=Q x st:=by simp only[rK,oS,h,hx,dJ,true_and]
theorem nI {c:List Nat}{fs:List (List Nat×D)}(h:st p=some (.ins c fs))(hl:fs.length<900):FL c f d (.ref p) st R=R (put st p (.ins c (sR f d fs))):=by simp only[FL,oS,h,hl,true_and]
theorem iM {c:List Nat}{fs:List (List Nat×D)}(h:st p=some (.ins c fs))(hm:bY fs m=none):HI c m (.ref p) st=True:=by simp only[HI,oS,h,hm,and_self]
theorem XD {R:Bool->Prop}(h:st p=some (.tab ks vs))(hx:keyed x):yQ x (.ref p) st R=R (ks.any fun k=>bT k x):=by simp only[yQ,tabAt,h,hx,true_and]
theorem BB {v:D}(h:st p=some (.tab ks vs))(hx:keyed x)(hv:lP ks vs x=some v):tF x (.ref p) st Q=Q v st:=by simp only[tF,tabAt,h,hx,hv,dJ,true_and]
theorem TM {v:D}(h:st p=some (.tab ks vs))(hx:keyed x)(hn:(ks.any fun k=>bT k x)=false)(hl:ks.length<10000):zU x v (.ref p) st R=R (put st p (.tab (ks++[x]) (vs++[v]))):=by simp only[zU,tabAt,h,hx,hn,hl,true_and]
end
section
variable {d:D}{r:St}{R:D->Prop}{o0 o1 o2 o3 o4 o5 o6 o7 o8 o9 rA rS RR:Option D}
theorem HC:fA (some d::r) 0 R=R d:=rfl
theorem Ho:fA (o0::some d::r) 1 R=R d:=rfl
theorem Uy:fA (o0::o1::some d::r) 2 R=R d:=rfl
theorem Uj:fA (o0::o1::o2::some d::r) 3 R=R d:=rfl
theorem Vh:fA (o0::o1::o2::o3::some d::r) 4 R=R d:=rfl
theorem Vk:fA (o0::o1::o2::o3::o4::some d::r) 5 R=R d:=rfl
theorem Vz:fA (o0::o1::o2::o3::o4::o5::some d::r) 6 R=R d:=rfl
theorem Uo:fA (o0::o1::o2::o3::o4::o5::o6::some d::r) 7 R=R d:=rfl
theorem Vj:fA (o0::o1::o2::o3::o4::o5::o6::o7::some d::r) 8 R=R d:=rfl
theorem Ur:fA (o0::o1::o2::o3::o4::o5::o6::o7::o8::some d::r) 9 R=R d:=rfl
theorem Qs:fA (o0::o1::o2::o3::o4::o5::o6::o7::o8::o9::some d::r) 10 R=R d:=rfl
theorem Rg:fA (o0::o1::o2::o3::o4::o5::o6::o7::o8::o9::rA::some d::r) 11 R=R d:=rfl
theorem Qh:fA (o0::o1::o2::o3::o4::o5::o6::o7::o8::o9::rA::rS::some d::r) 12 R=R d:=rfl
theorem Rj:fA (o0::o1::o2::o3::o4::o5::o6::o7::o8::o9::rA::rS::RR::some d::r) 13 R=R d:=rfl
end
end L3
end
section
namespace L3
open PySem PySem.Spec PyProof.Rows L2
noncomputable def kA (H:Hp)(a:Addr):Hp:=fun b=>match H b with|some (.frz o (.own n))=>if n=a then none else some (.frz o (.own n))|y=>y
variable {H:Hp}{b:Addr}
theorem wF {a:Addr}{o:Obj}(h:H b=some (.frz o (.own a))):kA H a b=none:=by unfold kA;rw[h];simp
theorem nQ {a:Addr}(h:H b=none):kA H a b=none:=by unfold kA;rw[h]
theorem qR (H:Hp)(a b:Addr):(∃ o,H b=some (.frz o (.own a))/\kA H a b=none)∨((∀ o,H b≠some (.frz o (.own a)))/\kA H a b=H b):=by cases h:H b with|none=>exact .inr ⟨fun o z=>(by cases z),nQ h⟩|some y =>
  by_cases q:∃ o,y=.frz o (.own a);·obtain⟨o,rfl⟩:=q;exact .inl ⟨o,rfl,wF h⟩
  ·refine .inr ⟨fun o z=>q ⟨o,c7 z⟩,?_⟩;unfold kA;rw[h];cases y with
   |frz o u=>cases u with|own n =>have hn:n≠a:=fun z=>q ⟨o,by rw[z]⟩;simp [hn]|_=>rfl
   |_=>rfl
theorem ZT {a:Addr}{y:HO}(h:kA H a b=some y):H b=some y:=by
 rcases qR H a b with⟨o,_,e⟩|⟨_,e⟩;·rw[e]at h;cases h
 ·rw[<-e];exact h
theorem sO {a:Addr}{y:HO}(h:H b=some y)(n:∀ o,y≠.frz o (.own a)):kA H a b=some y:=by
 rcases qR H a b with⟨o,e,_⟩|⟨_,e⟩;·rw[h]at e;exact absurd (c7 e) (n o)
 ·rw[e];exact h
noncomputable def CC (H H':Hp)(a:Addr):Hp:=fun b=>match H b with|some (.frz o (.own n))=>if n=a then some (.frz o (.own n))else H' b|_=>H' b
variable {H':Hp}
theorem D0 {a:Addr}{o:Obj}(h:H b=some (.frz o (.own a))):CC H H' a b=some (.frz o (.own a)):=by unfold CC;rw[h];simp
theorem iF {a:Addr}(h:∀ o,H b≠some (.frz o (.own a))):CC H H' a b=H' b:=by unfold CC;cases e:H b with|none=>rfl|some y=>cases y with
 |frz o u=>cases u with|own n =>have hn:n≠a:=fun z=>h o (by rw[e,z]);simp [hn]|_=>rfl
 |_=>rfl
variable {P:b7}
theorem Eg {w:c9}{h:Heap}{a:Addr}(ok:iN P w H h):iN P w (kA H a) h:=fun b o e =>(ok b o (ZT e)).pP (fun _ _ _ q=>q) (fun _ q=>sO q (fun _ z=>nomatch z)) fun _ _ q=>sO q (fun _ z=>nomatch z)
def Kp (H H':Hp)(a:Addr):Prop:=∀ b y,H b=some y->(∀ o,y≠.frz o (.own a))->(∀ o u,y≠.frz o (.frz u (.own a)))->H' b=some y
theorem X9 {a:Addr}:Kp H (kA H a) a:=fun _ _ h n _=>sO h n
variable {vs:List V}
theorem Mm {K:aa}{a:Addr}(k:Kp H H' a)(h:eU K H b vs):eU K H' b vs:=by
 rcases h with(h|⟨o,h⟩)|h;·exact .inl (.inl (k _ _ h (fun _ z=>nomatch z) (fun _ _ z=>nomatch z)))
 ·exact .inl (.inr ⟨o,k _ _ h (fun _ z=>nomatch z) (fun _ _ z=>nomatch z)⟩)
 ·exact .inr h
theorem Fb {K:aa}{a:Addr}(k:Kp H H' a)(h:nR K H b vs):nR K H' b vs:=by
 rcases h with⟨o,h⟩|h;·exact .inl ⟨o,k _ _ h (fun _ z=>nomatch z) (fun _ _ z=>nomatch z)⟩
 ·exact .inr h
mutual
theorem Rep.to {K:aa}{H H':Hp}{a:Addr}(k:Kp H H' a):∀{d:D}{v:V},Rep K H d v->Rep K H' d v|_,_,.non=>.non|_,_,.bl b=>.bl b|_,_,.int i=>.int i|_,_,.str x=>.str x|_,_,.tup h r=>.tup (Mm k h) (aJ.to k r)|_,_,.ref a=>.ref a|_,_,.bR h r=>.bR (Fb k h) (aJ.to k r)|_,_,.dP h=>.dP h
theorem aJ.to {K:aa}{H H':Hp}{a:Addr}(k:Kp H H' a):∀{ds:List D}{vs:List V},aJ K H ds vs->aJ K H' ds vs|_,_,.nil=>.nil|_,_,.cons h r=>.cons (Rep.to k h) (aJ.to k r)end
theorem Q4 {K:aa}{a:Addr}{o:MO}(k:Kp H H' a)(ne0:a≠0)(hb:b≠a)(h:vM K H b o):vM K H' b o:=by
 cases o with|lst ds=>obtain⟨vs,q,r⟩:=h;exact⟨vs,k _ _ q (fun _ z=>nomatch z) (fun _ _ z=>nomatch z),r.to k⟩|dic _ _=>exact h|ins c fs=>obtain⟨C,dx,ws,q,q2,q3,r⟩:=h;exact⟨C,dx,ws,q,k _ _ q2 (fun _ z=>nomatch z) (fun _ _ z=>nomatch z),q3,r.to k⟩|tab ks vs=>obtain⟨xs,ws,q,q0,q1,q2,q3,q4,q5,r⟩:=h;exact⟨xs,ws,k _ _ q (fun _ z=>nomatch z) (fun _ _ z=>nomatch z),q0,q1,q2,q3.to k,q4,q5,r.to k⟩|fn f cs =>
 obtain⟨vs,⟨T,clos,pm,ctv,c',oc,nb,t,q,ec,co,inj,dom,cap⟩,r⟩:=h;refine⟨vs,⟨T,clos,pm,ctv,c',oc,nb,t,k _ _ q (fun _ z=>nomatch z) (fun _ _ z=>?_),k _ _ ec (fun _ z=>?_) (fun _ _ z=>nomatch z),co,inj,dom,cap.of fun b' o z=>k _ _ z (fun _ y=>?_) (fun _ _ y=>nomatch y)⟩,r.to k⟩;·injection z with _ z;injection z with _ z;injection z with z;exact hb z
 ·injection z with _ z;injection z with z;exact ne0 z.symm
 ·injection y with _ y;injection y with y;exact hb y|cod κ =>
 obtain⟨q0,q|⟨c',oc,q,ec,co⟩⟩:=h;·exact⟨q0,.inl (k _ _ q (fun _ z=>nomatch z) (fun _ _ z=>nomatch z))⟩
 ·exact⟨q0,.inr ⟨c',oc,k _ _ q (fun _ z=>nomatch z) (fun _ _ z=>nomatch z),k _ _ ec (fun _ z=>by injection z with _ z;injection z with z;exact ne0 z.symm) (fun _ _ z=>nomatch z),co⟩⟩
variable {st:aB}
theorem Gw {K:aa}{a:Addr}(k:Kp H H' a)(ne0:a≠0)(ok:aS K st H)(hn:st a=none):aS K st H':=fun b o e =>Q4 k ne0 (fun z=>by rw[z,hn]at e;cases e) (ok b o e)
theorem BD:∀{ps:List Str}{us:List ae}{i:Nat}{x:Str}{u:ae},ps.Nodup->ps[i]? = some x->us[i]? = some u->(ps.zip us).reverse.lookup x=some u
 |[],_,_,_,_,_,h,_=>by simp at h|_::_,[],_,_,_,_,_,h=>by simp at h|p::ps,v::us,0,x,u,nd,h1,h2=>by
  simp at h1 h2;subst h1;subst h2;rw[l8,jy,zr];have:(ps.zip us).reverse.lookup p=none:=by
   rw[List.lookup_eq_none_iff];intro q hq;have hq:q∈ps.zip us:=by simpa using hq
   have:=(oe hq).1;rw[bne_iff_ne];intro z;exact(List.nodup_cons.mp nd).1 (z▸this)
  rw[this];simp|p::ps,v::us,i+1,x,u,nd,h1,h2=>by rw[l8,jy,zr,BD (List.nodup_cons.mp nd).2 (by simpa using h1) (by simpa using h2)];rfl
structure SG (T:lL):Prop where
 kind:T.scope.kind=.function
 co:T.scope.isCoroutine=false
 gen:T.scope.isGenerator=false
 nc:∀ x∈T.scope.names,x.2≠.cell
 nd:(T.aL++T.ps).Nodup
 lo:∀ x∈T.ps,T.scope.names.lookup x=some .local
 fr:∀ x,T.scope.names.lookup x=some .free->x∈T.aL
 cf:∀ x∈T.aL,T.scope.names.lookup x=some .free
noncomputable def UM (P:b7)(w:c9)(K:aa)(mg:Str->Option ae)(base:Heap)(T:lL)(clos:List (Str×Addr))(a c':Addr)(A:cp)(outer:List Env)(s:ag)(H:Hp):Cx where prog:=P;w:=w;K:=K;mg:=mg;base:=base;A:=A.deeper (sj T.q T.scope s.heap.objs.size a (.ref c') clos);N:=T.aL++T.ps;s₀:=s;H₀:=H;env:=sj T.q T.scope s.heap.objs.size a (.ref c') clos;outer:=outer;stack:=sj T.q T.scope s.heap.objs.size a (.ref c') clos::outer;ex:=[];calm:=true;fn:=fun _=>false;pn:=[];xe:=fun _ _=>False
def pX (P:b7)(w:c9)(K:aa)(mg:Str->Option ae)(base:Heap)(r:Nat)(C:bG)(f:Nat):Prop :=∀(A:cp)(outer:List Env)(s:ag)(H:Hp)(a:Addr)(us:List ae)(vs cvs:List V)(ds cs:List D)(st:aB)(R:VK)(Q:L2.VK)(E:L2.XK),dM r A->vF P w K mg base A outer s H->Cc H a f cvs->st a=none->aS K st H->aJ K H cs cvs->aJ K H ds vs->aR vs us->C f (cs++ds) st R (fun _ _=>False)->(∀ v H',QD K H st R v H'->Q v H') ->lz (model P w) A (.call (.ref a) ⟨us,[]⟩) (CR dZ outer P w H s Q E) s
variable {clos:List (Str×Addr)}{xs:List Str}
theorem OK {a:Addr}(h:kC H a clos xs vs):xs.length=vs.length:=by induction h with|nil=>rfl|cons _ _ _ _ _ _ _ _ ih=>exact congrArg Nat.succ ih
theorem DP {a:Addr}(h:kC H a clos xs vs):∀{i:Nat}{x:Str},xs[i]? = some x->∃ v cl o u,vs[i]? = some v/\clos.lookup x=some cl/\H cl=some (.frz o (.own a))/\o.data=.cell (some u)/\RelV v u:=by induction h with|nil=>intro i x e;simp at e|cons cl o u l k d r t ih =>intro i x e;cases i with|zero=>simp at e;subst e;exact⟨_,cl,o,u,rfl,l,k,d,r⟩|succ i=>exact ih (by simpa using e)
variable {T:lL}
section
variable {w:c9}{K:aa}{mg:Str->Option ae}{base:Heap}{a c':Addr}{A:cp}{outer:List Env}{s:ag}{us:List ae}{cvs:List V}
theorem Gm (S:SG T)(hd:A.handled=none)(e0:vF P w K mg base A outer s H)(inj:∀ x y c,clos.lookup x=some c->clos.lookup y=some c->x=y)(dom:∀ x c,clos.lookup x=some c->x∈T.aL)(cap:kC H a clos T.aL cvs)(hl:vs.length=T.ps.length)(r:aR vs us){db:Heap}{tk:Nat}(hns:db.Ns s.heap.objs.size (fun y=>(T.ps.zip us).reverse.lookup y))(hk:∀ b o,s.heap.get? b=some o->db.get? b=some o):Inv (UM P w K mg base T clos a c' A outer s (kA H a)) [] (cvs.map some++vs.map some) (kA H a) { s with heap:=db,toks:=tk }:=by
 have clen:=OK cap;have cells:∀ x c,clos.lookup x=some c->∃ o u,H c=some (.frz o (.own a))/\o.data=.cell (some u):=fun x c e=>by obtain⟨i,hi⟩:=qy (dom x c e);obtain⟨v,cl,o,u,_,l,k,d,_⟩:=DP cap hi;rw[e]at l;cases l;exact⟨o,u,k,d⟩
 have hcl:∀{c o u},H c=some (.frz o (.own a))->o.data=.cell (some u)->db.IsCell c (some u):=fun{c o u} k d=>⟨o,hk _ _ (e0.bO c _ k).1,d⟩;have noA:∀ b:Addr,b∉(UM P w K mg base T clos a c' A outer s (kA H a)).ex:=fun b z=>absurd (show b∈([]:List Addr)from z) (by simp);refine⟨⟨e0.mod,S.kind,rfl,rfl,aw _,inj,fun y hy=>?_,fun y c z _=>(nomatch (show false=true from z)),fun _=>hd,xp e0.frames,.inr ⟨rfl,rfl⟩,fun b z=>absurd z (noA b),fun b o e=>⟨(e0.bs b o e).1,nQ (e0.bs b o e).2⟩,e0.bsz,fun b _ _=>noA b,fun b z=>absurd z (noA b),e0.mR,fun b z=>nQ (e0.frf b z)⟩,rfl,e0.bare,Un.kept hk,⟨_,hns,fun i y v h1 h2 h3=>?_⟩,fun y c h=>?_,nQ (e0.bO.fresh (aw _)),fun y c h=>?_,fun p hp=>absurd (show p∈([]:List (Addr×Obj))from hp) (by simp),(Eg e0.bO).kept hk,?_⟩
 ·have hy:T.scope.names.lookup y=some .cell∨T.scope.names.lookup y=some .free:=hy;rcases hy with hy|hy;·exact absurd rfl (S.nc _ (i7 hy))
  ·obtain⟨i,hi⟩:=qy (S.fr y hy);obtain⟨_,cl,_,_,_,l,_⟩:=DP cap hi;exact⟨cl,l⟩
 ·by_cases hi:i<T.aL.length
  ·have h1':T.aL[i]? = some y:=by have h1:(T.aL++T.ps)[i]? = some y:=h1;rwa [bu hi]at h1
   obtain⟨v',cl,o,u,e1,l,k,d,rv⟩:=DP cap h1';rw[bu (by rw[ab,<-clen];exact hi),bg,e1]at h2;cases h2;exact⟨u,rv,.inr ⟨.inr (S.cf y (bp h1')),cl,l,hcl k d⟩⟩
  ·have h1':T.ps[i-T.aL.length]? = some y:=by have h1:(T.aL++T.ps)[i]? = some y:=h1;rwa [cw (by omega)]at h1
   have h2':vs[i-T.aL.length]? = some v:=by rw[cw (by rw[ab,<-clen];omega),ab,<-clen,bg]at h2;cases e:vs[i-T.aL.length]? with|none=>rw[e]at h2;cases h2|some z=>rw[e]at h2;cases h2;rfl
   obtain⟨u,hu,rv⟩:=r.get h2';have ndp:T.ps.Nodup:=(List.nodup_append.mp S.nd).2.1;refine⟨u,rv,.inl ⟨S.lo y (bp h1'),?_⟩⟩;exact BD ndp h1' hu
 ·obtain⟨o,u,k,d⟩:=cells y c h;exact⟨some u,hcl k d⟩
 ·obtain⟨o,u,k,d⟩:=cells y c h;exact wF k
 ·show _=(T.aL++T.ps).length;rw[bq,bq,ab,ab,clen,hl]
end
variable {k r f:Nat}{n x:Str}
section
variable {w:c9}{K:aa}{mg:Str->Option ae}{base:Heap}
theorem Gu {G:Prog}{n:Nat}{x:Ex}(hT:LT f=some T)(S:SG T)(hG:G.fns f=some ⟨n,n,[.ret x]⟩)(hn:n=T.aL.length+T.ps.length)(hbind:∀(clos:List (Str×Addr))(pm:ae)(c':Addr)(ctv:ae)(us:List ae),us.length=T.ps.length->Zu (PySem.W.kla_fn "<lambda>" T.q T.params T.body T.scope clos pm (.ref c') ctv) ⟨us,[]⟩=pure (T.ps.zip us))(hb:∀(clos:List (Str×Addr))(a c':Addr)(A:cp)(outer:List Env)(s:ag)(H:Hp),dM r (A.deeper (sj T.q T.scope s.heap.objs.size a (.ref c') clos))->JE (UM P w K mg base T clos a c' A outer s H) (aH G k) G.sub (fun _ _=>False) T.body x): pX P w K mg base (r+1) (aH G (k+1)) f:=by
 intro A outer s H a us vs cvs ds cs st R Q E hr e0 hF eV ok rc rd rv hC hQ;obtain⟨T',clos,pm,ctv,c',oc,ne0,t,e,ec,co,inj,dom,cap⟩:=hF;rw[hT]at t;cases t;simp only[aH,hG]at hC;have clen:=OK cap;have hlen:(cs++ds).length=n:=hC.1;have hl:vs.length=T.ps.length:=by have h1:=rd.length;have h2:=rc.length;rw[bq]at hlen;omega
 have hus:us.length=T.ps.length:=by rw[<-rv.length];exact hl
 obtain⟨vs0,t0,co1,co2⟩:=co;have lim:s.heap.NoLimit:=e0.mod.nolimit.keeps fun b o z=>(e0.bs b o z).1;refine PySem.W.kla_callFunE hr.depth (e0.bO a _ e).1 rfl S.co S.gen rfl ⟨c',oc,vs0,t0,rfl,(e0.bO c' _ ec).1,co1,co2⟩ ?_;rw[hbind clos pm c' ctv us hus];refine ar (yc S.nc (fun y hy=>S.lo y.1 (oe hy).1) (fun db hns hsb=>⟨lim.fresh _ hsb,?_⟩) S.kind);show lz _ _ (.expr T.body (sj T.q T.scope s.heap.objs.size a (.ref c') clos)) _ _;have hk:∀ b o,s.heap.get? b=some o->db.get? b=some o:=fun b o z=>hsb.extBut b o (b9 (bh z)) (aj _ z);refine PySem.W.kla_codeExpr ?_;have I:=Gm (P:=P) (w:=w) (c':=c') (tk:=s.toks+(T.ps.zip us).length) S hr.hd e0 inj dom cap hl rv hns hk;have hq:aG (aH G k) G.sub (fun _ _=>False) x (start n n (cs++ds)) st R:=by have:=hC.2;simp only[dD,wpS]at this;exact this
 have est:start n n (cs++ds)=cs.map some++ds.map some:=by simp [start]
 have hsr:dY K (kA H a) (start n n (cs++ds)) (cvs.map some++vs.map some):=by have rr:aJ K (kA H a) (cs++ds) (cvs++vs):=(rc.append rd).to X9;rw[est,<-dw,<-dw];refine⟨by rw[ab,ab,rr.length],fun i d e=>?_⟩;rw[bg,di]at e;obtain⟨d',e1,e2⟩:=e;cases e2;obtain⟨v,e3,e4⟩:=rr.get e1;exact⟨v,by rw[bg,e3];rfl,e4⟩
 have key:=(hb clos a c' A outer s (kA H a) (hr.deeper _)).h [] _ _ (kA H a) (fun v H'=>QD K (kA H a) st R v H') I ⟨start n n (cs++ds),st,R,hsr,Gw X9 ne0 ok eV,hq,fun v H' z=>z⟩;refine j8 key (fun u s' z=>?_) fun e s' z=>z.elim;obtain⟨v,H',J,bJ,d,aA,s1,aO,r1,q1⟩:=z;have jb:Un (tJ outer) [] (kA H a) H' s.heap s'.heap:=J.base;have nc:∀{b y},H' b=some y->∀ o,H b≠some (.frz o (.own a)):=fun{b y} h o z=>by have:=jb.free b o (e0.bO b _ z).1 (wF z) (by simp);rw[h]at this;cases this
 have aF:Step H' aA (CC H H' a) aA:=fun b o eb n=>⟨by rw[iF (nc eb)];exact eb,n⟩;refine⟨v,CC H H' a,J.os,J.bare,⟨fun b o q n hb hx=>jb.keep b o q (nQ n) hb hx,fun b o q n hb hx=>jb.slot b o q (nQ n) hb hx,fun b o q n hx=>?_,fun b o q hx=>jb.there b o q hx,fun b xs q=>?_,fun b o u q=>?_,fun b ps q=>?_⟩,fun b o e=>?_,bJ,hQ v _ ⟨d,aA,fun b o eb n=>?_,fun b o e=>?_,r1.step aO aF,q1⟩⟩;·rw[iF (fun o z=>by rw[n]at z;cases z)];exact jb.free b o q (nQ n) hx
 ·rw[iF (fun o z=>by rw[q]at z;cases z)];exact jb.tP b xs (sO q (fun _ z=>nomatch z))
 ·rcases qR H a b with⟨o',e',_⟩|⟨n,e'⟩;·rw[D0 e',<-e'];exact q
  ·rw[iF n];exact jb.pE b o u (by rw[e'];exact q)
 ·obtain⟨more,z⟩:=jb.rO b ps (sO q (fun _ z=>nomatch z));exact⟨more,by rw[iF (fun o z=>by rw[q]at z;cases z)];exact z⟩
 ·rcases qR H a b with⟨o',e',_⟩|⟨n,e'⟩;·rw[D0 e']at e;cases e;have g:=jb.keep b o' (e0.bO b _ e').1 (wF e') (fun z=>by rw[e0.frf b z]at e';cases e') (by simp);exact⟨g,o',g⟩
  ·rw[iF n]at e;exact(J.bO b o e).pP (fun _ _ _ q=>q) (fun b' q=>by rw[iF (nc q)];exact q) fun b' xs q=>by rw[iF (nc q)];exact q
 ·rcases qR H a b with⟨o',e',_⟩|⟨n',e'⟩;·refine⟨by rw[D0 e',<-e'];exact eb,aO.fresh ?_⟩;exact jb.free b o' (e0.bO b _ e').1 (wF e') (by simp)
  ·obtain⟨h1,h2⟩:=s1 b o (by rw[e'];exact eb) n;exact⟨by rw[iF n'];exact h1,h2⟩
 ·have h:=aO b o e;obtain⟨o',h1,_⟩:=h.bears;exact h.step aO aF (iF (nc h1))
end
set_option tactic.hygienic true in
theorem M8 {σ:St}{i:Nat}{Q:D->Prop}(h:fA σ i Q):∃ d,σ[i]? = some (some d)/\Q d:=by
 unfold fA at h;split at h;·rename_i d e;exact⟨d,e,h⟩
 ·exact h.elim
set_option tactic.hygienic true in
theorem QN {d:D}{K:Nat->Nat->List D->Prop}(h:A0 d st K):∃ a f cs,d=.ref a/\st a=some (.fn f cs)/\K a f cs:=by
 cases d<;>first|exact ek h|skip
 rename_i a;unfold A0 at h;simp only at h;split at h;·rename_i f cs e;exact⟨a,f,cs,rfl,e,h⟩
 ·exact h.elim
theorem D2 {a:Nat}:del st a a=none:=by unfold del;rw[if_pos rfl]
theorem D7 {a b:Nat}(h:b≠a):del st a b=st b:=by unfold del;rw[if_neg h]
theorem RO {a b:Nat}{o:MO}(h:del st a b=some o):st b=some o/\b≠a:=by
 by_cases z:b=a;·rw[z,D2]at h;cases h
 ·rw[D7 z]at h;exact⟨h,z⟩
variable {X:Cx}{C:bG}{p:Pos}{es:List Expr}
section
variable {sub:Nat->Nat->Bool}{i:Nat}{pos:Pos}{e:Expr}{xs:List Ex}{E0:L2.XK}
theorem Q7 {h:Heap}{w:c9}{a:Addr}(ok:iN P w H h)(F:Cc H a f vs):PySem.W.FnAt a h:=by obtain⟨T,clos,pm,ctv,c',oc,_,_,e,_⟩:=F;exact⟨_,_,_,_,(ok a _ e).1⟩
theorem Ue (hL:∀ f T,LT f=some T->pX X.prog X.w X.K X.mg X.base k C f)(hr:dM k X.A)(hN:X.N[i]? = some x)(hv:Ax X.env.scope x)(hx:qL dZ X E0)(ha:PA X (e::es) (kU X.K (bM C sub (fun _ _=>False) xs)))(hd:(x==("__debug__" : Str))=false)(hcd:(x==("__classdict__" : Str))=false)(he:aq (e::es) X.env=(false,eval e X.env)::aq es X.env)(dO:(eh pos (aq es X.env)).any (·.1)=false):PE X (.Call (.Name x p) (e::es) [] pos) (cF X.K (aG C sub (fun _ _=>False) (.cv i xs))):=by
 intro pz s σ H Q I ⟨ap,st,R,r,ok,q,hq⟩;obtain⟨d,ed,q0,q⟩:=M8 q;obtain⟨a,f0,cs0,rfl,ea0,_⟩:=QN q0;obtain⟨v,ev,rep⟩:=r.2 i _ ed;cases rep.cQ;obtain⟨cvs0,F0,_⟩:=ok a _ ea0;refine fw (bF (X6 hN hv hd hcd pz s σ H (fun v' H1=>v'=.ref a/\H1=H) I ⟨_,ev,rfl,rfl⟩) fun u s1 z=>?_);obtain⟨v',H1,I1,rv,rfl,rfl⟩:=z;obtain rfl:u=i5 a:=rv;refine PySem.W.callWith_F (Q7 I1.bO F0) (bF (ha pos pz s1 σ H1 _ I1 ⟨ap,st,_,r,ok,q,fun vs H2 z=>z⟩) fun us s2 z=>?_) he dO;obtain⟨vs,H2,I2,rvs,ds,aF,dH,bZ,rds,q3⟩:=z;obtain⟨a',f,cs,e1,ea,q4⟩:=QN q3;cases e1;have hO:=bZ a _ ea;obtain⟨cvs,F,rcs⟩:=id hO;refine⟨Q7 I2.bO F,?_⟩;have okd:aS X.K (del aF a) H2:=fun b o e=>bZ b o (RO e).1;have hT:∃ T,LT f=some T:=by obtain⟨T,_,_,_,_,_,_,t,_⟩:=F;exact⟨T,t⟩
 obtain⟨T,hT⟩:=hT;refine wa (l0 (hL f T hT X.A X.stack s2 H2 a us vs cvs ds cs (del aF a) _ Q E0 hr I2.S1 F D2 okd rcs rds rvs q4 fun v H' z=>?_) fun r s' hq=>?_)
 ·obtain⟨d2,aX,s3,qZ,r3,q5⟩:=z;obtain⟨oa,ha1,_⟩:=hO.bears;have h3:=s3 a oa ha1 D2;refine hq v H' (.after dH ⟨d2,put aX a (.fn f cs),fun b o eb n=>?_,fun b o e=>?_,r3,q5⟩)
  ·have ba:b≠a:=fun z=>by rw[z,ea]at n;cases n
   obtain⟨h1,h2⟩:=s3 b o eb (by rw[D7 ba];exact n);exact⟨h1,by rw[aM ba];exact h2⟩
  ·by_cases ba:b=a;·subst ba;rw[aN]at e;cases e;exact hO.step okd s3 (by rw[h3.1,ha1])
   ·rw[aM ba]at e;exact qZ b o e
 ·cases r with|error e=>exact hx pz σ H2 s2 e s' I2 hq|ok fl =>cases fl with|ret u=>exact I2.after hq|next=>exact ek hq|brk=>exact ek hq|cont=>exact ek hq
end
theorem JR {σ:St}:∀{is:List Nat}{Q:List D->Prop},rV σ is Q->∃ cs,cs.length=is.length/\(∀(j i:Nat),is[j]? = some i->∃ d,σ[i]? = some (some d)/\cs[j]? = some d)/\Q cs|[],Q,h=>⟨[],rfl,fun j i e=>by simp at e,h⟩|i::is,Q,h=>by obtain⟨d,e,h⟩:=M8 h;obtain⟨cs,l,g,q⟩:=JR (is:=is) h;refine⟨d::cs,by simp [l],fun j i' e'=>?_,q⟩;cases j with|zero=>simp at e';subst e';exact⟨d,e,rfl⟩|succ j=>exact g j i' (by simpa using e')
inductive pA (h:Heap)(cells:List (Str×Addr)):List Str->List V->Prop where|nil:pA h cells [] []|cons {x:Str}{xs:List Str}{v:V}{vs:List V}(cl:Addr)(o:Obj)(u:ae)(l:cells.lookup x=some cl)(k:h.get? cl=some o) (d:o.data=.cell (some u)) (r:RelV v u) (t:pA h cells xs vs):pA h cells (x::xs) (v::vs)
variable {σ:L2.St}{pz:List (Addr×Obj)}
section
variable {s:ag}{ap:St}
theorem EC (I:Inv X pz σ H s)(r:dY X.K H ap σ):∀(xs:List Str)(aL:List Nat)(cs:List D),(∀(j:Nat)(x:Str),xs[j]? = some x->∃ i,aL[j]? = some i/\X.N[i]? = some x/\X.env.scope.names.lookup x=some .cell)->xs.length=aL.length->cs.length=aL.length->(∀(j i:Nat),aL[j]? = some i->∃ d,ap[i]? = some (some d)/\cs[j]? = some d) -> ∃ cvs,aJ X.K H cs cvs/\pA s.heap X.env.cells xs cvs
 |[],[],[],_,_,_,_=>⟨[],.nil,.nil⟩|x::xs,c::aL,d::cs,hx,h1,h2,hg=>by
  obtain⟨cvs,rr,cc⟩:=EC I r xs aL cs (fun j y e=>by simpa using hx (j+1) y (by simpa using e)) (by simpa using h1) (by simpa using h2) (fun j i e=>by simpa using hg (j+1) i (by simpa using e));obtain⟨i,e1,e2,e3⟩:=hx 0 x rfl;cases e1;obtain⟨d',e4,e5⟩:=hg 0 c rfl;cases e5;obtain⟨v,e6,e7⟩:=r.2 c d e4;obtain⟨m,hn,hl⟩:=I.loc;obtain⟨u,rv,l⟩:=hl c x v e2 e6 (.inr (.inl e3));rcases l with⟨hk,_⟩|⟨_,cl,hc,o,ho,hd⟩;·have hk:X.env.scope.names.lookup x=some .local:=hk;rw[e3]at hk;cases hk
  ·exact⟨v::cvs,.cons e7 rr,.cons cl o u hc ho hd rv cc⟩|[],_::_,_,_,h1,_,_=>by simp at h1|_::_,[],_,_,h1,_,_=>by simp at h1|[],[],_::_,_,_,h2,_=>by simp at h2|_::_,_::_,[],_,_,h2,_=>by simp at h2
end
theorem TX {h h':Heap}{cells:List (Str×Addr)}(c:pA h cells xs vs)(k:∀ x cl o u,cells.lookup x=some cl->h.get? cl=some o->o.data=.cell u->h'.get? cl=some o):pA h' cells xs vs:=by induction c with|nil=>exact .nil|cons cl o u l q d r t ih=>exact .cons cl o u l (k _ _ _ _ l q d) d r ih
noncomputable def X8 (clos:List (Str×Addr))(xs:List Str):List Addr:=xs.filterMap fun x=>clos.lookup x
noncomputable def jV (H:Hp)(h:Heap)(a:Addr)(fo:Obj)(l:List Addr):Hp:=fun b=>if b=a then some (.frz fo (.frz fo (.own a)))else if b∈l then(h.get? b).map fun o=>.frz o (.own a)else H b
noncomputable def B7 (H:Hp)(l:List Addr):Hp:=fun b=>if b∈l then none else H b
section
variable {h:Heap}{a:Addr}{fo:Obj}{l:List Addr}
theorem MQ:jV H h a fo l a=some (.frz fo (.frz fo (.own a))):=by unfold jV;rw[if_pos rfl]
theorem MY {o:Obj}(n:b≠a)(m:b∈l)(e:h.get? b=some o):jV H h a fo l b=some (.frz o (.own a)):=by unfold jV;rw[if_neg n,if_pos m,e];rfl
theorem AX (n:b≠a)(m:b∉l):jV H h a fo l b=H b:=by unfold jV;rw[if_neg n,if_neg m]
theorem XZ (m:b∈l):B7 H l b=none:=by unfold B7;rw[if_pos m]
theorem tG (m:b∉l):B7 H l b=H b:=by unfold B7;rw[if_neg m]
theorem PU {ys:List Str}(c:pA h clos xs vs)(na:∀ x cl,clos.lookup x=some cl->cl≠a)(sub:∀ x∈xs,x∈ys):kC (jV H h a fo (X8 clos ys)) a clos xs vs:=by induction c with|nil=>exact .nil|cons cl o u l q d r t ih =>refine .cons cl o u l (MY (na _ _ l) ?_ q) d r (ih fun x hx=>sub x (cq _ hx));exact List.mem_filterMap.mpr ⟨_,sub _ (dh ..),l⟩
end
def vJ (mg:Str->Option ae)(base:Heap):Prop:=∃ bm ob,mg "__builtins__" = some (.ref bm)/\bm≠builtinsNs/\base.get? bm=some ob/\ob.cls=.type "module" /\ ob.dict=some zh/\ob.data=.plain
variable {κ:CK}{lpos:Pos}
section
variable {s:ag}
theorem YF {P:Addr}{Q:ae->ag->Prop}{E:ae->ag->Prop}(I:Inv X pz σ H s)(hR:SJ X.K H P κ)(hBm:vJ X.mg X.base)(hq:T.q=X.env.qual ++"<lambda>")(kt:T.q=⟨κ.q.toArray⟩)(hln:κ.ln=lpos.line)(hcol:κ.col=lpos.col)(hcode:X.env.code=.ref κ.c)(hcl:zq T.scope X.env=pure clos)(hdef:Aai T.params X.env=([],[]))(h:∀(pm ctv:ae)(c' a:Addr)(oc:Obj)(s':ag)(H':Hp),Inv X pz σ H' s'->s'.os=s.os->s'.heap.get? a=some (og "<lambda>" T.q T.params T.body T.scope clos pm c' ctv)->H' a=none->H a=none->s.heap.objs.size<=a->H' c'=some (.frz oc (.own 0))->UA oc T.q->SJ X.K H' P κ -> (∀ b y,b≠P->H b=some y->H' b=some y)->(∀ b o,b≠P->s.heap.get? b=some o->s'.heap.get? b=some o)->Q (.ref a) s'): wpAny (model X.prog X.w) X.A (eval (.Lambda T.params T.body T.scope lpos) X.env) Q E s:=by
 obtain⟨hhd,hps⟩:=hR;have hg:s.heap.Ns cz X.mg:=I.mod.glob.keeps I.bk;have C:PySem.W.CodeHd s.heap κ.c P:=yr I.jS hhd;have hPs:∃ ps,H P=some (.tbl ps):=by
  rcases hps with q|⟨_,_,q,_⟩;·exact⟨_,q⟩
  ·exact⟨_,q⟩
 have hne:∀{b:Addr}{o:Obj},X.base.get? b=some o->b≠P:=fun{b o} e z=>by obtain⟨ps,q⟩:=hPs;have:=(I.bs b o e).2;rw[z,q]at this;cases this
 have hgP:mainGlobals≠P:=by obtain⟨o,_,_,e,_⟩:=I.mod.glob;exact hne e
 have hB:s.heap.BuiltinsAt X.mg P:=by obtain⟨bm,ob,b1,b2,b3,b4,b5,b6⟩:=hBm;refine⟨bm,ob,b1,b2,fun z=>?_,hne b3,I.bk _ _ b3,b4,b5,b6⟩;obtain⟨o,es,ep,e,hd,_⟩:=I.mod.glob;rw[z,e]at b3;cases b3;rw[hd]at b6;cases b6
 refine PySem.W.kla_eval hdef ?_;rw[<-hq];rcases hps with q|⟨c',oc,q,ec,co⟩
 ·have hP:s.heap.get? P=some (Aaj #[]):=I.bO P _ q;refine PySem.W.kla_makeFunction (mg:=X.mg) hcl I.ok.glob hg hcode C hP cy rfl hgP hB fun c' ctv h' tk hx hge cN hrec htb=>?_;obtain⟨c2,oc,vs,t,e2,hoc,hd,hv⟩:=hrec;cases e2;have hc0:H c'=none:=I.bO.fresh hge;have cP:c'≠P:=fun z=>by rw[z,q]at hc0;cases hc0
  have hszle:s.heap.objs.size<=h'.objs.size:=dg hge (r8 cN);have ha0:H h'.objs.size=none:=I.bO.fresh hszle;have aP:h'.objs.size≠P:=fun z=>by rw[z,q]at ha0;cases ha0
  have ac:h'.objs.size≠c':=ly cN;have ko:∀ b o,b≠P->s.heap.get? b=some o->(h'.push (og "<lambda>" T.q T.params T.body T.scope clos ((X.mg "__name__").getD .none) c' ctv)).get? b=some o:=fun b o n e=>aj _ (hx b o n e);have kH:∀ b y,b≠P->H b=some y->upd (upd H P (.tbl #[g8 lpos.line,g8 lpos.col,.ref c'])) c' (.frz oc (.own 0)) b=some y:=fun b y n e=>by rw[bI (fun z=>by rw[z,hc0]at e;cases e),bI n];exact e
  have kN:∀ b,b≠P->b≠c'->H b=none->upd (upd H P (.tbl #[g8 lpos.line,g8 lpos.col,.ref c'])) c' (.frz oc (.own 0)) b=none:=fun b n n' e=>by rw[bI n',bI n];exact e
  have hPn:upd (upd H P (.tbl #[g8 lpos.line,g8 lpos.col,.ref c'])) c' (.frz oc (.own 0)) P=some (.tbl #[g8 lpos.line,g8 lpos.col,.ref c']):=by rw[bI cP.symm,dE]
  have nP:∀{b},H b=none->b≠P:=fun{b} n z=>by rw[z,q]at n;cases n
  refine h _ ctv c' h'.objs.size oc _ _ (I.un (t':=tk) (H':=upd (upd H P (.tbl #[g8 lpos.line,g8 lpos.col,.ref c'])) c' (.frz oc (.own 0))) ⟨fun b o e n _ _=>ko b o (nP n) e,fun b o e n _ _=>⟨o.slots,ko b o (nP n) e⟩,fun b o e n _=>kN b (nP n) (b9 (bz (bh e) hge)) n,fun b o e _=>?_,fun b xs e=>kH b _ (fun z=>by rw[z,q]at e;cases e) e,fun b o u e=>kH b _ (fun z=>by rw[z,q]at e;cases e) e,fun b ps e=>?_⟩ (fun b o e=>?_)) rfl (br _ rfl) (kN _ aP ac ha0) ha0 hszle dE ⟨vs,t,hd,hv⟩ ⟨hhd,.inr ⟨c',oc,?_,dE,by rw[<-kt];exact⟨vs,t,hd,hv⟩⟩⟩ kH ko
  ·by_cases z:b=P;·subst z;exact⟨_,aj _ htb⟩
   ·exact⟨o,ko b o z e⟩
  ·by_cases z:b=P;·subst z;rw[q]at e;cases e;exact⟨#[g8 lpos.line,g8 lpos.col,.ref c'],hPn⟩
   ·exact⟨#[],by rw[kH b _ z e];simp⟩
  ·by_cases z:b=c';·subst z;rw[dE]at e;cases e;exact⟨Heap.get?_push_of_some _ hoc,oc,aj _ hoc⟩
   ·rw[bI z]at e;by_cases z2:b=P;·subst z2;rw[dE]at e;cases e;exact aj _ htb
    ·rw[bI z2]at e;refine(I.bO b o e).pP (fun c v hc w=>ko c v ?_ w) (fun b' w=>kH b' _ (fun z=>by rw[z,q]at w;cases w) w) fun b' xs w=>kH b' _ (fun z=>by rw[z,q]at w;cases w) w;rcases hc with rfl|hc;·exact z2
     ·exact fun z=>by rw[z,q]at hc;cases hc
  ·rw[hPn,hln,hcol]
 ·have hP:s.heap.get? P=some (Aaj #[g8 κ.ln,g8 κ.col,.ref c']):=I.bO P _ q;have hf:codeAmong lpos (#[g8 κ.ln,g8 κ.col,.ref c']:Array ae).toList=some (.ref c'):=by rw[hln,hcol];simp [codeAmong,g8]
  refine PySem.W.kla_makeFunctionHit (mg:=X.mg) hcl I.ok.glob hg hcode C hP cy hf hB fun ctv h' tk hk iS=>?_;have ha0:H h'.objs.size=none:=I.bO.fresh iS;refine h _ ctv c' h'.objs.size oc _ H (I.kept (t':=tk) fun b o e=>aj _ (hk b o e)) rfl (br _ rfl) ha0 ha0 iS ec (by rw[kt];exact co) ⟨hhd,.inr ⟨c',oc,q,ec,co⟩⟩ (fun _ _ _ e=>e) fun b o _ e=>aj _ (hk b o e)
end
theorem R9 {h:Heap}{cells:List (Str×Addr)}(c:pA h cells xs vs)(k:∀ x∈xs,clos.lookup x=cells.lookup x):pA h clos xs vs:=by induction c with|nil=>exact .nil|cons cl o u l q d r t ih=>exact .cons cl o u (by rw[k _ (dh ..)];exact l) q d r (ih fun x hx=>k x (cq _ hx))
set_option tactic.hygienic true in
theorem O0 {cells:List (Str×Addr)}{L:List Str}:∀(names:List (Str×NameKind))(cs:List (Str×Addr)){x:Str}{c:Addr},(∀ p∈names,p.2=.free->p.1∈L)->(∀ x c,cs.lookup x=some c->x∈L)->(mE cells names cs).lookup x=some c->x∈L
 |[],cs,x,c,_,h,e=>h x c e|(n,k)::r,cs,x,c,hn,h,e=>by
  simp only[mE]at e;refine O0 r _ (fun p hp=>hn p (cq _ hp)) (fun y d ed=>?_) e;split at ed
  ·rename_i hk;rw[dq]at ed;split at ed
   ·rename_i q;have q:y=n:=by simpa using q
    rw[q];exact hn (n,k) (dh ..) (by simpa using hk)
   ·exact h y d ed
  ·exact h y d ed
theorem VT {h:Heap}{cells:List (Str×Addr)}(c:pA h cells xs vs):∀ x∈xs,∃ cl o u,cells.lookup x=some cl/\h.get? cl=some o/\o.data=.cell (some u):=by induction c with|nil=>intro x hx;cases hx|cons cl o u l q d r t ih =>
 intro x hx;rcases List.mem_cons.mp hx with rfl|hx;·exact⟨cl,o,u,l,q,d⟩
 ·exact ih x hx
section
variable {sub:Nat->Nat->Bool}{fid g:Nat}{f:Addr}{fd:h9}{ps:List Str}{pos:Pos}{e1 e2:Expr}{x1 x2:Ex}{aL:List Nat}
theorem Fq (F:fP X.prog X.w X.K X.mg X.base dZ k f fd ps (fZ X.K C fid))(hr:dM k X.A)(hg:Gl X n)(hm:X.mg n=some (.ref f))(hk:fx X.K (.ref f)=true)(hb:Binds X.K fd ps [])(h1:PE X e1 (cF X.K (aG C sub (fun _ _=>False) x1)))(h2:PE X e2 (cF X.K (aG C sub (fun _ _=>False) x2)))(hBm:vJ X.mg X.base)(hT:LT g=some T)(hq:T.q=X.env.qual ++"<lambda>")(kt:T.q=⟨κ.q.toArray⟩)(hln:κ.ln=lpos.line)(hcol:κ.col=lpos.col)(hcode:X.env.code=.ref κ.c)(hfn:∀ x,X.fn x=true)(hfree:∀ p∈T.scope.names,p.2=.free->p.1∈T.aL)(hcapf:∀ x∈T.aL,T.scope.names.lookup x=some .free)(hcap:∀(j:Nat)(x:Str),T.aL[j]? = some x->∃ i,aL[j]? = some i/\X.N[i]? = some x/\X.env.scope.names.lookup x=some .cell)(hlen:T.aL.length=aL.length)(hdef:Aai T.params X.env=([],[]))(hdb:(n==("__debug__" : Str))=false)(he:aq [e1,e2,.Lambda T.params T.body T.scope lpos] X.env=[(false,eval e1 X.env),(false,eval e2 X.env),(false,eval (.Lambda T.params T.body T.scope lpos) X.env)])(he2:aq [e2,.Lambda T.params T.body T.scope lpos] X.env=[(false,eval e2 X.env),(false,eval (.Lambda T.params T.body T.scope lpos) X.env)]):PE X (.Call (.Name n p) [e1,e2,.Lambda T.params T.body T.scope lpos] [] pos) (cF X.K (aG C sub (fun _ _=>False) (.callL fid [x1,x2] g aL κ))):=by
 intro pz s σ H Q I ⟨ap,st,R,r,ok,q,hq0⟩;refine fw (B5 I hg hm ?_ hdb);refine oi (h₀:=X.base) I.ok.mod.kin hk ?_ (by rw[he,he2]) (by rw[he2];rfl);rw[he];show wpAny _ _ (zu [(false,eval e1 X.env),(false,eval e2 X.env),(false,eval (.Lambda T.params T.body T.scope lpos) X.env)]) _ _ s;refine j9 (bF (h1 pz s σ H _ I ⟨ap,st,_,r,ok,q,fun v H' z=>z⟩) fun u1 s1 z=>?_);obtain⟨v1,H1,I1,rv1,d1,aC,ss1,aO,rd1,q1⟩:=z;have r1:=r.step ok ss1;refine j9 (bF (h2 pz s1 σ H1 _ I1 ⟨ap,aC,_,r1,aO,q1,fun v H' z=>z⟩) fun u2 s2 z=>?_);obtain⟨v2,H2,I2,rv2,d2,aF,ss2,bZ,rd2,q2⟩:=z;have r2:=r1.step aO ss2;obtain⟨⟨P,eP⟩,q3⟩:=q2;obtain⟨cs,cl1,cl2,q4⟩:=JR q3;obtain⟨cvs,rcs,cH⟩:=EC I2 r2 T.aL aL cs hcap hlen cl1 cl2;have hcellsX:∀ p∈T.scope.names,p.2=.free->∃ c,X.env.cells.lookup p.1=some c:=fun p hp hf=>by obtain⟨j,hj⟩:=qy (hfree p hp hf);obtain⟨i,_,_,e⟩:=hcap j _ hj;exact I2.ok.has _ (.inl e)
 generalize hclos:mE X.env.cells T.scope.names []=clos;have hcl:zq T.scope X.env=pure clos:=by rw[<-hclos];exact rC hcellsX
 have csub:∀ x c,clos.lookup x=some c->X.env.cells.lookup x=some c:=fun x c e=>by rw[<-hclos]at e;exact mL _ _ hcellsX (fun _ _ z=>by simp at z) e
 have chas:∀ x∈T.aL,clos.lookup x=X.env.cells.lookup x:=fun x hx=>by obtain⟨c,e⟩:=xW (cells:=X.env.cells) T.scope.names [] (hcapf x hx);rw[hclos]at e;rw[e,csub x c e]
 have cdom:∀ x c,clos.lookup x=some c->x∈T.aL:=fun x c e=>by rw[<-hclos]at e;exact O0 T.scope.names [] (fun p hp hf=>hfree p hp hf) (fun x c z=>by simp at z) e
 have hCod:SJ X.K H2 P κ:=bZ P _ eP;refine j9 (YF I2 hCod hBm hq kt hln hcol hcode hcl hdef fun pm ctv c' a oc s3 H3' I3 os3 ea na na2 asz ec co hCod3 kH ko=>?_);refine pk ⟨I3.jS,?_⟩;obtain⟨psP,hP2⟩:∃ ps,H2 P=some (.tbl ps):=by
  obtain⟨_,z|⟨_,_,z,_⟩⟩:=hCod;·exact⟨_,z⟩
  ·exact⟨_,z⟩
 have sizeP:∀ x c,X.env.cells.lookup x=some c->H2 c=none/\H3' c=none/\c≠a/\c≠P:=fun x c e=>by
  have h2:=I2.lR x c e;have h3:=I3.lR x c e;obtain⟨v,o,ho,_⟩:=I2.cell x c e;refine⟨h2,h3,fun z=>?_,fun z=>?_⟩;·have cN:=bh ho;rw[z]at cN;exact absurd (bz cN asz) (fy _)
  ·rw[z,hP2]at h2;cases h2
 have ne0:a≠0:=fun z=>by have cN:=I2.lt;rw[z]at asz;exact absurd (bz cN asz) (Nat.not_lt_zero _)
 have cH3:pA s3.heap clos T.aL cvs:=TX (R9 cH chas) fun x cl o u e h0 _=>ko cl o (sizeP x cl (csub x cl e)).2.2.2 h0;generalize hfo:og "<lambda>" T.q T.params T.body T.scope clos pm c' ctv=fo at ea;generalize hl:X8 clos T.aL=l;have lmem:∀ c∈l,∃ x o,X.env.cells.lookup x=some c/\s3.heap.get? c=some o:=fun c hc=>by rw[<-hl]at hc;obtain⟨x,hx,e⟩:=List.mem_filterMap.mp hc;obtain⟨cl,o,u,e2,e3,_⟩:=VT cH3 x hx;rw[e]at e2;cases e2;exact⟨x,o,csub x c e,e3⟩
 have lH:∀ c∈l,H2 c=none/\H3' c=none/\c≠a/\c≠P:=fun c hc=>by obtain⟨x,_,e,_⟩:=lmem c hc;exact sizeP x c e
 have nl:∀{b y},H3' b=some y->b≠a/\b∉l:=fun{b y} e=>⟨(fun z=>by rw[z,na]at e;cases e),(fun z=>by rw[(lH b z).2.1]at e;cases e)⟩;have k3:∀{b y},H3' b=some y->jV H3' s3.heap a fo l b=some y:=fun{b y} e=>by rw[AX (nl e).1 (nl e).2];exact e
 have k23:∀{b y},b≠P->H2 b=some y->jV H3' s3.heap a fo l b=some y:=fun{b y} n e=>k3 (kH b y n e);have hst2:aF a=none:=bZ.fresh na2;have stepS:Step H2 aF (jV H3' s3.heap a fo l) (put aF a (.fn g cs)):=fun b o e nn=>by
  have ba:b≠a:=fun z=>by rw[z,na2]at e;cases e
  exact⟨k23 (fun z=>by rw[z,eP]at nn;cases nn) e,by rw[aM ba];exact nn⟩
 have e3:=I3.S1;have qZ:aS X.K (put aF a (.fn g cs)) (jV H3' s3.heap a fo l):=fun b o e=>by
  by_cases ba:b=a;·subst ba;rw[aN]at e;cases e;refine⟨cvs,⟨T,clos,pm,ctv,c',oc,ne0,hT,by rw[hfo];exact MQ,k3 ec,co,fun x y c h1 h2=>I2.ok.inj x y c (csub x c h1) (csub y c h2),cdom,?_⟩,rcs.step bZ stepS⟩;rw[<-hl];exact PU cH3 (fun x cl e=>(sizeP x cl (csub x cl e)).2.2.1) fun x hx=>hx
  ·rw[aM ba]at e;by_cases bP:b=P
   ·subst bP;rw[eP]at e;cases e;obtain⟨z0,z|⟨c2,oc2,z1,z2,z3⟩⟩:=hCod3;·exact⟨z0,.inl (k3 z)⟩
    ·exact⟨z0,.inr ⟨c2,oc2,k3 z1,k3 z2,z3⟩⟩
   ·obtain⟨o',z,_⟩:=(bZ b o e).bears;exact(bZ b o e).step bZ stepS (by rw[k23 bP z,z])
 have env3:vF X.prog X.w X.K X.mg X.base X.A X.stack s3 (jV H3' s3.heap a fo l):=by
  refine⟨e3.frames,e3.mod,fun b o e=>⟨(e3.bs b o e).1,?_⟩,e3.bsz,e3.mR,fun b hb=>?_,fun b o e=>?_,e3.bare⟩
  ·have b1:b≠a:=fun z=>by have cN:=bh (I2.bk b o e);rw[z]at cN;exact absurd (bz cN asz) (fy _)
   have b2:b∉l:=fun z=>by obtain⟨x,_,ex,_⟩:=lmem b z;have cN:=bh (I2.ok.bs b o e).1;exact absurd (bz cN (I2.ok.cab x b (hfn x) ex)) (fy _)
   rw[AX b1 b2];exact(e3.bs b o e).2
  ·have b1:b≠a:=fun z=>by obtain⟨_,o,ho,_⟩:=I2.stack.mem hb;have cN:=bh ho;rw[z]at cN;exact absurd (bz cN asz) (fy _)
   have b2:b∉l:=fun z=>by
    obtain⟨x,_,ex,_⟩:=lmem b z;rcases List.mem_cons.mp (I2.EN b hb)with e|hb;·exact I2.J7 x b ex e
    ·obtain⟨_,o,ho,_⟩:=I2.ok.mR.mem hb;exact absurd (bz (bh ho) (I2.ok.cab x b (hfn x) ex)) (fy _)
   rw[AX b1 b2];exact e3.frf b hb
  ·by_cases ba:b=a;·subst ba;rw[MQ]at e;cases e;exact⟨ea,ea,fo,ea⟩
   ·by_cases bl:b∈l;·obtain⟨x,ob,_,eb⟩:=lmem b bl;rw[MY ba bl eb]at e;cases e;exact⟨eb,ob,eb⟩
    ·rw[AX ba bl]at e;exact(I3.bO b o e).pP (fun _ _ _ q=>q) (fun b' q=>k3 q) fun b' xs q=>k3 q
 have rr:aJ X.K (jV H3' s3.heap a fo l) [d1,d2,.ref a] [v1,v2,.ref a]:=.cons ((rd1.step aO ss2).step bZ stepS) (.cons (rd2.step bZ stepS) (.cons (.ref a) .nil));have vv:aR [v1,v2,.ref a] [u1,u2,.ref a]:=.cons rv1 (.cons rv2 (.cons rfl .nil));have hsp:fZ X.K C fid [v1,v2,.ref a] (jV H3' s3.heap a fo l) (fun v H'=>QD X.K (jV H3' s3.heap a fo l) (put aF a (.fn g cs)) (fun d aA=>R d (del aA a)) v H') E0:=⟨[d1,d2,.ref a],_,_,rr,qZ,q4 a hst2,fun v H' z=>z⟩;have hlen3:([u1,u2,.ref a]:List ae).length=ps.length:=by rw[<-vv.length];exact F.len _ _ _ _ hsp
 refine wa (l0 (F.run X.A X.stack s3 _ ⟨[u1,u2,.ref a],[]⟩ [u1,u2,.ref a] [v1,v2,.ref a] _ E0 hr env3 (hb s3 [u1,u2,.ref a] I3.jS (by rw[d5];exact hlen3)) vv hsp) fun rs s4 hq4=>?_);cases rs with|error e=>exact ek hq4|ok fl =>cases fl with|next=>exact ek hq4|brk=>exact ek hq4|cont=>exact ek hq4|ret u =>
   obtain⟨v,H4,os4,bare4,un,hok4,rv4,z4⟩:=hq4;obtain⟨d,cG,s34,RQ,r4,q5⟩:=z4;have h4a:H4 a=some (.frz fo (.frz fo (.own a))):=un.pE a _ _ MQ;have h4l:∀ c∈l,∃ o,s3.heap.get? c=some o/\H4 c=some (.frz o (.own a))/\s4.heap.get? c=some o:=fun c hc=>by obtain⟨x,o,_,eo⟩:=lmem c hc;have h:=un.pE c _ _ (MY (lH c hc).2.2.1 hc eo);exact⟨o,eo,h,(hok4 c _ h).1⟩
   have nb:∀{b y},H3' b=some y->b∉a::l:=fun{b y} e z=>by
    rcases List.mem_cons.mp z with z|z;·exact(nl e).1 z
    ·exact(nl e).2 z
   have keepO:∀ b o,s3.heap.get? b=some o->H3' b=none->(b∈a::l->s4.heap.get? b=some o):=fun b o e n z=>by
    rcases List.mem_cons.mp z with z|z;·subst z;rw[ea]at e;cases e;exact(hok4 b _ h4a).1
    ·obtain⟨o',e1,_,e2⟩:=h4l b z;rw[e]at e1;cases e1;exact e2
   have lo:∀{b},b∉a::l->jV H3' s3.heap a fo l b=H3' b:=fun{b} z=>AX (fun w=>z (by rw[w];exact dh ..)) fun w=>z (cq _ w);have kp:Kp H4 (B7 H4 (a::l)) a:=fun b y e n1 n2=>by
    rw[tG];·exact e
    intro z;rcases List.mem_cons.mp z with z|z;·rw[z,h4a]at e;exact n2 _ _ (c7 e).symm
    ·obtain⟨o,_,h,_⟩:=h4l b z;rw[h]at e;exact n1 _ (c7 e).symm
   have I4:Inv X pz σ (B7 H4 (a::l)) s4:=by
    refine I3.Bm (ch:=[]) os4 ⟨fun b o e n hb hx=>?_,fun b o e n hb hx=>?_,fun b o e n hx=>?_,fun b o e hx=>un.there b o e hx,fun b xs e=>?_,fun b o u e=>?_,fun b ps e=>?_⟩ (fun b o e=>?_) bare4 (fun b z=>absurd z (by simp))
    ·by_cases z:b∈a::l;·exact keepO b o e n z
     ·exact un.keep b o e (by rw[lo z];exact n) hb hx
    ·by_cases z:b∈a::l;·exact⟨o.slots,keepO b o e n z⟩
     ·exact un.slot b o e (by rw[lo z];exact n) hb hx
    ·by_cases z:b∈a::l;·exact XZ z
     ·rw[tG z];exact un.free b o e (by rw[lo z];exact n) hx
    ·rw[tG (nb e)];exact un.tP b xs (k3 e)
    ·rw[tG (nb e)];exact un.pE b o u (k3 e)
    ·rw[tG (nb e)];exact un.rO b ps (k3 e)
    ·by_cases z:b∈a::l;·rw[XZ z]at e;cases e
     ·rw[tG z]at e;exact(hok4 b o e).pP (fun _ _ _ q=>q) (fun b' q=>kp b' _ q (fun _ z=>nomatch z) (fun _ _ z=>nomatch z)) fun b' xs q=>kp b' _ q (fun _ z=>nomatch z) (fun _ _ z=>nomatch z)
   refine⟨v,_,I4,rv4,hq0 v _ (.after ss1 (.after ss2 ⟨d,del cG a,fun b o e nn=>?_,fun b o e=>?_,r4.to kp,q5⟩))⟩
   ·obtain⟨z1,z2⟩:=stepS b o e nn;obtain⟨z3,z4⟩:=s34 b o z1 z2;have ba:b≠a:=fun z=>by rw[z,na2]at e;cases e
    have bl:b∉a::l:=fun z=>by
     rcases List.mem_cons.mp z with z|z;·exact ba z
     ·rw[(lH b z).1]at e;cases e
    exact⟨by rw[tG bl];exact z3,by rw[D7 ba];exact z4⟩
   ·obtain⟨z1,z2⟩:=RO e;exact Q4 kp ne0 z2 (RQ b o z1)
end
variable {tabs:List (CK×Addr)}
theorem UU {w:c9}{K:aa}{mg mb:Str->Option ae}{fa a:Addr}{fd:h9}{sp:Sp}{bv:ag}{vs:List ae}{ns:List Int}(KX:K.In bv.heap)(hns:bv.heap.Ns cz mg)(hb:bv.heap.Ns zh mb)(hbb:∀ x:Str,x ≠"__name__" -> mb x=de x)(hlim:bv.heap.NoLimit)(hg:bv.gens = #[])(hB:vJ mg bv.heap)(t1:∀ p∈tabs,bv.heap.get? p.2=some { cls:=.none,data:=.fields #[] })(t2:∀ p∈tabs,qh K p.1.c p.2=true)(t3:∀ p∈tabs,K.lookup p.2=none)(ha:bv.heap.get? a=some { cls:=.type "list", data:=.seq vs.toArray })(hi:wm vs ns)(hl:ns.length<=sizeLine)(hr:dM k yl)(F:∀ base:Heap,K.In base->base.Ns cz mg->vJ mg base->fP P w K mg base dZ k fa fd [x] sp)(hbind:∀(s:ag)(u:ae),z9 s fd ⟨[u],[]⟩ [(x,u)])(hsp:∀ H:Hp,(∀ p∈tabs,H p.2=some (.tbl #[]))->nR K H a (ns.map V.int)->sp [.ref a] H (fun v _=>v=.bl true) fun _ _ _=>False): lz (model P w) yl (.call (.ref fa) ⟨[.ref a],[]⟩) (fun r s'=>r=.ok (.ret (.bool true))/\OldK bv.heap s'.heap/\s'.os=bv.os/\uq s'.gens) bv:=by
 have rv:=KR hi;have lenV:=hi.length;have aT:∀ p∈tabs,p.2≠a:=fun p hp z=>by have:=t1 p hp;rw[z,ha]at this;cases this
 have core:∀ H:Hp,(∀ p∈tabs,H p.2=some (.tbl #[]))->nR K H a (ns.map V.int)->iN P w H bv.heap->(∀ b,H b≠none->b=a∨∃ p∈tabs,b=p.2)->(∀ b u,H b=some u->(∃ o xs,u=.frz o xs)∨∃ p∈tabs,b=p.2)->(H a≠none->K.lookup a=none) -> lz (model P w) yl (.call (.ref fa) ⟨[.ref a],[]⟩) (fun r s'=>r=.ok (.ret (.bool true))/\OldK bv.heap s'.heap/\s'.os=bv.os/\uq s'.gens) bv:=by
  intro H hT hS bO hA hO hK;have base_of:∀{b:Addr}{o:Obj},bv.heap.get? b=some o->H b=none->(vK bv.heap H).get? b=some o:=fun e n=>Ak e n;have noK:∀{b:Addr}{o:Obj},K.lookup b=some o->H b=none:=fun{b o} e=>by cases q:H b with|none=>rfl|some u =>
    rcases hA b (by rw[q];simp)with z|⟨p,hp,z⟩;·subst z;rw[hK (by rw[q];simp)]at e;cases e
    ·subst z;rw[t3 p hp]at e;cases e
  have noA:∀{b:Addr}{o:Obj},bv.heap.get? b=some o->(∀ xs,o.data≠.seq xs)->(∀ ps,o.data≠.fields ps)->H b=none:=fun{b o} e d1 d2=>by cases q:H b with|none=>rfl|some u =>
    rcases hA b (by rw[q];simp)with z|⟨p,hp,z⟩;·subst z;rw[ha]at e;cases e;exact absurd rfl (d1 _)
    ·subst z;rw[t1 p hp]at e;cases e;exact absurd rfl (d2 _)
  have nsK:∀{b:Addr}{m:Str->Option ae},bv.heap.Ns b m->(vK bv.heap H).Ns b m:=fun{b m} ⟨o,es,ep,e,d,r⟩=>⟨o,es,ep,base_of e (noA e (fun _ z=>by rw[d]at z;cases z) (fun _ z=>by rw[d]at z;cases z)),d,r⟩;have hKb:K.In (vK bv.heap H):=fun b o e=>base_of (KX b o e) (noK e);have hBb:vJ mg (vK bv.heap H):=by obtain⟨bm,ob,b1,b2,b3,b4,b5,b6⟩:=hB;exact⟨bm,ob,b1,b2,base_of b3 (noA b3 (fun _ z=>by rw[b6]at z;cases z) (fun _ z=>by rw[b6]at z;cases z)),b4,b5,b6⟩
  have hM:Mod K mg (vK bv.heap H):=⟨hKb,nsK hns,⟨mb,nsK hb,hbb⟩,let⟨mc,h1,h2⟩:=hlim;⟨mc,nsK h1,h2⟩⟩;have e0:vF P w K mg (vK bv.heap H) yl [] bv H:=⟨rfl,hM,fun b o e=>Dt e,AaA (WY _ _),trivial,fun b hb=>absurd (show b∈([]:List Addr)from hb) (by simp),bO,.of_eq hg⟩;refine l0 ((F _ hKb (nsK hns) hBb).run yl [] bv H ⟨[.ref a],[]⟩ [.ref a] [.ref a] _ _ hr e0 (hbind bv (.ref a)) (.cons rfl .nil) (hsp H hT hS)) fun r s' h=>?_;cases r with|error e=>exact h.elim|ok fl =>cases fl with|next=>exact ek h|brk=>exact ek h|cont=>exact ek h|ret u =>
    obtain⟨v,H',os,bare,un,hok',r',q⟩:=h;have q':v=.bl true:=q;subst q';obtain rfl:u=sy true:=r';have tb:∀ p∈tabs,∃ more,s'.heap.get? p.2=some { cls:=.none,data:=.fields (#[]++more) }:=fun p hp=>by obtain⟨more,z⟩:=un.rO p.2 _ (hT p hp);exact⟨more,hok' _ _ z⟩
    have fr:∀ b o,bv.heap.get? b=some o->(¬∃ p∈tabs,b=p.2)->s'.heap.get? b=some o:=fun b o e nt=>by cases q:H b with|none=>exact un.keep b o e q (by intro z;exact absurd (show b∈([]:List Addr)from z) (by simp)) (by simp)|some u =>
      rcases hO b u q with⟨ob,xs,z⟩|z;·subst z;have z2:=un.pE b ob _ q;obtain⟨e1,_⟩:=bO b _ q;obtain⟨e2,_⟩:=hok' b _ z2;rw[e]at e1;cases e1;exact e2
      ·exact absurd z nt
    refine⟨rfl,⟨fun b o e=>?_,fun b o e=>?_⟩,os,bare⟩
    ·by_cases h:∃ p∈tabs,b=p.2;·obtain⟨p,hp,z⟩:=h;subst z;obtain⟨more,z⟩:=tb p hp;rw[t1 p hp]at e;cases e;obtain⟨oc,ws,_,_,_,_,_,_,_,c1,c2,c3,c4,_⟩:=yr KX (t2 p hp);exact .inr (.inl ⟨⟨_,oc,ws,c1,c2,c3,c4⟩,rfl,#[],more,rfl,z⟩)
     ·exact .inl (fr b o e h)
    ·by_cases h:∃ p∈tabs,b=p.2;·obtain⟨p,hp,z⟩:=h;subst z;obtain⟨more,z⟩:=tb p hp;exact⟨_,z⟩
     ·exact⟨o,fr b o e h⟩
 have tn:∀ b,b∈tabs.map (·.2)->∃ p∈tabs,b=p.2:=fun b hb=>by obtain⟨p,hp,z⟩:=List.mem_map.mp hb;exact⟨p,hp,z.symm⟩
 have na:a∉tabs.map (·.2):=fun z=>by obtain⟨p,hp,e⟩:=tn a z;exact aT p hp e.symm
 cases hk:K.lookup a with|some o =>
  have e:=KX a o hk;rw[ha]at e;cases e;refine core (fun b=>if b∈tabs.map (·.2)then some (.tbl #[])else none) (fun p hp=>if_pos (List.mem_map.mpr ⟨p,hp,rfl⟩)) (.inr ⟨_,vs.toArray,_,hk,rfl,rfl,rfl,by rw[be,lenV];exact hl,by simpa using rv⟩) (fun b u z=>?_) (fun b z=>?_) (fun b u z=>?_) fun z=>absurd (if_neg na) z
  ·by_cases hb:b∈tabs.map (·.2);·have z':=(if_pos hb).symm.trans z;cases z';obtain⟨p,hp,e⟩:=tn b hb;subst e;exact t1 p hp
   ·have z':=(if_neg hb).symm.trans z;cases z'
  ·by_cases hb:b∈tabs.map (·.2);·exact .inr (tn b hb)
   ·exact absurd (if_neg hb) z
  ·by_cases hb:b∈tabs.map (·.2);·exact .inr (tn b hb)
   ·have z':=(if_neg hb).symm.trans z;cases z'|none =>
  refine core (fun b=>if b∈tabs.map (·.2)then some (.tbl #[])else if b=a then some (.frz { cls:=.type "list", data:=.seq vs.toArray } (.lst (ns.map V.int)))else none) (fun p hp=>if_pos (List.mem_map.mpr ⟨p,hp,rfl⟩)) (.inl ⟨{ cls:=.type "list", data:=.seq vs.toArray },(if_neg na).trans (if_pos rfl)⟩) (fun b u z=>?_) (fun b z=>?_) (fun b u z=>?_) fun _=>hk
  ·by_cases hb:b∈tabs.map (·.2);·have z':=(if_pos hb).symm.trans z;cases z';obtain⟨p,hp,e⟩:=tn b hb;subst e;exact t1 p hp
   ·have z1:=(if_neg hb).symm.trans z;by_cases hb:b=a;·have z':=(if_pos hb).symm.trans z1;cases z';subst hb;exact⟨ha,by rw[ab];exact hl,vs,_,rv,ha⟩
    ·have z':=(if_neg hb).symm.trans z1;cases z'
  ·by_cases hb:b∈tabs.map (·.2);·exact .inr (tn b hb)
   ·by_cases hb2:b=a;·exact .inl hb2
    ·exact absurd ((if_neg hb).trans (if_neg hb2)) z
  ·by_cases hb:b∈tabs.map (·.2);·exact .inr (tn b hb)
   ·have z1:=(if_neg hb).symm.trans z;by_cases hb2:b=a;·have z':=(if_pos hb2).symm.trans z1;cases z';exact .inl ⟨_,_,rfl⟩
    ·have z':=(if_neg hb2).symm.trans z1;cases z'
theorem Dz {K:aa}{G:Prog}(t2:∀ p∈tabs,qh K p.1.c p.2=true)(h:∀(ns:List Int)(st:aB),ns.length<=63->(∀ p∈tabs,∃ P,st P=some (.cod p.1))->aH G k f [.bR (ns.map .int)] st (fun d _=>d=.bl true) fun _ _=>False)(dj:(tabs.map (·.2)).Nodup)(H:Hp)(a:Addr)(ns:List Int)(hl:ns.length<=63)(hT:∀ p∈tabs,H p.2=some (.tbl #[]))(hF:nR K H a (ns.map V.int)): fZ K (aH G k) f [.ref a] H (fun v _=>v=.bl true) fun _ _ _=>False:=by
 have ri:∀ ns:List Int,aJ K H (ns.map .int) (ns.map V.int):=fun ns=>by induction ns with|nil=>exact .nil|cons i r ih=>exact .cons (.int i) ih
 refine⟨[.bR (ns.map .int)],fun b=>(tabs.find? fun p=>p.2==b).map fun p=>.cod p.1,fun d _=>d=.bl true,.cons (.bR hF (ri ns)) .nil,fun b o e=>?_,h ns _ hl fun p hp=>⟨p.2,?_⟩,fun v H' ⟨d,aA,_,_,r,q⟩=>?_⟩
 ·obtain⟨p,e1,e2⟩:=Option.map_eq_some_iff.mp e;have hp:=List.mem_of_find?_eq_some e1;have hb:=List.find?_some e1;have hb:p.2=b:=by simpa using hb
  subst hb;cases e2;exact⟨t2 p hp,.inl (hT p hp)⟩
 ·have key:∀(l:List (CK×Addr)),(l.map (·.2)).Nodup->∀ p∈l,(l.find? fun q=>q.2==p.2)=some p:=fun l=>by induction l with|nil=>intro _ p hp;cases hp|cons q r ih =>
    intro nd p hp;rw[bb,Zp]at nd;rcases List.mem_cons.mp hp with z|hp;·subst z;simp
    ·rw[List.find?_cons_of_neg];·exact ih nd.2 p hp
     ·intro z;exact nd.1 (List.mem_map.mpr ⟨p,hp,(by simpa using z:q.2=p.2).symm⟩)
  show(List.find? (fun q=>q.2==p.2) tabs).map _=_;rw[key tabs dj p hp];rfl
 ·subst q;exact r.fU
theorem Qw {l:PySem.W.OpenLaw}{q:b7}{loose:List Str}{XP:(Str->Option ae)->Heap->Prop}{YP:c9->Heap->Prop}{d:DefRec}{K:Params->aa}{G:Prog}(hr:dM r yl)(ZE:∀(ns:List Int)(st:aB),ns.length<=63->(∀ p∈tabs,∃ P,st P=some (.cod p.1))->aH G k f [.bR (ns.map .int)] st (fun d _=>d=.bl true) fun _ _=>False)(dj:(tabs.map (·.2)).Nodup)(hn:l.most=some 63)(hdf:d.params.defaults=[])(hY:∀(w:c9)(h:Heap),YP w h->(K w.params).In h)(hY2:∀(w:c9)(h:Heap),YP w h->∀ p∈tabs,h.get? p.2=some { cls:=.none,data:=.fields #[] })(t2:∀(w:c9)(p:CK×Addr),p∈tabs->qh (K w.params) p.1.c p.2=true)(t3:∀(w:c9)(p:CK×Addr),p∈tabs->jc p.2 (K w.params)=none)(F:∀(w:c9)(mg:Str->Option ae)(fa:Addr)(h:Heap),(K w.params).In h->h.Ns cz mg->mg d.name=some (.ref fa) -> ∃ fd:h9,(∀(s:ag)(u:ae),z9 s fd ⟨[u],[]⟩ [(x,u)])/\∀ base:Heap,(K w.params).In base->base.Ns cz mg->vJ mg base->fP l.prog w (K w.params) mg base dZ r fa fd [x] (fZ (K w.params) (aH G k) f)):PySem.W.WalkO q loose XP YP l.row.toRowW d [] (fun f vs=>PySem.call f vs):=by refine Att.O8 hn hdf fun w s₀ bv mg mb fa o pm cd doc a vs ns G Y ho hd hcd hmg hobj hints hlen hg=>?_;have KX:=hY w _ Y;obtain⟨fd,hb,hF⟩:=F w mg fa _ KX G.T.g hmg;exact UU (tabs:=tabs) KX G.T.g G.T.b G.T.builtins G.T.nolimit hg G.T.bmain (hY2 w _ Y) (t2 w) (t3 w) hobj hints (dg hlen (by decide)) hr hF hb fun H hT hS=>Dz (t2 w) ZE dj H a ns hlen hT hS
variable {st:Stmt}
theorem Hk {w:c9}{K:aa}{mg:Str->Option ae}{base:Heap}{G:Prog}{fn:Fn}{qual:Str}{a c:Addr}{fd:h9}{N ps:List Str}(F:AO K x qual st a fd)(hc:fd.code=.ref c)(S:nT N ps (bA st))(hG:G.fns f=some fn)(hp:fn.np=ps.length)(hl:fn.nl=N.length)(hb:∀(A:cp)(outer:List Env)(s:ag)(H:Hp)(E:L2.XK),dM r (A.deeper (nk qual (bA st) s.heap.objs.size a (.ref c))) -> vO (fH dZ P w K mg base N qual (bA st) a (.ref c) A outer s H E).jL (aH G k) G.sub (fL st) fn.body): fP P w K mg base dZ (r+1) a fd ps (fZ K (aH G (k+1)) f):=by
 obtain⟨oc,od,kV,doc,pm,an,dC,ct,osl,rfl,lk,hcd⟩:=F.ex;have hc:dC=.ref c:=hc;subst hc;refine Bq lk hcd S (fun vs H Q E h=>?_) fun A outer s H vs Q E hr h=>?_;·obtain⟨ds,aA,R,r,_,h,_⟩:=h;simp only[aH,hG]at h;rw[<-r.length,h.1,hp]
 ·obtain⟨ds,aA,R,r,ok,h,hq⟩:=h;simp only[aH,hG]at h;refine⟨_,(hb A outer s H E hr).h.jL,?_⟩;refine⟨start fn.np fn.nl ds,aA,_,?_,ok,h.2,⟨fun bn H' eT aV sr s' fX q=>?_,fun v H' z=>hq v H' z,fun _ _ _ _ _ _ _ q=>q,fun _ _ _ _ _ _ _ q=>q,fun _ _ _ q=>q⟩⟩;·rw[hl];exact J1 r h.1
  ·exact hq _ _ ⟨.non,aV,s',fX,.non,q⟩
structure W6 (X:Cx)(C:bG):Prop where h:∃ k,(∀ f T,LT f=some T->pX X.prog X.w X.K X.mg X.base k C f)/\dM k X.A
theorem ZX {w:c9}{K:aa}{mg:Str->Option ae}{base:Heap}{G:Prog}:pX P w K mg base 0 (aH G 0) f :=fun _ _ _ _ _ _ _ _ _ _ _ _ _ _ _ _ _ _ _ _ _ _ h=>ek h
section
variable {sub:Nat->Nat->Bool}{E:XK}{e e1 e2 lam:Expr}{x1 x2:Ex}{xs:List Ex}{pos:Pos}{fid g:Nat}{aL:List Nat}
theorem Tz (i:Nat)(hN:X.N[i]? = some n:=by kernel_rfl)(hv:X.env.scope.names.lookup n=some .free:=by kernel_rfl)(hd:(n==("__debug__" : Str))=false:=by kernel_rfl) (hcd:(n==("__classdict__" : Str))=false:=by kernel_rfl):JE X C sub E (.Name n pos) (.v i):=⟨TJ (pv i hN (.inr (.inr hv)) hd hcd)⟩
theorem Ya (i:Nat)(L:W6 X C)(ha:JA X C sub EF (e::es) xs)(hN:X.N[i]? = some n:=by kernel_rfl)(hv:X.env.scope.names.lookup n=some .local:=by kernel_rfl)(hd:(n==("__debug__" : Str))=false:=by kernel_rfl)(hcd:(n==("__classdict__" : Str))=false:=by kernel_rfl)(he:aq (e::es) X.env=(false,eval e X.env)::aq es X.env:=by kernel_rfl)(dO:(eh pos (aq es X.env)).any (·.1)=false:=by kernel_rfl):JE X C sub EF (.Call (.Name n p) (e::es) [] pos) (.cv i xs):=⟨let⟨k,h1,h2⟩:=L.h;Ue h1 h2 hN (.inl hv) K7 ha.h hd hcd he dO⟩
noncomputable def HS (aL:List Nat)(tc:List Str)(N:List Str)(names:List (Str×NameKind)):Bool:=match aL,tc with|[],[]=>true|i::is,x::xs=>(N[i]? == some x)&&(names.lookup x==some .cell)&&HS is xs N names|_,_=>false
theorem MV:∀(aL:List Nat)(tc N:List Str)(names:List (Str×NameKind)),HS aL tc N names=true->(∀(j:Nat)(x:Str),tc[j]? = some x->∃ i,aL[j]? = some i/\N[i]? = some x/\names.lookup x=some .cell)/\tc.length=aL.length|[],[],N,names,_=>⟨fun j x e=>by simp at e,rfl⟩|[],_::_,_,_,h=>by simp [HS]at h|_::_,[],_,_,h=>by simp [HS]at h|i::is,y::ys,N,names,h=>by simp only[HS,bc,beq_iff_eq]at h;obtain⟨⟨h1,h2⟩,h3⟩:=h;obtain⟨q1,q2⟩:=MV is ys N names h3;refine⟨fun j x e=>?_,by simp [q2]⟩;cases j with|zero=>simp at e;subst e;exact⟨i,rfl,h1,h2⟩|succ j=>simpa using q1 j x (by simpa using e)
noncomputable def K9 (T:lL):Bool:=(T.scope.names.all fun p=>!(p.2 == .free)||T.aL.contains p.1)&&T.aL.all fun x=>T.scope.names.lookup x==some .free
theorem Xp {pa:Arguments}{bo:Expr}{sc:Scope}(T:lL)(h:pB X C n fid)(h1:JE X C sub EF e1 x1)(h2:JE X C sub EF e2 x2)(hB:vJ X.mg X.base)(hT:LT g=some T)(hcode:X.env.code=.ref κ.c)(hfn:∀ x,X.fn x=true)(hl1:pa=T.params:=by kernel_rfl)(hl2:bo=T.body:=by kernel_rfl)(hl3:sc=T.scope:=by kernel_rfl)(hq:T.q=X.env.qual ++"<lambda>":=by kernel_rfl)(kt:T.q=⟨κ.q.toArray⟩:=by kernel_rfl)(hln:κ.ln=lpos.line:=by kernel_rfl)(hcol:κ.col=lpos.col:=by kernel_rfl)(hf:K9 T=true:=by kernel_rfl)(hc:HS aL T.aL X.N X.env.scope.names=true:=by kernel_rfl)(hdef:Aai T.params X.env=([],[]):=by kernel_rfl)(hg:X.env.kindOf n=some .globalImplicit:=by kernel_rfl)(hdb:(n==("__debug__" : Str))=false:=by kernel_rfl)(he:aq [e1,e2,(.Lambda pa bo sc lpos)] X.env=[(false,eval e1 X.env),(false,eval e2 X.env),(false,eval (.Lambda pa bo sc lpos) X.env)]:=by kernel_rfl)(he2:aq [e2,(.Lambda pa bo sc lpos)] X.env=[(false,eval e2 X.env),(false,eval (.Lambda pa bo sc lpos) X.env)]:=by kernel_rfl):JE X C sub EF (.Call (.Name n p) [e1,e2,(.Lambda pa bo sc lpos)] [] pos) (.callL fid [x1,x2] g aL κ):=by subst hl1 hl2 hl3;obtain⟨k,f,fd,ps,q1,q2,q3,q4,q5⟩:=h.h;obtain⟨c1,c2⟩:=MV _ _ _ _ hc;simp only[K9,bc,f6]at hf;refine⟨Fq q1 q2 hg q3 q4 q5 h1.h h2.h hB hT hq kt hln hcol hcode hfn (fun p hp hf'=>?_) (fun x hx=>by simpa using hf.2 x hx) c1 c2 hdef hdb he he2⟩;have:=hf.1 p hp;rw[hf']at this;simpa using this
end
def wW (K:aa)(mg:Str->Option ae)(n q:Str)(st:Stmt)(at_:At)(oc:Option Addr):Prop:=∃ a fd,AO K n q st a fd/\Y1 K mg n a at_/\∀ c,oc=some c->fd.code=.ref c
theorem uW.Kn {K:aa}{mg:Str->Option ae}{q:Str}{at_:At}(h:uW K mg n q st at_):wW K mg n q st at_ none:=let⟨a,fd,h1,h2⟩:=h;⟨a,fd,h1,h2,fun _ z=>nomatch z⟩
theorem Nd {K:aa}{h:Heap}{mg:Str->Option ae}(X:K.In h)(G:h.Ns cz mg){f c:Addr}{oc:ae}{od an:Option Addr}{sl:Array (Option ae)}{kV dc pm ct:ae}(a:jo K cz n=some (some (.ref f)))(l:K.lookup f=some ⟨oc,od,.func (jk n n (mN st) (fL st) (bA st) .none kV dc pm an (.ref c) ct),sl⟩)(cc:la K (.ref c) n=true)(k:fx K (.ref f)=true):wW K mg n n st .top (some c) :=⟨f,_,E9 l cc k,mf X G a,fun _ z=>by cases z;rfl⟩
theorem LV {K:aa}{mg:Str->Option ae}{nm qn:Nat->Str}{ps:Nat->List Str}{st:Nat->Stmt}{at_:Nat->At}{cd:Nat->Option Addr}:∀(nf:Nat),(∀ i,i<nf->G5 (nm i) (qn i) (ps i) (st i))->(∀ i,i<nf->wW K mg (nm i) (qn i) (st i) (at_ i) (cd i))->h9->∃ T:HH K mg nf nm qn ps st at_,∀ i,i<nf->∀ c,cd i=some c->(T.fd i).code=.ref c
 |0,_,_,d=>⟨⟨fun _=>0,fun _=>d,fun i h=>absurd h (by omega),fun i h=>absurd h (by omega),fun i h=>absurd h (by omega)⟩,fun i h=>absurd h (by omega)⟩|nf+1,B,H,d=>by
  obtain⟨T,hc⟩:=LV nf (fun i h=>B i (by omega)) (fun i h=>H i (by omega)) d;obtain⟨a,fd,hF,hm,hcd⟩:=H nf (by omega);refine⟨⟨fun i=>if i=nf then a else T.a i,fun i=>if i=nf then fd else T.fd i,fun i h=>?_,fun i h=>?_,fun i h=>?_⟩,fun i h=>?_⟩
  ·by_cases e:i=nf;·subst e;simpa using hF
   ·simpa only[if_neg e]using T.fn i (by omega)
  ·by_cases e:i=nf;·subst e;simpa using hF.binds (B i (by omega))
   ·simpa only[if_neg e]using T.bi i (by omega)
  ·by_cases e:i=nf;·subst e;simpa using hm
   ·simpa only[if_neg e]using T.mg i (by omega)
  ·by_cases e:i=nf;·subst e;simpa using hcd
   ·simpa only[if_neg e]using hc i (by omega)
theorem GV {P:b7}{w:c9}{K:aa}{mg:Str->Option ae}{base:Heap}{G:Prog}{nf:Nat}{nm qn:Nat->Str}{ps:Nat->List Str}{st:Nat->Stmt}{at_:Nat->At}(T:HH K mg nf nm qn ps st at_)(step:∀ k,(∀ i,i<nf->fP P w K mg base dZ (2*k) (T.a i) (T.fd i) (ps i) (fZ K (aH G k) i))->(∀ f Tx,LT f=some Tx->pX P w K mg base (2*k) (aH G k) f)->(∀ i,i<nf->fP P w K mg base dZ (2*k+1+1) (T.a i) (T.fd i) (ps i) (fZ K (aH G (k+1)) i))/\∀ f Tx,LT f=some Tx->pX P w K mg base (2*k+1+1) (aH G (k+1)) f):∀ k,(∀ i,i<nf->fP P w K mg base dZ (2*k) (T.a i) (T.fd i) (ps i) (fZ K (aH G k) i))/\∀ f Tx,LT f=some Tx->pX P w K mg base (2*k) (aH G k) f|0=>⟨fun i _=>Gj,fun f Tx _=>ZX⟩|k+1=>step k (GV T step k).1 (GV T step k).2
set_option tactic.hygienic true in
theorem C4 {α β:Type}[BEq α] [LawfulBEq α]:∀{l:List (α×β)}{a:α}{b:β},l.lookup a=some b->(a,b)∈l
 |[],_,_,h=>by cases h|(x,y)::r,a,b,h=>by
  rw[dq]at h;split at h
  ·rename_i q;have q:a=x:=by simpa using q
   subst q;cases h;exact dh ..
  ·exact cq _ (C4 h)
theorem Z5 (h1:T.scope.kind=.function:=by kernel_rfl)(h2:T.scope.isCoroutine=false:=by kernel_rfl)(h3:T.scope.isGenerator=false:=by kernel_rfl)(h4:(T.scope.names.all fun p=>!(p.2 == .cell))=true:=by kernel_rfl)(h5:(T.aL++T.ps).Nodup:=by decide +kernel)(h6:(T.ps.all fun x=>T.scope.names.lookup x==some .local)=true:=by kernel_rfl)(h7:K9 T=true:=by kernel_rfl):SG T:=by
 simp only[K9,bc,f6]at h7;rw[f6]at h4 h6;refine⟨h1,h2,h3,fun x hx z=>?_,h5,fun x hx=>by simpa using h6 x hx,fun x hx=>?_,fun x hx=>by simpa using h7.2 x hx⟩;·have:=h4 x hx;rw[z]at this;simp at this
 ·have:=h7.1 _ (C4 hx);simpa using this
end L3
end
section
open L3 PySem
local macro_rules | `(tactic| walk_at "wpe") => do
  let a ← ("M4 KI Qv Px TR Pq Ta Ed Pf Uv Qd Pt Hg Jo Od Hh DN Vt Qc Js Oq Vp Pc Vy Fd Ct Aj Hl To Tj Qx Ro U7 P1 Ru Ig Sz wH Mq Ko Ni W3 Hn Kh Hc CD Ob Qe HC Ho Uy Uj Vh Vk Vz Uo Vj Ur Qs Rg Qh Rj Lw Fw Gx Gz ZN Hy Nv Ly Jc cmp_gt Im Gv Cf ZR Z0 R8 O9 RV PN L8 PL add_int add_str HJ Cu sub_int mul_int Er YS mod_int pow_int neg_int Ga El mX RK OB Ez bB VQ Hv Lz MD Jj Gh ZH ZS W7 nO HK wR Y5 SO TY Dd XO Ey M0 len_str HP X0 VP Cg Lo Mh US QI MS Ij Gf IM Jw Mj Dl Ap Jl Dr P5 xU S2 Ef uA zQ LK RP Jt WX".splitOn " ").toArray.mapM fun s => `(Lean.Parser.Tactic.simpLemma| ↓$(Lean.mkIdent s.toName):term)
  let b ← ("jX DL ZY ZU Wq Vo Sq bb gg cg av ao d5 if_true if_false e8 iq ak reduceIte dy ey true_and and_true GG UB A6 RX KE KA OU KN jD Cs Lf De lh fh gV decide_eq_true_eq bc l8 List.zip_nil_left List.zip_nil_right jd List.foldl_nil bf az".splitOn " ").toArray.mapM fun s => `(Lean.Parser.Tactic.simpLemma| $(Lean.mkIdent s.toName):term)
  `(tactic| simp only [$a,*, $b,*])
local macro_rules|`(tactic| lk)=>`(tactic| ((try dsimp only);(first|refine fT ?_|rw[XR]);(try walk_at"wpe")))
local macro_rules|`(tactic| k_ne)=>`(tactic| ((try dsimp only);(try walk_at"wpe")))
section
namespace L3
open PySem
theorem aW {G:Prog}{f k:Nat}{fn:Fn}{ds:List D}{st:aB}{Q:VK}{E:XK}(h:G.fns f=some fn):aH G (k+1) f ds st Q E=(ds.length=fn.np/\dD (aH G k) G.sub fn.body ⟨fun _ aA=>Q .non aA,Q,fun _ _=>False,fun _ _=>False,fun c _ aA=>E c aA⟩ (start fn.np fn.nl ds) st):=by simp only[aH,h]
def bL (as:List Nat)(st aA:aB):Prop:=∀ a o,a∉as->st a=some o->aA a=some o
theorem bL.refl {as:List Nat}{st:aB}:bL as st st:=fun _ _ _ h=>h
theorem bL.trans {as:List Nat}{a b c:aB}(h:bL as a b)(h':bL as b c):bL as a c:=fun x o n e=>h' x o n (h x o n e)
theorem bL.mono {as bs:List Nat}{st aA:aB}(h:bL as st aA)(s:∀ a∈as,a∈bs):bL bs st aA:=fun x o n e=>h x o (fun z=>n (s x z)) e
theorem Ext.keep {as:List Nat}{st aA:aB}(h:Ext st aA):bL as st aA:=fun x o _ e=>h x o e
theorem bL.put {as:List Nat}{st:aB}{a:Nat}{o:MO}(h:a∈as):bL as st (put st a o):=fun x u n e=>by rw[aM (fun z=>n (by rw[z];exact h))];exact e
noncomputable def yI (ns:List Int)(k:Int):Int:=if k<ns.length then(ns[k.toNat]?).getD 0 else if ns=[]then 0 else(ns[(k % ns.length).toNat]?).getD 0*31+k
noncomputable def kB (ns:List Int)(k many:Int):Int :=let d:=(yI ns k+7919*k+1)*48271 % 2147483647;(d*d+7*d+k) % 2147483629 % many
theorem gR {ns:List Int}{k many:Int}(h:0<many):0<=kB ns k many:=oh _ (by omega)
theorem gQ {ns:List Int}{k many:Int}(h:0<many):kB ns k many<many:=oq _ h
noncomputable def qA:Fn:=⟨2,2,[.iff (.cmp .lt (.v 1) (.bi .len [(.v 0)])) [.ret (.ix (.v 0) (.v 1))] [],.iff (.cmp .eq (.v 0) (.lst [])) [.ret (.c (.int 0))] [],.ret (.bin .add (.bin .mul (.ix (.v 0) (.bin .mod (.v 1) (.bi .len [(.v 0)]))) (.c (.int 31))) (.v 1))]⟩
noncomputable def oU (ic:Nat):Fn:=⟨3,4,[.asg (.nm 3) (.bin .mod (.bin .mul (.bin .add (.bin .add (.call ic [(.v 0),(.v 1)]) (.bin .mul (.c (.int 7919)) (.v 1))) (.c (.int 1))) (.c (.int 48271))) (.c (.int 2147483647))),.ret (.bin .mod (.bin .mod (.bin .add (.bin .add (.bin .mul (.v 3) (.v 3)) (.bin .mul (.c (.int 7)) (.v 3))) (.v 1)) (.c (.int 2147483629))) (.v 2))]⟩
noncomputable def rZ (im:Nat):Fn:=⟨3,3,[.asg (.ix (.v 1) (.c (.int 0))) (.bin .add (.ix (.v 1) (.c (.int 0))) (.c (.int 1))),.ret (.call im [(.v 0),(.ix (.v 1) (.c (.int 0))),(.v 2)])]⟩
theorem E2 (ns:List Int):cD (ns.map .int)=true/\cX (ns.map .int)=0:=by induction ns with|nil=>exact⟨rfl,rfl⟩|cons n r ih=>exact⟨by simp only[bb,cD,bQ,ih.1,fz],by simp only[bb,cX,cT,ih.2,Nat.max_self]⟩
theorem QE {ns:List Int}{k:Int}(h0:0<=k)(h1:k<ns.length):gP (ns.map D.int) k=some (.int ((ns[k.toNat]?).getD 0)):=by obtain⟨n,rfl⟩:∃ n:Nat,k=n:=⟨k.toNat,by omega⟩;rw[dG (by simp;omega)];simp only[bg,Int.toNat_natCast];rw[ai (by omega)];rfl
section
variable {G:Prog}{k ic im dR:Nat}{st:aB}{Q:VK}{E:XK}{ns:List Int}
theorem Gs (hc:G.fns ic=some qA){i:Int}(hi:0<=i)(hQ:∀ aA,Ext st aA->Q (.int (yI ns i)) aA):aH G (k+1) ic [.bR (ns.map .int),.int i] st Q E:=by
 rw[aW hc];simp only[qA,start];refine⟨rfl,?_⟩;refine fT ?_;walk_at"wpe";simp only[ab];by_cases h:i<ns.length;·simp only[h,decide_true,if_true];refine fT ?_;walk_at"wpe";rw[QE hi h];walk_at"wpe";have:=hQ st .refl;simp only[yI,h,if_true]at this;exact this
 ·simp only[h,decide_false,ak,if_false,aI];refine fT ?_;walk_at"wpe";refine⟨Nat.zero_le _,fun p hp=>?_⟩;have hx:Ext st (put st p (.lst [])):=Ext.new hp;dsimp only;have e1:bW (put st p (.lst [])) (.bR (ns.map .int)) (.ref p)=ns.isEmpty:=by simp only[bW,aN,J8];cases ns with|nil=>rfl|cons n r=>rfl
  rw[e1];refine⟨⟨?_,dt _⟩,⟨?_,dt _⟩,?_⟩;·simp only[iB,(E2 ns).1,(E2 ns).2,jm];rfl
  ·simp only[iB,aN,Be];rfl
  cases ns with|nil =>simp only[v5,if_true];refine fT ?_;walk_at"wpe";have:=hQ _ hx;simp only[yI,h,if_false,if_true]at this;exact this|cons n r =>
   simp only[uw,ak,if_false,aI];refine fT ?_;have hl:(0:Int)<((n::r).length:Int):=by simp only[bf];omega
   simp only[W3,TR,DN,KI,M4,Jo,P1,U7,Mi,Ja,XO,M0,mod_int,RK,ab,bb,cg,av,gg];refine⟨by simpa using hl,?_⟩;have hm0:0<=i % ((n::r).length:Int):=oh _ (by omega);have hm1:i % ((n::r).length:Int)<(n::r).length:=oq _ hl;have:=QE (ns:=n::r) hm0 hm1;simp only[bb,bf]at this;simp only[bf,ab];rw[this];walk_at"wpe";refine⟨.inr ⟨by omega,by omega⟩,?_⟩;have:=hQ _ hx;simp only[yI,h,if_false]at this;simpa using this
theorem OI (hm:G.fns im=some (oU ic))(hc:G.fns ic=some qA){i many:Int}(hi:0<=i)(hmany:0<many)(hQ:∀ aA,Ext st aA->Q (.int (kB ns i many)) aA):aH G (k+2) im [.bR (ns.map .int),.int i,.int many] st Q E:=by rw[aW hm];simp only[oU,start];refine⟨rfl,?_⟩;refine fT ?_;walk_at"wpe";refine Gs hc hi fun aA e=>?_;walk_at"wpe";refine⟨.inl ⟨by omega,by omega⟩,.inr ⟨by omega,by omega⟩,by omega,?_⟩;refine fT ?_;walk_at"wpe";have d0:0<=(yI ns i+7919*i+1)*48271 % 2147483647:=oh _ (by omega);have d1:(yI ns i+7919*i+1)*48271 % 2147483647<2147483647:=oq _ (by omega);refine⟨.inl ⟨by omega,by omega⟩,.inl ⟨by omega,by omega⟩,by omega,hmany,?_⟩;exact hQ aA e
theorem gB (hn:G.fns dR=some (rZ im))(hm:G.fns im=some (oU ic))(hc:G.fns ic=some qA){a:Nat}{i many:Int}(ha:st a=some (.lst [.int i]))(hi:0<=i)(hmany:0<many)(hQ:∀ aA,bL [a] st aA->aA a=some (.lst [.int (i+1)])->Q (.int (kB ns (i+1) many)) aA):aH G (k+3) dR [.bR (ns.map .int),.ref a,.int many] st Q E:=by rw[aW hn];simp only[rZ,start];refine⟨rfl,?_⟩;refine fT ?_;walk_at"wpe";rw[dN ha];walk_at"wpe";rw[aE ha];have e0:oB [D.int i].length 0=some 0:=rfl;simp only[e0,bB,dy];refine fT ?_;walk_at"wpe";rw[dN aN];walk_at"wpe";refine OI hm hc (by omega) hmany fun aA e=>?_;refine hQ aA (fun x o n h=>e x o (by rw[aM (by simpa using n)];exact h)) (e a _ aN)
end
inductive W1 where|not|before|once|sofar deriving DecidableEq
inductive W2 where|and|or|bF|same|since deriving DecidableEq
inductive Sy where|yes|no|cU (n:List Nat)|one (w:W1)(s:Sy)|two (w:W2)(s t:Sy)deriving DecidableEq
noncomputable def c1:W1->List Nat|.not=>W "not"|.before=>W "before"|.once=>W "once"|.sofar=>W "sofar"
noncomputable def c2:W2->List Nat|.and=>W "and"|.or=>W "or"|.bF=>W "then"|.same=>W "same"|.since=>W "since"
noncomputable def toD:Sy->D|.yes=>.tup [.str (W "yes")]|.no=>.tup [.str (W "no")]|.cU n=>.tup [.str (W "lamp"),.str n]|.one w s=>.tup [.str (c1 w),toD s]|.two w s t=>.tup [.str (c2 w),toD s,toD t]
noncomputable def aQ:Sy->Nat|.one _ s=>aQ s+1|.two _ s t=>max (aQ s) (aQ t)+1|_=>1
noncomputable def p1:W1->Bool|.not=>false|_=>true
noncomputable def p2:W2->Bool|.since=>true|_=>false
noncomputable def cnt:Sy->Nat|.one w s=>(if p1 w then 1 else 0)+cnt s|.two w s t=>(if p2 w then 1 else 0)+(cnt s+cnt t)|_=>0
def over (names:List (List Nat)):Sy->Prop|.cU n=>n∈names|.one _ s=>over names s|.two _ s t=>over names s/\over names t|_=>True
theorem nM:∀ s:Sy,bQ (toD s)=true|.yes=>rfl|.no=>rfl|.cU n=>rfl|.one w s=>by simp only[toD,bQ,cD,nM s,fz]|.two w s t=>by simp only[toD,bQ,cD,nM s,nM t,fz]
theorem sF:∀ s:Sy,cT (toD s)=aQ s|.yes=>rfl|.no=>rfl|.cU n=>rfl|.one w s=>by simp only[toD,cT,cX,sF s,aQ];omega|.two w s t=>by simp only[toD,cT,cX,sF s,sF t,aQ];omega
noncomputable def nW (dR is:Nat):Fn:=⟨5,7,[.asg (.nm 5) (.call dR [(.v 0),(.v 1),(.c (.int 13))]),.iff (.or_ (.cmp .eq (.v 3) (.c (.int 0))) (.cmp .lt (.v 5) (.c (.int 3)))) [.ret (.tup [(.c (.str (W "lamp"))),(.ix (.v 2) (.call dR [(.v 0),(.v 1),(.bi .len [(.v 2)])]))])] [],.iff (.cmp .eq (.v 5) (.c (.int 3))) [.ret (.tup [(.ix (.lst [(.c (.str (W "yes"))),(.c (.str (W "no")))]) (.call dR [(.v 0),(.v 1),(.c (.int 2))]))])] [],.iff (.and_ (.cmp .gt (.v 5) (.c (.int 8))) (.cmp .gt (.ix (.v 4) (.c (.int 0))) (.c (.int 0)))) [.asg (.ix (.v 4) (.c (.int 0))) (.bin .sub (.ix (.v 4) (.c (.int 0))) (.c (.int 1))),.asg (.nm 6) (.call is [(.v 0),(.v 1),(.v 2),(.bin .sub (.v 3) (.c (.int 1))),(.v 4)]),.iff (.cmp .eq (.v 5) (.c (.int 12))) [.ret (.tup [(.c (.str (W "since"))),(.v 6),(.call is [(.v 0),(.v 1),(.v 2),(.bin .sub (.v 3) (.c (.int 1))),(.v 4)])])] [],.ret (.tup [(.ix (.lst [(.c (.str (W "before"))),(.c (.str (W "once"))),(.c (.str (W "sofar")))]) (.bin .sub (.v 5) (.c (.int 9)))),(.v 6)])] [],.asg (.nm 6) (.call is [(.v 0),(.v 1),(.v 2),(.bin .sub (.v 3) (.c (.int 1))),(.v 4)]),.iff (.or_ (.cmp .eq (.v 5) (.c (.int 4))) (.cmp .gt (.v 5) (.c (.int 8)))) [.ret (.tup [(.c (.str (W "not"))),(.v 6)])] [],.ret (.tup [(.ix (.lst [(.c (.str (W "and"))),(.c (.str (W "or"))),(.c (.str (W "then"))),(.c (.str (W "same")))]) (.bin .sub (.v 5) (.c (.int 5)))),(.v 6),(.call is [(.v 0),(.v 1),(.v 2),(.bin .sub (.v 3) (.c (.int 1))),(.v 4)])])]⟩
def Drawn (a b:Nat)(i l:Int)(st aA:aB)(i' l':Int):Prop:=bL [a,b] st aA/\0<=i'/\aA a=some (.lst [.int i'])/\aA b=some (.lst [.int l'])
section
variable {G:Prog}{k ic im dR is:Nat}{st:aB}{Q:VK}{E:XK}{ns:List Int}
theorem Ee {xs:List (List Nat)}{v:Int}(h0:0<=v)(h1:v<xs.length):∃ x∈xs,gP (xs.map D.str) v=some (.str x):=by
 obtain⟨n,rfl⟩:∃ n:Nat,v=n:=⟨v.toNat,by omega⟩;have h:n<xs.length:=by omega
 refine⟨xs[n],qi h,?_⟩;rw[dG (by simpa using h)];simp only[bg];rw[ai h];rfl
theorem Bv {d:D}{r:List D}:oB (d::r).length 0=some 0:=by unfold oB;rw[if_pos (by omega),if_pos (by simp only[bf];omega)];rfl
theorem bS {ds:List D}(hl:ds.length<=bE)(h:∀ p aA,Ext st aA->st p=none->aA p=some (.lst ds)->Q (.ref p) aA):iK ds st Q:=⟨hl,fun p hp=>h p _ (Ext.new hp) hp aN⟩
theorem uO (hs:G.fns is=some (nW dR is))(hn:G.fns dR=some (rZ im))(hm:G.fns im=some (oU ic))(hc:G.fns ic=some qA){names:List (List Nat)}(jT:0<names.length){a b:Nat}(eD:a≠b):∀(n:Nat){st:aB}{Q:VK}{E:XK}{i l:Int},st a=some (.lst [.int i])->st b=some (.lst [.int l])->0<=i->0<=l ->(∀ s aA i',over names s->aQ s<=n+1->(cnt s:Int)<=l->bL [a,b] st aA->0<=i'->aA a=some (.lst [.int i'])->aA b=some (.lst [.int (l-cnt s)])->Q (toD s) aA) ->aH G (k+n+4) is [.bR (ns.map .int),.ref a,.tup (names.map .str),.int n,.ref b] st Q E:=by
 intro n;have cU:∀{n:Nat}{st:aB}{Q:VK}{E:XK}{i l:Int}{K:Nat}{P:gN}{r:St},st a=some (.lst [.int i])->st b=some (.lst [.int l])->0<=i->0<=l ->(∀ s aA i',over names s->aQ s<=n+1->(cnt s:Int)<=l->bL [a,b] st aA->0<=i'->aA a=some (.lst [.int i'])->aA b=some (.lst [.int (l-cnt s)])->P.rt (toD s) aA) ->dD (aH G (K+3)) G.sub [.ret (.tup [(.c (.str (W "lamp"))),(.ix (.v 2) (.call dR [(.v 0),(.v 1),(.bi .len [(.v 2)])]))])] P (some (.bR (ns.map .int))::some (.ref a)::some (.tup (names.map .str))::r) st:=by intro n st Q E i l K P r ha hb hi hl hQ;lk;simp only[ab];refine gB hn hm hc ha hi (by omega) fun aC k1 a1=>?_;k_ne;obtain⟨x,hx,e⟩:=Ee (xs:=names) (gR (ns:=ns) (k:=i+1) (many:=names.length) (by omega)) (gQ (by omega));rw[e];k_ne;have b1:aC b=some (.lst [.int l]):=k1 b _ (by simpa using eD.symm) hb;exact hQ (.cU x) aC (i+1) hx (by simp [aQ]) (by simp [cnt];omega) (k1.mono (by simp)) (by omega) a1 (by simpa [cnt]using b1)
 induction n with|zero =>intro st Q E i l ha hb hi hl hQ;rw[aW hs];simp only[nW,start];refine⟨rfl,?_⟩;lk;refine gB hn hm hc ha hi (by omega) fun aC k1 a1=>?_;lk;simp only[ng,beq_self_eq_true,if_true];have b1:aC b=some (.lst [.int l]):=k1 b _ (by simpa using eD.symm) hb;have kk:bL [a,b] st aC:=k1.mono (by simp);exact cU (n:=0) (Q:=Q) (E:=E) a1 b1 (by omega) hl fun s aA i' h1 h2 h3 h4 h5 h6 h7=>hQ s aA i' h1 h2 h3 (kk.trans h4) h5 h6 h7|succ n ih =>
  intro st Q E i l ha hb hi hl hQ;rw[aW hs];simp only[nW,start];refine⟨rfl,?_⟩;lk;refine gB hn hm hc ha hi (by omega) fun aC k1 a1=>?_;have v0:=gR (ns:=ns) (k:=i+1) (many:=13) (by omega);have v1:=gQ (ns:=ns) (k:=i+1) (many:=13) (by omega);generalize kB ns (i+1) 13=v at v0 v1;have b1:aC b=some (.lst [.int l]):=k1 b _ (by simpa using eD.symm) hb;have kk:bL [a,b] st aC:=k1.mono (by simp);have hn0:(((n+1:Nat):Int)==0)=false:=by rw[beq_eq_false_iff_ne];omega
  have hn1:((n+1:Nat):Int)-1=(n:Int):=by omega
  lk;simp only[hn0,ak,if_false];by_cases h3:v<3;·simp only[h3,decide_true,if_true];exact cU (n:=n+1) (Q:=Q) (E:=E) a1 b1 (by omega) hl fun s aA i' h1 h2 h3 h4 h5 h6 h7=>hQ s aA i' h1 h2 h3 (kk.trans h4) h5 h6 h7
  simp only[h3,decide_false,ak,if_false,aI];lk;by_cases e3:v=3
  ·subst e3;simp only[beq_self_eq_true,if_true];lk;refine bS (by decide) fun p aF x2 hp nC=>?_;k_ne;have pa:p≠a:=fun z=>by rw[z,a1]at hp;cases hp
   have pb:p≠b:=fun z=>by rw[z,b1]at hp;cases hp
   refine gB hn hm hc (x2 a _ a1) (by omega) (by omega) fun aX k3 a3=>?_;k_ne;have w0:=gR (ns:=ns) (k:=i+1+1) (many:=2) (by omega);have w1:=gQ (ns:=ns) (k:=i+1+1) (many:=2) (by omega);generalize kB ns (i+1+1) 2=w at w0 w1;rw[dN (k3 p _ (by simpa using pa) nC)];have b3:aX b=some (.lst [.int l]):=k3 b _ (by simpa using eD.symm) (x2 b _ b1);have kk3:bL [a,b] st aX:=(kk.trans x2.keep).trans (k3.mono (by simp));obtain rfl|rfl:w=0∨w=1:=by omega
   ·k_ne;exact hQ .yes aX _ trivial (by simp [aQ]) (by simp [cnt];omega) kk3 (by omega) a3 (by simpa [cnt]using b3)
   ·k_ne;exact hQ .no aX _ trivial (by simp [aQ]) (by simp [cnt];omega) kk3 (by omega) a3 (by simpa [cnt]using b3)
  have e3':(v==3)=false:=by rw[beq_eq_false_iff_ne];exact e3
  simp only[e3',ak,if_false,aI];lk;have plain:∀{P:gN},(∀ s aA i',over names s->aQ s<=n+1+1->(cnt s:Int)<=l->bL [a,b] st aA->0<=i'->aA a=some (.lst [.int i'])->aA b=some (.lst [.int (l-cnt s)])->P.rt (toD s) aA) -> dD (aH G (k+n+4)) G.sub [.asg (.nm 6) (.call is [(.v 0),(.v 1),(.v 2),(.bin .sub (.v 3) (.c (.int 1))),(.v 4)]),.iff (.or_ (.cmp .eq (.v 5) (.c (.int 4))) (.cmp .gt (.v 5) (.c (.int 8)))) [.ret (.tup [(.c (.str (W "not"))),(.v 6)])] [],.ret (.tup [(.ix (.lst [(.c (.str (W "and"))),(.c (.str (W "or"))),(.c (.str (W "then"))),(.c (.str (W "same")))]) (.bin .sub (.v 5) (.c (.int 5)))),(.v 6),(.call is [(.v 0),(.v 1),(.v 2),(.bin .sub (.v 3) (.c (.int 1))),(.v 4)])])] P [some (.bR (ns.map .int)),some (.ref a),some (.tup (names.map .str)),some (.int ((n+1:Nat):Int)),some (.ref b),some (.int v),none] aC:=by
   intro P hQ;lk;rw[hn1];refine ih a1 b1 (by omega) hl fun s1 aF i2 o1 d1 cc1 k2 hi2 a2 b2=>?_;lk;have hor:((v==4)||decide (8<v))=true∨(v=5∨v=6∨v=7∨v=8):=by
    by_cases q:v=4;·left;simp [q]
    ·by_cases q':8<v;·left;simp [q']
     ·right;omega
   rcases hor with hor|hor
   ·have go:dD (aH G (k+n+4)) G.sub [.ret (.tup [.c (.str (W "not")),.v 6])] { P with nx:=dD (aH G (k+n+4)) G.sub [.ret (.tup [(.ix (.lst [(.c (.str (W "and"))),(.c (.str (W "or"))),(.c (.str (W "then"))),(.c (.str (W "same")))]) (.bin .sub (.v 5) (.c (.int 5)))),(.v 6),(.call is [(.v 0),(.v 1),(.v 2),(.bin .sub (.v 3) (.c (.int 1))),(.v 4)])])] P } [some (.bR (ns.map .int)),some (.ref a),some (.tup (names.map .str)),some (.int ((n+1:Nat):Int)),some (.ref b),some (.int v),some (toD s1)] aF:=by lk;exact hQ (.one .not s1) aF i2 o1 (by simp only[aQ];omega) (by simp [cnt,p1];omega) (kk.trans k2) hi2 a2 (by simpa [cnt,p1]using b2)
    by_cases q:v=4;·simp only[q,beq_self_eq_true,if_true];rw[q]at go;exact go
    ·have q1:(v==4)=false:=by rw[beq_eq_false_iff_ne];exact q
     have q2:8<v:=by simpa [q1]using hor
     simp only[q1,q2,ak,if_false,if_true];exact go
   ·have q1:(v==4)=false:=by rw[beq_eq_false_iff_ne];omega
    have q2:¬8<v:=by omega
    simp only[q1,q2,ak,if_false,aI];lk;refine bS (by decide) fun p aX x3 hp hp3=>?_;k_ne;rw[dN hp3];have pa:p≠a:=fun z=>by rw[z,a2]at hp;cases hp
    have pb:p≠b:=fun z=>by rw[z,b2]at hp;cases hp
    have step:∀ w:W2,p2 w=false->∀{Q:VK},(∀ s aA i',over names s->aQ s<=n+1+1->(cnt s:Int)<=l->bL [a,b] st aA->0<=i'->aA a=some (.lst [.int i'])->aA b=some (.lst [.int (l-cnt s)])->Q (toD s) aA) -> aH G (k+n+4) is [.bR (ns.map .int),.ref a,.tup (names.map .str),.int (((n+1:Nat):Int)-1),.ref b] aX (fun d aA=>Q (.tup [.str (c2 w),toD s1,d]) aA) fun c aA=>P.ex c [some (.bR (ns.map .int)),some (.ref a),some (.tup (names.map .str)),some (.int ((n+1:Nat):Int)),some (.ref b),some (.int v),some (toD s1)] aA:=by intro w hw Q hQ;rw[hn1];refine ih (x3 a _ a2) (x3 b _ b2) hi2 (by omega) fun s2 cG i4 o2 d2 c2' k4 hi4 a4 b4=>?_;refine hQ (.two w s1 s2) cG i4 ⟨o1,o2⟩ (by simp only[aQ];omega) (by simp only[cnt,hw];simp;omega) ((kk.trans k2).trans (x3.keep.trans k4)) hi4 a4 ?_;rw[b4];simp only[cnt,hw];simp;omega
    rcases hor with rfl|rfl|rfl|rfl;·k_ne; exact step .and rfl hQ
    ·k_ne; exact step .or rfl hQ
    ·k_ne; exact step .bF rfl hQ
    ·k_ne; exact step .same rfl hQ
  by_cases h8:8<v
  ·simp only[h8,if_true];rw[dN b1];k_ne;by_cases hl0:0<l
   ·simp only[hl0,if_true];lk;rw[dN b1];k_ne;rw[aE b1];simp only[Bv,bB,dy];have a2:(put aC b (.lst [.int (l-1)])) a=some (.lst [.int (i+1)]):=by rw[aM eD];exact a1
    have kp:bL [a,b] st (put aC b (.lst [.int (l-1)])):=kk.trans (bL.put (by simp));lk;rw[hn1];refine ih a2 aN (by omega) (by omega) fun s1 aF i2 o1 d1 cc1 k2 hi2 a3 b3=>?_;lk;by_cases e12:v=12;·simp only[e12,beq_self_eq_true,if_true];lk;rw[hn1];refine ih a3 b3 hi2 (by omega) fun s2 cG i4 o2 d2 c2' k4 hi4 a4 b4=>?_;refine hQ (.two .since s1 s2) cG i4 ⟨o1,o2⟩ (by simp only[aQ];omega) (by simp [cnt,p2];omega) ((kp.trans k2).trans k4) hi4 a4 ?_;rw[b4];simp [cnt,p2];omega
    ·have e12':(v==12)=false:=by rw[beq_eq_false_iff_ne];exact e12
     simp only[e12',ak,if_false,aI];lk;refine bS (by decide) fun p aX x3 hp hp3=>?_;k_ne;rw[dN hp3];have fin:∀ w:W1,p1 w=true->Q (.tup [.str (c1 w),toD s1]) aX:=fun w hw=>by refine hQ (.one w s1) aX i2 o1 (by simp only[aQ];omega) (by simp [cnt,hw];omega) ((kp.trans k2).trans x3.keep) hi2 (x3 _ _ a3) ?_;rw[x3 _ _ b3];simp [cnt,hw];omega
     obtain rfl|rfl|rfl:v=9∨v=10∨v=11:=by omega
     ·k_ne; exact fin .before rfl
     ·k_ne; exact fin .once rfl
     ·k_ne; exact fin .sofar rfl
   ·simp only[hl0,if_false,aI];exact plain hQ
  ·simp only[h8,if_false,aI];exact plain hQ
end
noncomputable def pW:List (List Nat):=[W "a", W "b", W "x", W "y", W "lamp", W "far", W "yesno", W "abcdefgh"]
noncomputable def wB (fs gs:List (List Nat)):Bool:=decide (1<=fs.length)&&decide (fs.length<=2)&&decide (1<=gs.length)&&decide (gs.length<=2)&&decide ((fs++gs).Nodup)&&(fs++gs).all fun n=>pW.contains n
noncomputable def rB (t:Int):List (List Nat):=cut pW (some t) none++cut pW none (some t)
theorem VW:∀(t:Fin 8)(f g:Fin 2),wB (cut (rB (t.val:Nat)) none (some (1+(f.val:Nat)))) (cut (rB (t.val:Nat)) (some (1+(f.val:Nat))) (some (1+(f.val:Nat)+(1+(g.val:Nat)))))=true:=by decide +kernel
theorem UE {t f g:Int}(h0:0<=t)(h1:t<8)(h2:0<=f)(h3:f<2)(h4:0<=g)(h5:g<2):wB (cut (rB t) none (some (1+f))) (cut (rB t) (some (1+f)) (some (1+f+(1+g))))=true:=by have:=VW ⟨t.toNat,by omega⟩ ⟨f.toNat,by omega⟩ ⟨g.toNat,by omega⟩;simp only[rq h0,rq h2,rq h4]at this;exact this
theorem CN {α β:Type}(f:α->β)(xs:List α)(lo hi:Option Int):cut (xs.map f) lo hi=(cut xs lo hi).map f:=by simp only[cut,ab,List.map_take,List.map_drop]
noncomputable def zJ (dR:Nat):Fn:=⟨2,7,[.asg (.nm 2) (.lst [(.c (.str (W "a"))),(.c (.str (W "b"))),(.c (.str (W "x"))),(.c (.str (W "y"))),(.c (.str (W "lamp"))),(.c (.str (W "far"))),(.c (.str (W "yesno"))),(.c (.str (W "abcdefgh")))]),.asg (.nm 3) (.call dR [(.v 0),(.v 1),(.c (.int 8))]),.asg (.nm 4) (.bin .add (.sl (.v 2) [(.v 3)] []) (.sl (.v 2) [] [(.v 3)])),.asg (.nm 5) (.bin .add (.c (.int 1)) (.call dR [(.v 0),(.v 1),(.c (.int 2))])),.asg (.nm 6) (.bin .add (.c (.int 1)) (.call dR [(.v 0),(.v 1),(.c (.int 2))])),.ret (.tup [(.bi .tuple [(.sl (.v 4) [] [(.v 5)])]),(.bi .tuple [(.sl (.v 4) [(.v 5)] [(.bin .add (.v 5) (.v 6))])])])]⟩
section
variable {G:Prog}{k ic im dR is:Nat}{st:aB}{Q:VK}{E:XK}{ns:List Int}
theorem YH {inm:Nat}(hm':G.fns inm=some (zJ dR))(hn:G.fns dR=some (rZ im))(hm:G.fns im=some (oU ic))(hc:G.fns ic=some qA){a:Nat}{i:Int}(ha:st a=some (.lst [.int i]))(hi:0<=i)(hQ:∀ fs gs aA i',wB fs gs=true->bL [a] st aA->0<=i'->aA a=some (.lst [.int i'])->Q (.tup [.tup (fs.map .str),.tup (gs.map .str)]) aA):aH G (k+4) inm [.bR (ns.map .int),.ref a] st Q E:=by
 have hL:bE=16777216:=rfl;rw[aW hm'];simp only[zJ,start];refine⟨rfl,?_⟩;lk;refine bS (by decide) fun p aC x1 hp hp1=>?_;have pa:p≠a:=fun z=>by rw[z,ha]at hp;cases hp
 lk;refine gB hn hm hc (x1 a _ ha) hi (by omega) fun aF k2 a2=>?_;have t0:=gR (ns:=ns) (k:=i+1) (many:=8) (by omega);have t1:=gQ (ns:=ns) (k:=i+1) (many:=8) (by omega);generalize kB ns (i+1) 8=t at t0 t1;have p2:=k2 p _ (by simpa using pa) hp1;lk;rw[aE p2];intro q hq;have x3:Ext aF (put aF q (.lst (cut [.str (W "a"),.str (W "b"),.str (W "x"),.str (W "y"),.str (W "lamp"),.str (W "far"),.str (W "yesno"),.str (W "abcdefgh")] (some t) none))):=Ext.new hq;k_ne;rw[aE (x3 p _ p2)];intro q' hq';have x4:=Ext.new (o:=.lst (cut [.str (W "a"),.str (W "b"),.str (W "x"),.str (W "y"),.str (W "lamp"),.str (W "far"),.str (W "yesno"),.str (W "abcdefgh")] none (some t))) hq';k_ne;rw[aE (x4 q _ aN),aE aN];have eL:([.str (W "a"),.str (W "b"),.str (W "x"),.str (W "y"),.str (W "lamp"),.str (W "far"),.str (W "yesno"),.str (W "abcdefgh")]:List D)=pW.map .str:=rfl;have er:cut ([.str (W "a"),.str (W "b"),.str (W "x"),.str (W "y"),.str (W "lamp"),.str (W "far"),.str (W "yesno"),.str (W "abcdefgh")]:List D) (some t) none++cut [.str (W "a"),.str (W "b"),.str (W "x"),.str (W "y"),.str (W "lamp"),.str (W "far"),.str (W "yesno"),.str (W "abcdefgh")] none (some t)=(rB t).map .str:=by rw[eL,CN,CN,<-dw];rfl
 have lr:(rB t).length<=16:=by have l1:=BN (xs:=pW) (lo:=some t) (hi:=none);have l2:=BN (xs:=pW) (lo:=none) (hi:=some t);have l3:pW.length=8:=rfl;simp only[rB,bq];omega
 rw[er];refine bS (by simp only[ab];omega) fun r cW x5 hr hr5=>?_;have k5:bL [a] st cW:=((x1.keep.trans k2).trans x3.keep).trans (x4.keep.trans x5.keep);have a5:cW a=some (.lst [.int (i+1)]):=x5 _ _ (x4 _ _ (x3 _ _ a2));have ra:r≠a:=fun z=>by rw[z,x4 _ _ (x3 _ _ a2)]at hr;cases hr
 lk;refine gB hn hm hc a5 (by omega) (by omega) fun fM k6 a6=>?_;have f0:=gR (ns:=ns) (k:=i+1+1) (many:=2) (by omega);have f1:=gQ (ns:=ns) (k:=i+1+1) (many:=2) (by omega);generalize kB ns (i+1+1) 2=f at f0 f1;k_ne;lk;refine gB hn hm hc a6 (by omega) (by omega) fun kF k7 a7=>?_;have g0:=gR (ns:=ns) (k:=i+1+1+1) (many:=2) (by omega);have g1:=gQ (ns:=ns) (k:=i+1+1+1) (many:=2) (by omega);generalize kB ns (i+1+1+1) 2=g at g0 g1;have r7:kF r=some (.lst ((rB t).map .str)):=k7 r _ (by simpa using ra) (k6 r _ (by simpa using ra) hr5);k_ne;lk;rw[aE r7];intro u hu;k_ne;rw[aE aN];have xu:=Ext.new (o:=.lst (cut ((rB t).map D.str) none (some (1+f)))) hu;have c1:=BN (xs:=(rB t).map D.str) (lo:=none) (hi:=some (1+f));have c2:=BN (xs:=(rB t).map D.str) (lo:=some (1+f)) (hi:=some (1+f+(1+g)));simp only[ab]at c1 c2;refine⟨by omega,?_⟩;rw[aE (xu r _ r7)];intro u' hu';k_ne;rw[aE aN];refine⟨by omega,?_⟩;have xu':=Ext.new (o:=.lst (cut ((rB t).map D.str) (some (1+f)) (some (1+f+(1+g))))) hu';rw[CN,CN]at *;exact hQ _ _ _ (i+1+1+1) (UE t0 t1 f0 f1 g0 g1) ((k5.trans (k6.trans k7)).trans (xu.keep.trans xu'.keep)) (by omega) (xu' _ _ (xu _ _ a7))
end
theorem Kw (w w':W1):(c1 w==c1 w')=decide (w=w'):=by cases w<;>cases w'<;>decide +kernel
theorem Mn (w w':W2):(c2 w==c2 w')=decide (w=w'):=by cases w<;>cases w'<;>decide +kernel
theorem QH (w:W1):(W "lamp" == c1 w)=false/\(c1 w==W "lamp")=false:=by cases w<;>decide +kernel
theorem cY {st:aB}{as bs:List D}:bW st (.tup as) (.tup bs)=kD st as bs:=by simp only[bW]
theorem cJ {st:aB}{a b:D}{as bs:List D}:kD st (a::as) (b::bs)=(bW st a b&&kD st as bs):=by simp only[kD]
theorem sQ {st:aB}:kD st [] []=true:=rfl
theorem oE {st:aB}{b:D}{bs:List D}:kD st [] (b::bs)=false:=rfl
theorem oC {st:aB}{b:D}{bs:List D}:kD st (b::bs) []=false:=rfl
theorem WD:(W "yes" == W "no")=false/\(W "no" == W "yes")=false:=by decide +kernel
theorem sD {st:aB}:∀ s t:Sy,bW st (toD s) (toD t)=decide (s=t)|.yes,.yes=>by simp only[toD,cY,cJ,jD,sQ,beq_self_eq_true,fz,decide_true]|.yes,.no=>by simp only[toD,cY,cJ,jD,WD.1,jq];rfl|.yes,.cU _=>by simp only[toD,cY,cJ,oE,cx];rfl|.yes,.one _ _=>by simp only[toD,cY,cJ,oE,cx];rfl|.yes,.two _ _ _=>by simp only[toD,cY,cJ,oE,cx];rfl|.no,.yes=>by simp only[toD,cY,cJ,jD,WD.2,jq];rfl|.no,.no=>by simp only[toD,cY,cJ,jD,sQ,beq_self_eq_true,fz,decide_true]|.no,.cU _=>by simp only[toD,cY,cJ,oE,cx];rfl|.no,.one _ _=>by simp only[toD,cY,cJ,oE,cx];rfl|.no,.two _ _ _=>by simp only[toD,cY,cJ,oE,cx];rfl|.cU _,.yes=>by simp only[toD,cY,cJ,oC,cx];rfl|.cU _,.no=>by simp only[toD,cY,cJ,oC,cx];rfl|.cU m,.cU n=>by simp only[toD,cY,cJ,sQ,jD,beq_self_eq_true,zg,jm,Sy.cU.injEq];rw[Bool.beq_eq_decide_eq]|.cU m,.one w s=>by simp only[toD,cY,cJ,jD,(QH w).1,jq];rfl|.cU _,.two _ _ _=>by simp only[toD,cY,cJ,oE,cx];rfl|.one _ _,.yes=>by simp only[toD,cY,cJ,oC,cx];rfl|.one _ _,.no=>by simp only[toD,cY,cJ,oC,cx];rfl|.one w s,.cU m=>by simp only[toD,cY,cJ,jD,(QH w).2,jq];rfl|.one w s,.one w' s'=>by simp only[toD,cY,cJ,sQ,jD,Kw,sD s s',zg,Sy.one.injEq];by_cases h:w=w'<;>by_cases h':s=s'<;>simp [h,h']|.one _ _,.two _ _ _=>by simp only[toD,cY,cJ,oE,cx];rfl|.two _ _ _,.yes=>by simp only[toD,cY,cJ,oC,cx];rfl|.two _ _ _,.no=>by simp only[toD,cY,cJ,oC,cx];rfl|.two _ _ _,.cU _=>by simp only[toD,cY,cJ,oC,cx];rfl|.two _ _ _,.one _ _=>by simp only[toD,cY,cJ,oC,cx];rfl|.two w s t,.two w' s' t'=>by simp only[toD,cY,cJ,sQ,jD,Mn,sD s s',sD t t',zg,Sy.two.injEq];by_cases h:w=w'<;>by_cases h':s=s'<;>by_cases h'':t=t'<;>simp [h,h',h'']
theorem RE {st:aB}(x:Sy)(f:List Sy):((f.map toD).any fun d=>bW st d (toD x))=f.contains x:=by induction f with|nil=>rfl|cons y r ih =>
 simp only[bb,kx,ih,sD,om];congr 1;by_cases h:y=x;·simp [h]
 ·simp [h,fj h]
theorem XA (f:List Sy):cD (f.map toD)=true:=by induction f with|nil=>rfl|cons x r ih=>simp only[bb,cD,nM,ih,fz]
theorem ZJ {n:Nat}(f:List Sy)(h:∀ s∈f,aQ s<=n):cX (f.map toD)<=n:=by induction f with|nil=>exact dt _|cons x r ih =>simp only[bb,cX,sF];have:=h x (by simp);have:=ih fun s hs=>h s (by simp [hs]);omega
theorem IU {st:aB}{s:Sy}(h:aQ s<=60):plainS st (toD s):=⟨pV _ (nM s),dg (by rw[sF];exact h) (by decide)⟩
theorem EI {st:aB}{f:List Sy}(h:∀ s∈f,aQ s<=60):eF st (f.map toD):=⟨qF _ (XA f),dg (ZJ f h) (by decide)⟩
noncomputable def wd:Sy->List Nat|.yes=>W "yes"|.no=>W "no"|.cU _=>W "lamp"|.one w _=>c1 w|.two w _ _=>c2 w
noncomputable def subs:Sy->List Sy|.one _ s=>[s]|.two _ s t=>[s,t]|_=>[]
noncomputable def bX:Sy->Bool|.one w _=>p1 w|.two w _ _=>p2 w|_=>false
noncomputable def fV:Sy->Bool|.cU _=>true|_=>false
theorem qW (s:Sy):∃ r,toD s=.tup (.str (wd s)::r):=by cases s<;>exact⟨_,rfl⟩
theorem Af {s:Sy}(h:fV s=false):toD s=.tup (.str (wd s)::(subs s).map toD):=by cases s<;>first|rfl|cases h
noncomputable def oX:List (List Nat):=[W "before", W "once", W "sofar", W "since"]
theorem G0 (s:Sy):oX.contains (wd s)=bX s:=by cases s with|one w s=>cases w<;>(simp only[wd,bX];decide +kernel)|two w s t=>cases w<;>(simp only[wd,bX];decide +kernel)|_=>(simp only[wd,bX];decide +kernel)
theorem HZ (s:Sy):(wd s==W "lamp")=fV s:=by cases s with|one w s=>cases w<;>(simp only[wd,fV];decide +kernel)|two w s t=>cases w<;>(simp only[wd,fV];decide +kernel)|_=>(simp only[wd,fV];decide +kernel)
noncomputable def fF (f:List Sy)(s:Sy):List Sy:=if bX s && !f.contains s then f++[s]else f
noncomputable def aK:Sy->List Sy->List Sy|.one w s,f=>aK s (fF f (.one w s))|.two w s t,f=>aK t (aK s (fF f (.two w s t)))|_,f=>f
noncomputable def cZ:List Sy->List Sy->List Sy|[],f=>f|s::r,f=>cZ r (aK s f)
theorem Ju (s:Sy)(f:List Sy):aK s f=cZ (subs s) (fF f s):=by cases s<;>simp [aK,subs,cZ,fF,bX]
theorem O3 (a b:List Sy)(f:List Sy):cZ (a++b) f=cZ b (cZ a f):=by induction a generalizing f with|nil=>rfl|cons x r ih=>simp only[cg,cZ,ih]
theorem VV (s:Sy)(r f:List Sy):cZ (s::r) f=cZ (subs s++r) (fF f s):=by rw[O3,<-Ju];rfl
noncomputable def sz:Sy->Nat|.one _ s=>sz s+1|.two _ s t=>sz s+sz t+1|_=>1
noncomputable def fW (l:List Sy):Nat:=(l.map sz).sum
theorem K6:∀ s:Sy,sz s+1<=2 ^ aQ s|.yes=>by decide|.no=>by decide|.cU _=>by simp only[sz,aQ];decide|.one w s=>by have:=K6 s;simp only[sz,aQ,Yr];omega|.two w s t=>by have h1:=K6 s;have h2:=K6 t;have a:=fk (n:=2) (by omega) (w8 (aQ s) (aQ t));have b:=fk (n:=2) (by omega) (v7 (aQ s) (aQ t));simp only[sz,aQ,Yr];omega
theorem Q2 (s:Sy):fW (subs s)+1=sz s:=by cases s<;>simp [subs,fW,sz]
theorem DM {s t:Sy}(h:t∈subs s):aQ t<aQ s:=by cases s<;>simp [subs]at h<;>simp only[aQ]<;>(try rcases h with rfl|rfl)<;>(try subst h)<;>omega
theorem DS {f:List Sy}{s:Sy}{n:Nat}(h:∀ x∈f,aQ x<=n)(hs:aQ s<=n):∀ x∈fF f s,aQ x<=n:=by
 unfold fF;split
 ·intro x hx;rcases List.mem_append.mp hx with hx|hx;·exact h x hx
  ·simp at hx;subst hx;exact hs
 ·exact h
theorem ZK (f:List Sy)(s:Sy):(fF f s).length<=f.length+1:=by unfold fF;split<;>simp
theorem BQ:∀(s:Sy){f:List Sy}{n:Nat},(∀ x∈f,aQ x<=n)->aQ s<=n->∀ x∈aK s f,aQ x<=n|.yes,_,_,h,_=>h|.no,_,_,h,_=>h|.cU _,_,_,h,_=>h|.one w s,f,n,h,hs=>BQ s (DS h hs) (by simp only[aQ]at hs;omega)|.two w s t,f,n,h,hs=>BQ t (BQ s (DS h hs) (by simp only[aQ]at hs;omega)) (by simp only[aQ]at hs;omega)
noncomputable def gE:Fn:=⟨1,1,[.iff (.cmp .eq (.ix (.v 0) (.c (.int 0))) (.c (.str (W "lamp")))) [.ret (.tup [])] [],.ret (.sl (.v 0) [(.c (.int 1))] [])]⟩
noncomputable def xD:D:=.tup (oX.map .str)
noncomputable def jF (iw:Nat):Fn:=⟨1,4,[.asg (.nm 1) (.lst []),.asg (.nm 2) (.bit .list .rev [(.v 0)]),.whl (.v 2) [.asg (.nm 3) (.cM .pop (.v 2) []),.iff (.and_ (.cmp .in_ (.ix (.v 3) (.c (.int 0))) (.c xD)) (.cmp .lS (.v 3) (.v 1))) [.ex (.cM .append (.v 1) [(.v 3)])] [],.ex (.cM .extend (.v 2) [(.bit .list .rev [(.call iw [(.v 3)])])])],.ret (.v 1)]⟩
section
variable {G:Prog}{k ip iw:Nat}{st:aB}{Q:VK}{E:XK}
theorem uJ (hw:G.fns iw=some gE){s:Sy}(hQ:Q (.tup ((subs s).map toD)) st):aH G (k+1) iw [toD s] st Q E:=by rw[aW hw];simp only[gE,start];refine⟨rfl,?_⟩;obtain⟨r,er⟩:=qW s;lk;rw[er];k_ne;rw[HZ,<-er];cases h:fV s with
 |true =>simp only[if_true];lk;cases s<;>first|exact hQ|cases h
 |false =>simp only[ak,if_false,aI];lk;rw[Af h];k_ne;exact hQ
end
theorem yO {C:bG}{sub:Nat->Nat->Bool}(hC:bU C C){c:Ex}{b:List Sx}{P:gN}(I:Nat->St->aB->Prop) (step:∀ m σ st,I m σ st->aG C sub (fun c aA=>P.ex c σ aA) c σ st fun d aA=>fB d aA fun k =>if k=true then dD C sub b { P with nx:=fun σ st=>∃ m',m'<m/\I m' σ st,ct:=fun σ st=>∃ m',m'<m/\I m' σ st,bk:=P.nx } σ aA else P.nx σ aA){m:Nat}{σ:St}{st:aB}(h:I m σ st):wpS C sub (.whl c b) P σ st:=by
 refine⟨m+1,?_⟩;have key:∀(n m:Nat)(σ:St)(st:aB),m<n->I m σ st->qH (fun next σ st=>aG C sub (fun c aA=>P.ex c σ aA) c σ st fun d aA=>fB d aA fun k =>if k=true then dD C sub b { P with nx:=next,ct:=next,bk:=P.nx } σ aA else P.nx σ aA) n σ st:=by intro n;induction n with|zero=>intro m σ st h;omega|succ n ih =>
   intro m σ st hm hI;refine bC hC (fun _ _ z=>z) c (fun d aA=>kG fun k=>?_) (step m σ st hI);split;·exact jM hC b ⟨fun σ st ⟨m',h1,h2⟩=>ih m' σ st (by omega) h2,fun _ _ z=>z,fun _ _ z=>z,fun σ st ⟨m',h1,h2⟩=>ih m' σ st (by omega) h2,fun _ _ _ z=>z⟩
   ·exact id
 exact key (m+1) m σ st (by omega) h
section
variable {G:Prog}{k ip iw iz:Nat}{st:aB}{Q:VK}{E:XK}
theorem kS (s:Sy)(r:List Sy):fW (s::r)=sz s+fW r:=by simp [fW]
theorem mP (a b:List Sy):fW (a++b)=fW a+fW b:=by simp [fW]
theorem XS (s:Sy):0<sz s:=by cases s<;>simp [sz]
theorem H0 (r:List Sy):r.length<=fW r:=by induction r with|nil=>simp|cons s r ih=>have:=XS s;simp only[kS,bf];omega
theorem AL (hz:G.fns iz=some (jF iw))(hw:G.fns iw=some gE){l:Nat}{ss:List Sy}(hl:st l=some (.lst (ss.map toD)))(hd:∀ x∈ss,aQ x<=60)(hs:fW ss<bE) (hQ:∀ p aA,Ext st aA->aA p=some (.lst ((cZ ss []).map toD))->Q (.ref p) aA):aH G (k+2) iz [.ref l] st Q E:=by
 rw[aW hz];simp only[jF,start];refine⟨rfl,?_⟩;lk;refine bS (by decide) fun p aC x1 hp hp1=>?_;lk;rw[aE (x1 l _ hl)];refine bS (by have:=H0 ss;simp only[rz,ab];omega) fun q aF x2 hq hq2=>?_;have hpq:p≠q:=fun z=>by rw[z]at hp1;rw[hq]at hp1;cases hp1
 have p2:=x2 p _ hp1;try dsimp only
 refine fT ?_;refine yO (kJ G (aw _)) (fun m σ aA=>∃(stack f:List Sy)(o:Option D),σ=[some (.ref l),some (.ref p),some (.ref q),o]/\aA p=some (.lst (f.map toD))/\aA q=some (.lst (stack.map toD).reverse)/\fW stack=m /\ (∀ x∈stack,aQ x<=60)/\(∀ x∈f,aQ x<=60)/\f.length+fW stack<bE/\cZ stack f=cZ ss []/\Ext st aA) ?_ (m:=fW ss) ⟨ss,[],none,rfl,p2,hq2,rfl,hd,by simp,by simpa using hs,rfl,fun a o e=>x2 a o (x1 a o e)⟩;rintro m σ aX ⟨stack,f,o,rfl,hp3,hq3,hm,hds,hdf,hlen,gT,x3⟩;k_ne;rw[QT,eI hq3];cases stack with|nil =>simp only[gg,List.reverse_nil,v5,e8,ak,if_false];lk;refine hQ p aX x3 ?_;rw[<-gT];exact hp3|cons s r =>
  have hne:(!((qv toD (s::r)).reverse).isEmpty)=true:=by simp
  rw[hne];simp only[if_true];have hds':=hds s (by simp);rw[kS]at hm hlen;have hsp:=XS s;have hss:=Q2 s;lk;rw[aE hq3];refine⟨trivial,?_⟩;rw[aE hq3];have elast:((qv toD (s::r)).reverse)[((qv toD (s::r)).reverse).length-1]? = some (toD s):=by simp only[bb,jy,bq,bf,az];rw[cw (by simp)];simp
  have edrop:((qv toD (s::r)).reverse).dropLast=(r.map toD).reverse:=by simp
  rw[elast,edrop,bB];try dsimp only
  have hp4:(put aX q (.lst (r.map toD).reverse)) p=some (.lst (f.map toD)):=by rw[aM hpq];exact hp3
  have hx4:Ext st (put aX q (.lst (r.map toD).reverse)):=fun a u e=>by
   by_cases ha:a=q;·exfalso;rw[ha]at e;rw[x1 q _ e]at hq;cases hq
   ·rw[aM ha];exact x3 a u e
  have head:∀{P:gN}{cG:aB}{rest:List Sx},cG p=some (.lst (f.map toD)) ->(∀ aA,bL [p] cG aA->aA p=some (.lst ((fF f s).map toD))->dD (aH G (k+1)) G.sub rest P [some (.ref l),some (.ref p),some (.ref q),some (toD s)] aA) ->dD (aH G (k+1)) G.sub ((.iff (.and_ (.cmp .in_ (.ix (.v 3) (.c (.int 0))) (.c xD)) (.cmp .lS (.v 3) (.v 1))) [.ex (.cM .append (.v 1) [(.v 3)])] [])::rest) P [some (.ref l),some (.ref p),some (.ref q),some (toD s)] cG:=by intro P cG rest hb hN;obtain⟨rr,er⟩:=qW s;lk;rw[er];simp only[xD];k_ne;rw[<-er];refine⟨(qD oX).s,?_⟩;have e1:(AaS (oX.map .str) fun d=>bW cG d (.str (wd s)))=bX s:=(yB (wd s) oX).trans (G0 s);rw[e1];cases hpp:bX s with|false =>simp only[ak,if_false,aI];refine hN cG .refl ?_;simp only[fF,hpp,jq,ak,if_false];exact hb|true =>simp only[if_true];rw[PY,eI hb,RE];refine⟨IU hds',EI hdf,?_⟩;cases hc:f.contains s with|true =>simp only[e8,ak,if_false,aI];refine hN cG .refl ?_;simp only[fF,hpp,hc,e8,cx,ak,if_false];exact hb|false =>simp only[iq,if_true];lk;rw[aE hb];refine⟨trivial,?_⟩;rw[aE hb];refine⟨by simp only[ab];omega,?_⟩;rw[aI];refine hN _ (bL.put (by simp)) ?_;rw[aN];simp only[fF,hpp,hc,iq,fz,if_true,dw,bb,gg]
  refine head hp4 fun cW k5 hp5=>?_;have hq5:cW q=some (.lst (r.map toD).reverse):=k5 q _ (by simpa using fj hpq) aN;have hx5:Ext st cW:=fun a u e=>by
   by_cases ha:a=p;·exfalso;rw[ha]at e;rw[hp]at e;cases e
   ·exact k5 a u (by simpa using ha) (hx4 a u e)
  lk;rw[aE hq5];refine⟨trivial,uJ hw ?_⟩;k_ne;have hsl:=H0 (subs s);have hrl:=H0 r;refine bS (by simp only[rz,ab];omega) fun u fM x6 hu hu6=>?_;k_ne;rw[aE (x6 q _ hq5),aE hu6];refine⟨by simp only[rz,ab];omega,?_⟩;rw[aI];dsimp only;refine⟨fW (subs s++r),by rw[mP];omega,subs s++r,fF f s,_,rfl,?_,?_,rfl,fun x hx=>?_,DS hdf hds',?_,?_,fun a v e=>?_⟩;·rw[aM hpq];exact x6 p _ hp5
  ·rw[aN];simp
  ·rcases List.mem_append.mp hx with hx|hx;·have:=DM hx;omega
   ·exact hds x (by simp [hx])
  ·have:=ZK f s;rw[mP];omega
  ·rw[<-VV];exact gT
  ·by_cases ha:a=q;·exfalso;rw[ha]at e;rw[x1 q _ e]at hq;cases hq
   ·rw[aM ha];exact x6 a v (hx5 a v e)
end
noncomputable def gD:List (List Nat):=[W "yes", W "no", W "not", W "and", W "or", W "then", W "same", W "before", W "once", W "sofar", W "since", W "foe", W "friend", W "promise", W "must", W "wish"]
noncomputable def fI:List Nat:=W "abcdefghijklmnopqrstuvwxyz"
noncomputable def jC (nn lt lg:D):Fn:=⟨1,1,[.iff (.or_ (.not_ (.isi (.v 0) [.str])) (.cmp .in_ (.v 0) (.c nn))) [.ret (.c (.bl false))] [],.ret (.and_ (.chain .le .le (.c (.int 1)) (.bi .len [(.v 0)]) (.c lg)) (.bi .all [(.comp 1 [] [0] true none [(.v 0)] [] (.cmp .in_ (.v 0) (.c lt)))]))]⟩
noncomputable def fS (w:List Nat):Bool:=!(gD.any (·== w))&&decide (1<=w.length)&&decide (w.length<=8)&&w.all fun c=>occurs [c] fI
section
variable {G:Prog}{k i:Nat}{st:aB}{Q:VK}{E:XK}
theorem Dk (st:aB)(w:List Nat):((gD.map D.str).any fun d=>bW st d (.str w))=gD.any (·== w):=by rw[ku];rfl
theorem X3 (st:aB):eF st (gD.map D.str):=⟨rfl,by decide⟩
noncomputable def YZ:D->Bool|.str x=>occurs x fI|_=>false
theorem KQ:∀(w:List Nat),boolsOf ((w.map fun c=>D.str [c]).map fun d=>.bl (YZ d))=some (w.map fun c=>occurs [c] fI)|[]=>rfl|c::r=>by show(boolsOf ((r.map fun c=>D.str [c]).map fun d=>.bl (YZ d))).map (_ :: ·)=_;rw[KQ r];rfl
set_option tactic.hygienic true in
theorem E4 (h:G.fns i=some (jC (.tup (gD.map .str)) (.str fI) (.int 8))){w:List Nat}(hw:w.length<=bE)(hQ:∀ aA,Ext st aA->Q (.bl (fS w)) aA):aH G (k+1) i [.str w] st Q E:=by have hL:bE=16777216:=rfl;rw[aW h];simp only[jC,start];refine⟨rfl,?_⟩;lk;refine⟨X3 st,?_⟩;rw[Dk];cases c1:gD.any (·== w)with
 |true =>
  simp only[if_true];lk;have e:fS w=false:=by simp [fS,c1]
  rw[<-e];exact hQ _ (fun _ _ z=>z)|false =>
  simp only[ak,if_false];rw[aI];lk;refine⟨hw,?_⟩;split
  ·rename_i g1;split
   ·rename_i g2;refine⟨hw,?_⟩;refine comp_map (fun d=>.bl (YZ d)) _ [] st (fun aA x a ha=>by cases ha) ?_ (by simp only[ab,az];omega) fun aA x=>?_;·intro x hx aA K x1 hK;obtain⟨c,hc,rfl⟩:=List.mem_map.mp hx;exact hK aA .refl
    ·rw[av];refine bS (by simp only[ab];omega) fun p aF x2 hp nC=>?_;simp only[eR];rw[aE nC,KQ];have e:fS w=(w.map fun c=>occurs [c] fI).all id:=by simp only[fS,c1,p8];have h1:decide (1<=w.length)=true:=decide_eq_true (by omega);have h2:decide (w.length<=8)=true:=decide_eq_true (by omega);rw[h1,h2];rfl
     show Q _ _;rw[<-e];exact hQ _ (x.trans x2)
   ·rename_i g2;have e:fS w=decide ((w.length:Int)<=8):=by have h2:decide (w.length<=8)=false:=decide_eq_false (by omega);have h3:decide ((w.length:Int)<=8)=false:=decide_eq_false g2;simp only[fS,h2,h3,cx,jq]
    rw[<-e];exact hQ _ .refl
  ·rename_i g1;have e:fS w=false:=by have h1:decide (1<=w.length)=false:=decide_eq_false (by omega);simp only[fS,h1,cx,jq]
   rw[<-e];exact hQ _ .refl
end
noncomputable def nF (iT fN:Nat)(sw:D):Fn:=⟨3,3,[.iff (.or_ (.cmp .lt (.v 2) (.c (.int 1))) (.or_ (.not_ (.isi (.v 1) [.tuple])) (.or_ (.cmp .lt (.bi .len [(.v 1)]) (.c (.int 1))) (.not_ (.isi (.ix (.v 1) (.c (.int 0))) [.str]))))) [.ret (.c (.bl false))] [],.iff (.cmp .eq (.ix (.v 1) (.c (.int 0))) (.c (.str (W "lamp")))) [.ret (.and_ (.cmp .eq (.bi .len [(.v 1)]) (.c (.int 2))) (.and_ (.call iT [(.ix (.v 1) (.c (.int 1)))]) (.cmp .in_ (.ix (.v 1) (.c (.int 1))) (.v 0))))] [],.iff (.or_ (.cmp .lS (.ix (.v 1) (.c (.int 0))) (.c sw)) (.cmp .ne (.bi .len [(.v 1)]) (.bin .add (.c (.int 1)) (.ix (.c sw) (.ix (.v 1) (.c (.int 0))))))) [.ret (.c (.bl false))] [],.ret (.bi .all [(.comp 1 [0,2] [0] true none [(.sl (.v 1) [(.c (.int 1))] [])] [] (.call fN [(.v 1),(.v 0),(.bin .sub (.v 2) (.c (.int 1)))]))])]⟩
section
variable {G:Prog}{k iT fN:Nat}{Q:VK}{E:XK}
noncomputable def zY:List D:=[(.str (W "yes")),(.str (W "no")),(.str (W "not")),(.str (W "before")),(.str (W "once")),(.str (W "sofar")),(.str (W "and")),(.str (W "or")),(.str (W "then")),(.str (W "same")),(.str (W "since"))]
noncomputable def C5:List D:=[(.int 0),(.int 0),(.int 1),(.int 1),(.int 1),(.int 1),(.int 2),(.int 2),(.int 2),(.int 2),(.int 2)]
theorem kO {α:Type}:∀(ps:List α),boolsOf (ps.map fun _=>.bl true)=some (ps.map fun _=>true)|[]=>rfl|_::r=>by show(boolsOf (r.map fun _=>.bl true)).map (true :: ·)=_;rw[kO r];rfl
theorem yE (h:G.fns fN=some (nF iT fN (.dP zY C5))){nm:D}{w:List Nat}{ps:List D}{st:aB}{d:Int}(hd:1<=d)(hl:¬(w==W "lamp")=true)(hin:(zY.any fun x=>bT x (.str w))=true)(har:xP zY C5 (.str w)=some (.int ps.length))(hps:ps.length<=2) (hp:∀ x∈ps,∀(aA:aB)(Q':VK)(E':XK),Ext st aA->(∀ aV,Ext aA aV->Q' (.bl true) aV)->aH G k fN [nm,x,.int (d-1)] aA Q' E')(hQ:∀ aA,Ext st aA->Q (.bl true) aA):aH G (k+1) fN [nm,.tup (.str w::ps),.int d] st Q E:=by
 have hL:bE=16777216:=rfl;rw[aW h];simp only[nF,start];refine⟨rfl,?_⟩;lk;have n1:¬d<1:=by omega
 simp only[if_neg n1];have n2:¬((ps.length+1:Nat):Int)<1:=by omega
 simp only[bf,if_neg n2];k_ne;rw[aI];lk;rw[if_neg hl];rw[aI];lk;rw[hin];simp only[e8,ak,if_false];rw[har];show plainS st (.int (1+(ps.length:Int)))/\_;refine⟨⟨rfl,dt _⟩,?_⟩;have n3:¬(!bW st (.int ((ps.length+1:Nat):Int)) (.int (1+(ps.length:Int))))=true:=by have e:(((ps.length+1:Nat):Int)==1+(ps.length:Int))=true:=beq_iff_eq.mpr (by omega);simp only[bW,e,e8,ak,not_false_iff]
 rw[if_neg n3,aI];lk;refine comp_map (fun _=>.bl true) ps [] st (fun aA x a ha=>by cases ha) (fun x hx aA K x1 hK=>hp x hx aA _ _ x1 fun aV x2=>hK aV x2) (by simp only[az];omega) fun aA x1=>?_;rw[av];refine bS (by simp only[ab];omega) fun p aF x2 hp' nC=>?_;simp only[eR];rw[aE nC,kO];show Q (.bl (((ps.map fun _=>true).all id))) _;have e:(ps.map fun _=>true).all id=true:=by simp
 rw[e];exact hQ _ (x1.trans x2)
theorem IS {n:List Nat}(h:fS n=true):n.length<=8:=by simp only[fS,bc,decide_eq_true_eq]at h;exact h.1.2
theorem mZ (st:aB):∀(names:List (List Nat)),eF st (names.map D.str)|[]=>⟨rfl,dt _⟩|n::r=>⟨by simp only[bb,iP,iB,jm];exact(mZ st r).1,by simp only[bb,cX,cT];have:=(mZ st r).2;omega⟩
theorem WN (st:aB)(names:List (List Nat))(n:List Nat)(h:n∈names):((names.map D.str).any fun d=>bW st d (.str n))=true:=by rw[ku];exact List.any_eq_true.mpr ⟨n,h,by show(n==n)=true;simp⟩
theorem W4 (h:G.fns fN=some (nF iT fN (.dP zY C5)))(hn:G.fns iT=some (jC (.tup (gD.map .str)) (.str fI) (.int 8))){names:List (List Nat)}(jT:∀ n∈names,fS n=true){n:List Nat}(ho:n∈names){st:aB}{d:Int}(hd:1<=d)(hQ:∀ aA,Ext st aA->Q (.bl true) aA):aH G (k+1+1) fN [.tup (names.map .str),.tup [.str (W "lamp"),.str n],.int d] st Q E:=by
 have hL:bE=16777216:=rfl;rw[aW h];simp only[nF,start];refine⟨rfl,?_⟩;lk;have n1:¬d<1:=by omega
 simp only[if_neg n1];k_ne;have n2:¬((0+1+1:Nat):Int)<1:=by decide
 simp only[if_neg n2];k_ne;rw[aI];lk;have n3:(W "lamp" == W "lamp")=true:=by simp
 simp only[n3,if_true];lk;rw[if_pos (by decide)];refine E4 (w:=n) hn (by have:=IS (jT n ho);omega) fun aA x1=>?_;rw[jT n ho];show eF aA (names.map .str)/\Q (.bl ((names.map D.str).any fun d=>bW aA d (.str n))) aA;refine⟨mZ aA names,?_⟩;rw[WN aA names n ho];exact hQ _ x1
theorem BJ (h:G.fns fN=some (nF iT fN (.dP zY C5)))(hn:G.fns iT=some (jC (.tup (gD.map .str)) (.str fI) (.int 8))){names:List (List Nat)}(jT:∀ n∈names,fS n=true): ∀(s:Sy){k:Nat}{st:aB}{Q:VK}{E:XK}{d:Int},over names s->(aQ s:Int)<=d->(∀ aA,Ext st aA->Q (.bl true) aA)->aH G (k+aQ s+1) fN [.tup (names.map .str),toD s,.int d] st Q E
 |.yes,k,st,Q,E,d,ho,hd,hQ=>by simp only[aQ]at hd;exact yE h (by omega) (by decide) (by decide) rfl (by decide) (fun x hx=>by cases hx) hQ|.no,k,st,Q,E,d,ho,hd,hQ=>by simp only[aQ]at hd;exact yE h (by omega) (by decide) (by decide) rfl (by decide) (fun x hx=>by cases hx) hQ|.cU n,k,st,Q,E,d,ho,hd,hQ=>by simp only[aQ]at hd ⊢;exact W4 h hn jT ho (by omega) hQ|.one w s,k,st,Q,E,d,ho,hd,hQ=>by simp only[aQ]at hd ⊢;refine yE (ps:=[toD s]) h (by omega) (by cases w<;>decide) (by cases w<;>decide) (by cases w<;>rfl) (by simp) (fun x hx aA Q' E' x1 hQ'=>?_) hQ;simp only[ah]at hx;subst hx;have:=BJ h hn jT s (k:=k) (st:=aA) (Q:=Q') (E:=E') (d:=d-1) ho (by omega) hQ';exact this|.two w s t,k,st,Q,E,d,ho,hd,hQ=>by
  simp only[aQ]at hd ⊢;refine yE (ps:=[toD s,toD t]) h (by omega) (by cases w<;>decide) (by cases w<;>decide) (by cases w<;>rfl) (by simp) (fun x hx aA Q' E' x1 hQ'=>?_) hQ;have l1:=w8 (aQ s) (aQ t);have l2:=v7 (aQ s) (aQ t);simp only[bw,bj,or_false]at hx;rcases hx with rfl|rfl
  ·have:=BJ h hn jT s (k:=k+(max (aQ s) (aQ t)-aQ s)) (st:=aA) (Q:=Q') (E:=E') (d:=d-1) ho.1 (by omega) hQ';have e:k+(max (aQ s) (aQ t)-aQ s)+aQ s+1=k+(max (aQ s) (aQ t)+1):=by omega
   rw[e]at this;exact this
  ·have:=BJ h hn jT t (k:=k+(max (aQ s) (aQ t)-aQ t)) (st:=aA) (Q:=Q') (E:=E') (d:=d-1) ho.2 (by omega) hQ';have e:k+(max (aQ s) (aQ t)-aQ t)+aQ t+1=k+(max (aQ s) (aQ t)+1):=by omega
   rw[e]at this;exact this
end
noncomputable def lV:Fn:=⟨3,3,[.ret (.and_ (.isi (.v 0) [.tuple]) (.chain .le .le (.v 1) (.bi .len [(.v 0)]) (.v 2)))]⟩
noncomputable def FD (ir iT:Nat)(ml:D):Fn:=⟨2,3,[.iff (.or_ (.not_ (.call ir [(.v 0),(.c (.int 1)),(.c ml)])) (.not_ (.call ir [(.v 1),(.c (.int 1)),(.c ml)]))) [.ret (.c (.bl false))] [],.asg (.nm 2) (.bin .add (.v 0) (.v 1)),.ret (.and_ (.bi .all [(.comp 1 [] [0] true none [(.v 2)] [] (.call iT [(.v 0)]))]) (.cmp .eq (.bi .wY [(.v 2)]) (.bi .len [(.v 2)])))]⟩
section
variable {G:Prog}{k ir iT il:Nat}{st:aB}{Q:VK}{E:XK}
theorem oA (h:G.fns ir=some lV){ds:List D}{lo hi:Int}(hQ:Q (.bl (decide (lo<=(ds.length:Int))&&decide ((ds.length:Int)<=hi))) st):aH G (k+1) ir [.tup ds,.int lo,.int hi] st Q E:=by
 rw[aW h];simp only[lV,start];refine⟨rfl,?_⟩;lk;by_cases c:lo<=(ds.length:Int);·rw[if_pos c];rw[decide_eq_true c,jm]at hQ;exact hQ
 ·rw[if_neg c];rw[decide_eq_false c,jq]at hQ;exact hQ
theorem IE:∀(ws seen:List (List Nat)),(seen++ws).Nodup->AF seen ws=ws.length
 |[],_,_=>rfl|w::r,seen,h=>by
  have e:seen.any (·== w)=false:=by
   rw[mj];intro x hx z;have:x=w:=by simpa using z
   subst this;rw[qa]at h;exact h.2.2 x hx x (by simp) rfl
  show(if seen.any (·== w)=true then 0 else 1)+AF (seen++[w]) r=_;rw[e,IE r (seen++[w]) (by simpa using h)];simp only[ak,if_false,bf];omega
theorem FI:∀(ws:List (List Nat)),strsOf (ws.map .str)=some ws|[]=>rfl|w::r=>by show(strsOf (r.map .str)).map (w :: ·)=_;rw[FI r];rfl
theorem Al (h:G.fns il=some (FD ir iT (.int 2)))(hr:G.fns ir=some lV)(hn:G.fns iT=some (jC (.tup (gD.map .str)) (.str fI) (.int 8))){fs gs:List (List Nat)}(h1:1<=fs.length)(h2:fs.length<=2)(h3:1<=gs.length)(h4:gs.length<=2)(h5:(fs++gs).Nodup)(h6:∀ n∈fs++gs,fS n=true) (hQ:∀ aA,Ext st aA->Q (.bl true) aA):aH G (k+2) il [.tup (fs.map .str),.tup (gs.map .str)] st Q E:=by
 have hL:bE=16777216:=rfl;rw[aW h];simp only[FD,start];refine⟨rfl,?_⟩;lk;refine oA hr ?_;have e1:(decide ((1:Int)<=((fs.map D.str).length:Int))&&decide (((fs.map D.str).length:Int)<=2))=true:=by simp only[ab,bc,decide_eq_true_eq];omega
 rw[e1];k_ne;refine oA hr ?_;have e2:(decide ((1:Int)<=((gs.map D.str).length:Int))&&decide (((gs.map D.str).length:Int)<=2))=true:=by simp only[ab,bc,decide_eq_true_eq];omega
 rw[e2];k_ne;rw[aI];lk;refine⟨by simp only[ab];omega,?_⟩;rw[<-dw];lk;refine comp_map (fun _=>.bl true) _ [] st (fun aA x a ha=>by cases ha) (fun x hx aA K x1 hK=>?_) (by simp only[ab,bq,az];omega) fun aA x1=>?_;·obtain⟨n,hn',rfl⟩:=List.mem_map.mp hx;refine E4 (w:=n) hn (by have:=IS (h6 n hn');omega) fun aV x2=>?_;rw[h6 n hn'];exact hK aV x2
 ·rw[av];refine bS (by simp only[ab,bq];omega) fun p aF x2 hp' nC=>?_;simp only[eR];rw[aE nC,kO];rw[bB,FI,bB];have e3:(qv (fun _=>true) ((fs++gs).map D.str)).all id=true:=by simp
  rw[if_pos e3];refine⟨by simp only[bq];omega,?_⟩;have e4:(((AF [] (fs++gs):Nat):Int)==((((fs++gs).map D.str).length:Nat):Int))=true:=by rw[IE (fs++gs) [] (by simpa using h5),ab];simp
  rw[e4];exact hQ _ (x1.trans x2)
end
noncomputable def qU (fN:Nat)(dp:D):Fn:=⟨2,2,[.ret (.call fN [(.v 0),(.v 1),(.c dp)])]⟩
noncomputable def vP (ir iy:Nat):Fn:=⟨3,3,[.ret (.and_ (.call ir [(.v 1),(.c (.int 0)),(.v 2)]) (.bi .all [(.comp 1 [0] [0] true none [(.v 1)] [] (.call iy [(.v 1),(.v 0)]))]))]⟩
noncomputable def pM (hp:D):Fn:=⟨1,1,[.ret (.and_ (.isi (.v 0) [.int]) (.and_ (.not_ (.isi (.v 0) [.bool])) (.chain .le .le (.c (.int 1)) (.v 0) (.c hp))))]⟩
noncomputable def vU (ir ip iy:Nat):Fn:=⟨2,2,[.ret (.and_ (.call ir [(.v 1),(.c (.int 2)),(.c (.int 2))]) (.and_ (.call ip [(.ix (.v 1) (.c (.int 0)))]) (.call iy [(.v 0),(.ix (.v 1) (.c (.int 1)))])))]⟩
noncomputable def xZ (ir iw:Nat)(mw:D):Fn:=⟨2,2,[.ret (.and_ (.call ir [(.v 1),(.c (.int 1)),(.c mw)]) (.bi .all [(.comp 1 [0] [0] true none [(.v 1)] [] (.call iw [(.v 1),(.v 0)]))]))]⟩
section
variable {G:Prog}{k ir iT fN iy ip iw ia:Nat}{st:aB}{Q:VK}{E:XK}{names:List (List Nat)}
theorem JX (hy:G.fns iy=some (qU fN (.int 8)))(h:G.fns fN=some (nF iT fN (.dP zY C5)))(hn:G.fns iT=some (jC (.tup (gD.map .str)) (.str fI) (.int 8)))(jT:∀ n∈names,fS n=true){s:Sy}(ho:over names s)(hd:aQ s<=8)(hQ:∀ aA,Ext st aA->Q (.bl true) aA):aH G (k+10) iy [.tup (names.map .str),toD s] st Q E:=by
 rw[aW hy];simp only[qU,start];refine⟨rfl,?_⟩;lk;have:=BJ h hn jT s (k:=k+(8-aQ s)) (st:=st) (Q:=Q) (E:=E) (d:=8) ho (by omega) hQ;have e:k+(8-aQ s)+aQ s+1=k+9:=by omega
 rw[e]at this;exact this
theorem FH (ha:G.fns ia=some (vP ir iy))(hr:G.fns ir=some lV)(hy:G.fns iy=some (qU fN (.int 8)))(h:G.fns fN=some (nF iT fN (.dP zY C5)))(hn:G.fns iT=some (jC (.tup (gD.map .str)) (.str fI) (.int 8)))(jT:∀ n∈names,fS n=true){ss:List Sy}{m:Int} (ho:∀ s∈ss,over names s/\aQ s<=8)(hl:(ss.length:Int)<=m)(hl2:ss.length<=1000)(hQ:∀ aA,Ext st aA->Q (.bl true) aA):aH G (k+11) ia [.tup (names.map .str),.tup (ss.map toD),.int m] st Q E:=by
 have hL:bE=16777216:=rfl;rw[aW ha];simp only[vP,start];refine⟨rfl,?_⟩;lk;refine oA hr ?_;have e1:(decide ((0:Int)<=((ss.map toD).length:Int))&&decide (((ss.map toD).length:Int)<=m))=true:=by simp only[ab,bc,decide_eq_true_eq];omega
 rw[e1];k_ne;refine comp_map (fun _=>.bl true) _ [] st (fun aA x a ha=>by cases ha) (fun x hx aA K x1 hK=>?_) (by simp only[ab,az];omega) fun aA x1=>?_;·obtain⟨s,hs,rfl⟩:=List.mem_map.mp hx;exact JX hy h hn jT (ho s hs).1 (ho s hs).2 fun aV x2=>hK aV x2
 ·rw[av];refine bS (by simp only[ab];omega) fun p aF x2 hp' nC=>?_;simp only[eR];rw[aE nC,kO,bB];have e3:(qv (fun _=>true) (ss.map toD)).all id=true:=by simp
  rw[e3];exact hQ _ (x1.trans x2)
theorem O6 (h:G.fns ip=some (pM (.int 99))){p:Int}(h1:1<=p)(h2:p<=99)(hQ:Q (.bl true) st):aH G (k+1) ip [.int p] st Q E:=by rw[aW h];simp only[pM,start];refine⟨rfl,?_⟩;lk;rw[if_pos h1,decide_eq_true h2];exact hQ
theorem SA (hw:G.fns iw=some (vU ir ip iy))(hr:G.fns ir=some lV)(hp:G.fns ip=some (pM (.int 99)))(hy:G.fns iy=some (qU fN (.int 8)))(h:G.fns fN=some (nF iT fN (.dP zY C5)))(hn:G.fns iT=some (jC (.tup (gD.map .str)) (.str fI) (.int 8)))(jT:∀ n∈names,fS n=true){s:Sy}{p:Int}(h1:1<=p)(h2:p<=99)(ho:over names s)(hd:aQ s<=8)(hQ:∀ aA,Ext st aA->Q (.bl true) aA):aH G (k+11) iw [.tup (names.map .str),.tup [.int p,toD s]] st Q E:=by rw[aW hw];simp only[vU,start];refine⟨rfl,?_⟩;lk;refine oA hr ?_;have e1:(decide ((2:Int)<=(([.int p,toD s]:List D).length:Int))&&decide ((([.int p,toD s]:List D).length:Int)<=2))=true:=rfl;rw[e1];k_ne;refine O6 hp h1 h2 ?_;k_ne;exact JX hy h hn jT ho hd fun aV x2=>hQ aV x2
end
noncomputable def uF (ih ib:Nat):Fn:=⟨2,2,[.iff (.cmp .eq (.ix (.v 1) (.c (.int 0))) (.c (.str (W "before")))) [.ret (.c (.bl false))] [],.iff (.cmp .eq (.ix (.v 1) (.c (.int 0))) (.c (.str (W "lamp")))) [.ret (.cmp .in_ (.ix (.v 1) (.c (.int 1))) (.v 0))] [],.ret (.bi .any [(.comp 1 [0] [0] true none [(.call ih [(.v 1)])] [] (.call ib [(.v 1),(.v 0)]))])]⟩
noncomputable def eS (gs:List (List Nat)):Sy->Bool|.cU n=>gs.any (·== n)|.one .before _=>false|.one _ s=>eS gs s|.two _ s t=>eS gs s||eS gs t|_=>false
section
variable {G:Prog}{k ih ib ir iT fN iy ip iw ia:Nat}{st:aB}{Q:VK}{E:XK}{names:List (List Nat)}
theorem PJ (ha:G.fns ia=some (xZ ir iw (.int 5)))(hw:G.fns iw=some (vU ir ip iy))(hr:G.fns ir=some lV)(hp:G.fns ip=some (pM (.int 99)))(hy:G.fns iy=some (qU fN (.int 8)))(h:G.fns fN=some (nF iT fN (.dP zY C5)))(hn:G.fns iT=some (jC (.tup (gD.map .str)) (.str fI) (.int 8)))(jT:∀ n∈names,fS n=true){ws:List (Int×Sy)} (ho:∀ w∈ws,1<=w.1/\w.1<=99/\over names w.2/\aQ w.2<=8)(h1:1<=ws.length)(h2:ws.length<=5)(hQ:∀ aA,Ext st aA->Q (.bl true) aA):aH G (k+12) ia [.tup (names.map .str),.tup (ws.map fun w=>.tup [.int w.1,toD w.2])] st Q E:=by
 have hL:bE=16777216:=rfl;rw[aW ha];simp only[xZ,start];refine⟨rfl,?_⟩;lk;refine oA hr ?_;have e1:(decide ((1:Int)<=((ws.map fun w=>D.tup [.int w.1,toD w.2]).length:Int))&&decide (((ws.map fun w=>D.tup [.int w.1,toD w.2]).length:Int)<=5))=true:=by simp only[ab,bc,decide_eq_true_eq];omega
 rw[e1];k_ne;refine comp_map (fun _=>.bl true) _ [] st (fun aA x a ha=>by cases ha) (fun x hx aA K x1 hK=>?_) (by simp only[ab,az];omega) fun aA x1=>?_;·obtain⟨s,hs,rfl⟩:=List.mem_map.mp hx;obtain⟨o1,o2,o3,o4⟩:=ho s hs;exact SA hw hr hp hy h hn jT o1 o2 o3 o4 fun aV x2=>hK aV x2
 ·rw[av];refine bS (by simp only[ab];omega) fun p aF x2 hp' nC=>?_;simp only[eR];rw[aE nC,kO,bB];have e3:(qv (fun _=>true) (ws.map fun w=>D.tup [.int w.1,toD w.2])).all id=true:=by simp
  rw[e3];exact hQ _ (x1.trans x2)
end
theorem dX {α:Type}{g:aB->Prop}{turn:D->aB->(Option D->aB->Prop)->Prop}{R:List D->aB->Prop}(t f:α->D):∀(xs:List α)(acc:List D)(st:aB),(∀ aA,Ext st aA->g aA)->(∀ x∈xs,∀ aA (K:Option D->aB->Prop),Ext st aA->(∀ aV,Ext aA aV->K (some (f x)) aV)->turn (t x) aA K) ->acc.length+xs.length<=bE->(∀ aA,Ext st aA->R (acc++xs.map f) aA)->kM g turn (xs.map t) acc st R|[],acc,st,hg,_,_,hR=>⟨hg st .refl,by simpa using hR st .refl⟩|x::xs,acc,st,hg,ht,hl,hR=>by simp only[bf]at hl;refine⟨hg st .refl,by omega,ht x (by simp) st _ .refl fun aV h''=>?_⟩;exact dX t f xs (acc++[f x]) aV (fun aA h=>hg aA (h''.trans h)) (fun y hy aA K h=>ht y (by simp [hy]) aA K (h''.trans h)) (by simp only[bq,bf,az];omega) fun aA h=>by simpa using hR aA (h''.trans h)
theorem pI {α:Type}(b:α->Bool):∀(ps:List α),boolsOf (ps.map fun x=>.bl (b x))=some (ps.map b)|[]=>rfl|x::r=>by show(boolsOf (r.map fun x=>.bl (b x))).map (b x :: ·)=_;rw[pI b r];rfl
section
variable {G:Prog}{k ih ib:Nat}{Q:VK}{E:XK}{gs:List (List Nat)}
theorem yV (h:G.fns ib=some (uF ih ib))(hh:G.fns ih=some gE){s:Sy}{st:aB}(h1:¬(wd s==W "before")=true)(h2:fV s=false)(h3:¬(wd s==W "lamp")=true)(h4:(subs s).length<=2)(hp:∀ x∈subs s,∀(aA:aB)(Q':VK)(E':XK),Ext st aA->(∀ aV,Ext aA aV->Q' (.bl (eS gs x)) aV)->aH G (k+1) ib [.tup (gs.map .str),toD x] aA Q' E')(hQ:∀ aA,Ext st aA->Q (.bl ((subs s).any (eS gs))) aA):aH G (k+2) ib [.tup (gs.map .str),toD s] st Q E:=by have hL:bE=16777216:=rfl;rw[aW h];simp only[uF,start];refine⟨rfl,?_⟩;obtain⟨r,er⟩:=qW s;rw[er];lk;rw[if_neg h1,aI];lk;rw[if_neg h3,aI];lk;rw[<-er];refine uJ hh ?_;k_ne;refine dX toD (fun x=>.bl (eS gs x)) _ [] st (fun aA x a ha=>by cases ha) (fun x hx aA K x1 hK=>hp x hx aA _ _ x1 fun aV x2=>hK aV x2) (by simp only[az];omega) fun aA x1=>?_;rw[av];refine bS (by simp only[ab];omega) fun p aF x2 hp' nC=>?_;simp only[eR];rw[aE nC,pI,bB,ku];exact hQ _ (x1.trans x2)
theorem CJ (h:G.fns ib=some (uF ih ib))(hh:G.fns ih=some gE):∀(s:Sy){k:Nat}{st:aB}{Q:VK}{E:XK},(∀ aA,Ext st aA->Q (.bl (eS gs s)) aA)->aH G (k+aQ s+1) ib [.tup (gs.map .str),toD s] st Q E
 |.yes,k,st,Q,E,hQ=>yV (k:=k) h hh (by decide) rfl (by decide) (by decide) (fun x hx=>by cases hx) hQ|.no,k,st,Q,E,hQ=>yV (k:=k) h hh (by decide) rfl (by decide) (by decide) (fun x hx=>by cases hx) hQ|.cU n,k,st,Q,E,hQ=>by
  rw[aW h];simp only[uF,start,toD];refine⟨rfl,?_⟩;lk;have n1:¬(W "lamp" == W "before")=true:=by decide
  rw[if_neg n1,aI];lk;have n3:(W "lamp" == W "lamp")=true:=by decide
  rw[if_pos n3];lk;refine⟨mZ st gs,?_⟩;have e:((gs.map D.str).any fun d=>bW st d (.str n))=eS gs (.cU n):=by rw[ku];rfl
  rw[e];exact hQ _ .refl|.one w s,k,st,Q,E,hQ=>by
  by_cases hw:w=.before
  ·subst hw;rw[aW h];simp only[uF,start,toD,c1];refine⟨rfl,?_⟩;lk;have n1:(W "before" == W "before")=true:=by decide
   rw[if_pos n1];lk;exact hQ _ .refl
  ·have e0:k+aQ (.one w s)+1=(k+aQ s)+2:=by simp only[aQ];omega
   rw[e0];refine yV h hh (show ¬(c1 w==W "before")=true by cases w<;>first|decide|exact absurd rfl hw) rfl (show ¬(c1 w==W "lamp")=true by cases w<;>decide) (by simp [subs]) (fun x hx aA Q' E' x1 hQ'=>?_) (fun aA x1=>?_);·simp only[subs,bw,bj,or_false]at hx;rw[hx]at hQ' ⊢;exact CJ h hh s (k:=k) (st:=aA) (Q:=Q') (E:=E') hQ'
   ·have e1:(subs (.one w s)).any (eS gs)=eS gs (.one w s):=by cases w<;>first|exact absurd rfl hw|simp [subs,eS]
    rw[e1];exact hQ aA x1|.two w s t,k,st,Q,E,hQ=>by
  have l1:=w8 (aQ s) (aQ t);have l2:=v7 (aQ s) (aQ t);have e0:k+aQ (.two w s t)+1=(k+max (aQ s) (aQ t))+2:=by simp only[aQ];omega
  rw[e0];refine yV h hh (show ¬(c2 w==W "before")=true by cases w<;>decide) rfl (show ¬(c2 w==W "lamp")=true by cases w<;>decide) (by simp [subs]) (fun x hx aA Q' E' x1 hQ'=>?_) (fun aA x1=>by simpa [subs,eS]using hQ aA x1);simp only[subs,bw,bj,or_false]at hx;rcases hx with hx|hx
  ·rw[hx]at hQ' ⊢;have:=CJ h hh s (k:=k+(max (aQ s) (aQ t)-aQ s)) (st:=aA) (Q:=Q') (E:=E') hQ';have e:k+(max (aQ s) (aQ t)-aQ s)+aQ s+1=k+max (aQ s) (aQ t)+1:=by omega
   rw[e]at this;exact this
  ·rw[hx]at hQ' ⊢;have:=CJ h hh t (k:=k+(max (aQ s) (aQ t)-aQ t)) (st:=aA) (Q:=Q') (E:=E') hQ';have e:k+(max (aQ s) (aQ t)-aQ t)+aQ t+1=k+max (aQ s) (aQ t)+1:=by omega
   rw[e]at this;exact this
end
noncomputable def CF (ia ib:Nat)(mp:D):Fn:=⟨3,3,[.ret (.and_ (.call ia [(.v 0),(.v 2),(.c mp)]) (.not_ (.bi .any [(.comp 1 [1] [0] true none [(.v 2)] [] (.call ib [(.v 1),(.v 0)]))])))]⟩
noncomputable def oJ:Fn:=⟨3,3,[.ret (.bin .add (.bin .add (.bi .list [(.v 0)]) (.bi .list [(.v 1)])) (.comp 1 [] [0] true none [(.v 2)] [] (.ix (.v 0) (.c (.int 1)))))]⟩
section
variable {G:Prog}{k ih ib ir iT fN iy ia iap io:Nat}{st:aB}{Q:VK}{E:XK}{names gs:List (List Nat)}
theorem R4 (hp:G.fns iap=some (CF ia ib (.int 3)))(hb:G.fns ib=some (uF ih ib))(hh:G.fns ih=some gE)(ha:G.fns ia=some (vP ir iy))(hr:G.fns ir=some lV)(hy:G.fns iy=some (qU fN (.int 8)))(h:G.fns fN=some (nF iT fN (.dP zY C5)))(hn:G.fns iT=some (jC (.tup (gD.map .str)) (.str fI) (.int 8)))(jT:∀ n∈names,fS n=true){ss:List Sy} (ho:∀ s∈ss,over names s/\aQ s<=8)(hl:ss.length<=3)(hbare:∀ s∈ss,eS gs s=false)(hQ:∀ aA,Ext st aA->Q (.bl true) aA):aH G (k+12) iap [.tup (names.map .str),.tup (gs.map .str),.tup (ss.map toD)] st Q E:=by
 have hL:bE=16777216:=rfl;rw[aW hp];simp only[CF,start];refine⟨rfl,?_⟩;lk;refine FH ha hr hy h hn jT ho (by omega) (by omega) fun aC y1=>?_;k_ne;refine dX toD (fun _=>.bl false) _ [] aC (fun aA x a ha=>by cases ha) (fun x hx aA K x1 hK=>?_) (by simp only[az];omega) fun aA x1=>?_
 ·have e:k+11=(k+10-aQ x)+aQ x+1:=by have:=(ho x hx).2;omega
  rw[e];refine CJ hb hh x fun aV x2=>?_;rw[hbare x hx];exact hK aV x2
 ·rw[av];refine bS (by simp only[ab];omega) fun p aF x2 hp' nC=>?_;simp only[eR];rw[aE nC,pI (fun _=>false),bB];have e3:(ss.map fun _=>false).any id=false:=by simp
  rw[e3];exact hQ _ ((y1.trans x1).trans x2)
theorem KS (h:G.fns io=some oJ){ps ms:List Sy}{ws:List (Int×Sy)}(h1:ps.length<=1000)(h2:ms.length<=1000)(h3:ws.length<=1000)(hQ:∀ p aA,Ext st aA->aA p=some (.lst ((ps++ms++ws.map (·.2)).map toD))->Q (.ref p) aA):aH G (k+1) io [.tup (ps.map toD),.tup (ms.map toD),.tup (ws.map fun w=>.tup [.int w.1,toD w.2])] st Q E:=by have hL:bE=16777216:=rfl;rw[aW h];simp only[oJ,start];refine⟨rfl,?_⟩;lk;refine bS (by simp only[ab];omega) fun p aC x1 hp hp1=>?_;k_ne;refine bS (by simp only[ab];omega) fun q aF x2 hq hq2=>?_;k_ne;rw[aE (x2 _ _ hp1),aE hq2];refine bS (by simp only[ab,bq];omega) fun r aX x3 hr hr3=>?_;refine dX (fun w:Int×Sy=>D.tup [.int w.1,toD w.2]) (fun w=>toD w.2) _ [] aX (fun aA x a ha=>by cases ha) (fun x hx aA K y1 hK=>hK aA .refl) (by simp only[az];omega) fun cG x4=>?_;rw[av];refine bS (by simp only[ab];omega) fun u cW x5 hu hu5=>?_;show cO cW r fun xs=>cO cW u fun ys=>iK (xs++ys) cW Q;rw[aE (x5 _ _ (x4 _ _ hr3)),aE hu5];refine bS (by simp only[ab,bq];omega) fun v fM x6 hv hv6=>?_;refine hQ v fM (((((x1.trans x2).trans x3).trans x4).trans x5).trans x6) ?_;rw[hv6];simp only[dw,md];rfl
end
noncomputable def CA (ir il iap ia iaw ipi io:Nat)(mm mp:D):Fn:=⟨1,6,[.iff (.or_ (.not_ (.call ir [(.v 0),(.c (.int 5)),(.c (.int 5))])) (.not_ (.call il [(.ix (.v 0) (.c (.int 0))),(.ix (.v 0) (.c (.int 1)))]))) [.ret (.c (.bl false))] [],.asg (.nm 1) (.ix (.v 0) (.c (.int 1))),.asg (.nm 2) (.bin .add (.ix (.v 0) (.c (.int 0))) (.v 1)),.asg (.nm 3) (.ix (.v 0) (.c (.int 2))),.asg (.nm 4) (.ix (.v 0) (.c (.int 3))),.asg (.nm 5) (.ix (.v 0) (.c (.int 4))),.iff (.or_ (.not_ (.call iap [(.v 2),(.v 1),(.v 3)])) (.not_ (.call ia [(.v 2),(.v 4),(.c mm)]))) [.ret (.c (.bl false))] [],.ret (.and_ (.call iaw [(.v 2),(.v 5)]) (.cmp .le (.bi .len [(.call ipi [(.call io [(.v 3),(.v 4),(.v 5)])])]) (.c mp)))]⟩
structure Bk where
 fs:List (List Nat)gs:List (List Nat)ps:List Sy
 ms:List Sy
 ws:List (Int×Sy)
noncomputable def Bk.d (b:Bk):D:=.tup [.tup (b.fs.map .str),.tup (b.gs.map .str),.tup (b.ps.map toD),.tup (b.ms.map toD),.tup (b.ws.map fun w=>.tup [.int w.1,toD w.2])]
noncomputable def Bk.names (b:Bk):List (List Nat):=b.fs++b.gs
noncomputable def Bk.says (b:Bk):List Sy:=b.ps++b.ms++b.ws.map (·.2)
structure Bk.Ok (b:Bk):Prop where
 f1:1<=b.fs.length
 f2:b.fs.length<=2
 g1:1<=b.gs.length
 g2:b.gs.length<=2
 nd:b.names.Nodup
 nm:∀ n∈b.names,fS n=true
 p1:b.ps.length<=3
 p2:∀ s∈b.ps,over b.names s/\aQ s<=8
 p3:∀ s∈b.ps,eS b.gs s=false
 m1:b.ms.length<=3
 m2:∀ s∈b.ms,over b.names s/\aQ s<=8
 w1:1<=b.ws.length
 w2:b.ws.length<=5
 w3:∀ w∈b.ws,1<=w.1/\w.1<=99/\over b.names w.2/\aQ w.2<=8
section
variable {G:Prog}{k ih ib ir iT fN iy ia iap io il iaw ipi ip iw ibk:Nat}{st:aB}{Q:VK}{E:XK}
theorem PR (h:G.fns ir=some lV){ds:List D}{lo hi:Int}(h1:lo<=(ds.length:Int))(h2:(ds.length:Int)<=hi)(hQ:Q (.bl true) st):aH G (k+1) ir [.tup ds,.int lo,.int hi] st Q E :=oA h (by rw[decide_eq_true h1,decide_eq_true h2];exact hQ)
end
section
variable {G:Prog}{k ir il iap ia iaw ipi io ibk:Nat}{Q:VK}{E:XK}
theorem PF (hbk:G.fns ibk=some (CA ir il iap ia iaw ipi io (.int 3) (.int 4)))(hr:G.fns ir=some lV){F J P M V N:D}{st:aB}{Φ:Nat->aB->Prop}(h1:∀(st:aB)(Q:VK)(E:XK),(∀ aA,Ext st aA->Q (.bl true) aA)->aH G (k+12) il [F,J] st Q E)(h2:∀(st:aB)(Q:VK),Q N st->iY .add F J st Q)(h3:∀(st:aB)(Q:VK)(E:XK),(∀ aA,Ext st aA->Q (.bl true) aA)->aH G (k+12) iap [N,J,P] st Q E)(h4:∀(st:aB)(Q:VK)(E:XK),(∀ aA,Ext st aA->Q (.bl true) aA)->aH G (k+12) ia [N,M,.int 3] st Q E)(h5:∀(st:aB)(Q:VK)(E:XK),(∀ aA,Ext st aA->Q (.bl true) aA)->aH G (k+12) iaw [N,V] st Q E)(h6:∀(st:aB)(Q:VK)(E:XK),(∀ l aA,Ext st aA->Φ l aA->Q (.ref l) aA)->aH G (k+12) io [P,M,V] st Q E)(h7:∀(l:Nat)(st:aB)(Q:VK)(E:XK),Φ l st->(∀ p aA (xs:List D),Ext st aA->xs.length<=4->aA p=some (.lst xs)->Q (.ref p) aA)->aH G (k+12) ipi [.ref l] st Q E)(hQ:∀ aA,Ext st aA->Q (.bl true) aA):aH G (k+13) ibk [.tup [F,J,P,M,V]] st Q E:=by
 rw[aW hbk];simp only[CA,start];refine⟨rfl,?_⟩;lk;refine PR hr (AaT 5) (AaT 5) ?_;k_ne;refine h1 _ _ _ fun aC x1=>?_;k_ne;rw[aI];try dsimp only
 refine fT ?_;rw[wH,DN,KI];simp only[↓HC,↓M4];rw[mX,show gP [F,J,P,M,V] 1=some J from rfl,bB,CD];simp only[ey,dy];refine fT ?_;rw[wH,TR,DN,KI];simp only[↓HC,↓M4];rw[mX,show gP [F,J,P,M,V] 0=some F from rfl,bB,KI];simp only[ey,dy,↓Ho];refine h2 _ _ ?_;rw[CD];simp only[ey,dy];refine fT ?_;rw[wH,DN,KI];simp only[ey,dy,↓HC,↓M4];rw[mX,show gP [F,J,P,M,V] 2=some P from rfl,bB,CD];simp only[ey,dy];refine fT ?_;rw[wH,DN,KI];simp only[ey,dy,↓HC,↓M4];rw[mX,show gP [F,J,P,M,V] 3=some M from rfl,bB,CD];simp only[ey,dy];refine fT ?_;rw[wH,DN,KI];simp only[ey,dy,↓HC,↓M4];rw[mX,show gP [F,J,P,M,V] 4=some V from rfl,bB,CD];simp only[ey,dy];lk;refine h3 _ _ _ fun aF x2=>?_;k_ne;refine h4 _ _ _ fun aX x3=>?_;k_ne;rw[aI];lk;refine h5 _ _ _ fun cG x4=>?_;k_ne;refine h6 _ _ _ fun l cW x5 hl=>?_;k_ne;refine h7 _ _ _ _ hl fun p fM xs x6 hx hp=>?_;k_ne;unfold eQ;rw[hp];show Q (.bl (decide ((xs.length:Int)<=4))) fM;rw[decide_eq_true (show(xs.length:Int)<=4 by omega)];exact hQ _ (((((x1.trans x2).trans x3).trans x4).trans x5).trans x6)
end
section
variable {G:Prog}{k ih ib ir iT fN iy ia iap io il iaw ipi ip iw ibk:Nat}{st:aB}{Q:VK}{E:XK}
theorem TU (hbk:G.fns ibk=some (CA ir il iap ia iaw ipi io (.int 3) (.int 4)))(hla:G.fns il=some (FD ir iT (.int 2)))(hap:G.fns iap=some (CF ia ib (.int 3)))(hb:G.fns ib=some (uF ih ib))(hh:G.fns ih=some gE)(ha:G.fns ia=some (vP ir iy))(hr:G.fns ir=some lV)(hy:G.fns iy=some (qU fN (.int 8)))(h:G.fns fN=some (nF iT fN (.dP zY C5)))(hn:G.fns iT=some (jC (.tup (gD.map .str)) (.str fI) (.int 8)))(haw:G.fns iaw=some (xZ ir iw (.int 5)))(hw:G.fns iw=some (vU ir ip iy))(hp:G.fns ip=some (pM (.int 99)))(ho:G.fns io=some oJ)(hpi:G.fns ipi=some (jF ih)){b:Bk}(B:b.Ok)(hs:fW b.says<bE)(hd:∀ x∈b.says,aQ x<=60)(hc:(cZ b.says []).length<=4)(hQ:∀ aA,Ext st aA->Q (.bl true) aA):aH G (k+13) ibk [b.d] st Q E:=by have hL:bE=16777216:=rfl;have f2:=B.f2;have g2:=B.g2;have p1:=B.p1;have m1:=B.m1;have w2:=B.w2;refine PF hbk hr (N:=.tup (b.names.map .str)) (Φ:=fun l st=>st l=some (.lst (b.says.map toD))) (fun st Q E q=>Al (k:=k+10) hla hr hn B.f1 B.f2 B.g1 B.g2 B.nd B.nm q) (fun st Q q=>?_) (fun st Q E q=>R4 (k:=k) hap hb hh ha hr hy h hn B.nm B.p2 B.p1 B.p3 q) (fun st Q E q=>FH (k:=k+1) ha hr hy h hn B.nm B.m2 (by omega) (by omega) q) (fun st Q E q=>PJ (k:=k) haw hw hr hp hy h hn B.nm B.w3 B.w1 B.w2 q) (fun st Q E q=>KS (k:=k+11) ho (by omega) (by omega) (by omega) fun p aA x e=>q p aA x e) (fun l st Q E e q=>AL (k:=k+10) hpi hh e hd hs fun p aA x e'=>q p aA _ x (by simpa using hc) e') hQ;show _/\Q _ st;refine⟨by simp only[ab];omega,?_⟩;rw[<-dw];exact q
end
end L3
end
section
namespace L3
noncomputable def sG (f g:Nat->Bool):Nat->Bool|0=>g 0|t+1=>g (t+1)||(f (t+1)&&sG f g t)
noncomputable def K8 (names:List (List Nat))(bD:List (List Bool))(n:List Nat)(t:Nat):Bool:=(((bD[t]?).getD [])[names.idxOf n]?).getD false
noncomputable def hv (names:List (List Nat))(bD:List (List Bool)):Sy->Nat->Bool|.yes,_=>true|.no,_=>false|.cU n,t=>K8 names bD n t|.one .not s,t=>!hv names bD s t|.one .before s,t=>decide (0<t)&&hv names bD s (t-1)|.one .once s,t=>(ay (t+1)).any (hv names bD s)|.one .sofar s,t=>(ay (t+1)).all (hv names bD s)|.two .and s u,t=>hv names bD s t&&hv names bD u t|.two .or s u,t=>hv names bD s t||hv names bD u t|.two .bF s u,t=>hv names bD u t || !hv names bD s t|.two .same s u,t=>hv names bD s t==hv names bD u t|.two .since s u,t=>sG (hv names bD s) (hv names bD u) t
noncomputable def nZ:Sy->Sy|.one .before s=>s|s=>s
noncomputable def eY:Sy->Bool|.one .sofar _=>true|_=>false
noncomputable def iQ (names:List (List Nat))(bD:List (List Bool))(t:Nat)(p:Sy):Bool:=if t=0 then eY p else hv names bD (nZ p) (t-1)
noncomputable def fR:Sy->Bool->List Bool->Bool|.one .before _,m,_=>m|.one .once _,m,a::_=>m||a|.one .sofar _,m,a::_=>m&&a|.two .since _ _,m,a::b::_=>b||(m&&a)|_,_,_=>false
noncomputable def rL:Sy->List Bool->Bool|.yes,_=>true|.one .not _,a::_=>!a|.two .and _ _,a::b::_=>a&&b|.two .or _ _,a::b::_=>a||b|.two .bF _ _,a::b::_=>b || !a|.two .same _ _,a::b::_=>a==b|_,_=>false
section
variable {names:List (List Nat)}{bD:List (List Bool)}
theorem IC (f:Nat->Bool)(t:Nat):(ay (t+1)).any f=((ay t).any f||f t):=by rw[ki];simp
theorem G6 (f:Nat->Bool)(t:Nat):(ay (t+1)).all f=((ay t).all f&&f t):=by rw[ki];simp
theorem QW {s:Sy}(h:bX s=true)(t:Nat):hv names bD s t=fR s (iQ names bD t s) ((subs s).map fun u=>hv names bD u t):=by cases s with
 |one w a =>cases w with
  |not=>cases h|before =>cases t with|zero=>simp [hv,fR,iQ,eY]|succ t=>simp [hv,fR,iQ,nZ]
  |once =>cases t with|zero=>simp [hv,fR,iQ,eY,subs]|succ t=>simp only[hv,fR,iQ,nZ,subs,bb];rw[IC];simp
  |sofar =>cases t with|zero=>simp [hv,fR,iQ,eY,subs]|succ t=>simp only[hv,fR,iQ,nZ,subs,bb];rw[G6];simp
 |two w a b =>cases w with
  |since =>cases t with|zero=>simp [hv,fR,iQ,eY,subs,sG]|succ t =>simp only[hv,fR,iQ,nZ,subs,bb,sG];simp [Bool.and_comm]
  |_=>cases h
 |_=>cases h
theorem V9 {s:Sy}(h:bX s=false)(hl:fV s=false)(t:Nat):hv names bD s t=rL s ((subs s).map fun u=>hv names bD u t):=by cases s with
 |one w a=>cases w<;>first|rfl|cases h
 |two w a b=>cases w<;>first|rfl|cases h
 |cU n=>cases hl|_=>rfl
end
end L3
end
section
namespace L3
open PySem
local macro_rules|`(tactic| w_up)=>`(tactic| (first|rw[if_pos (by decide +kernel)]|rw[if_neg (by decide +kernel)]))
noncomputable def sH:Fn:=⟨2,2,[.iff (.cmp .eq (.v 0) (.c (.str (W "not")))) [.ret (.not_ (.ix (.v 1) (.c (.int 0))))] [],.iff (.cmp .eq (.v 0) (.c (.str (W "and")))) [.ret (.and_ (.ix (.v 1) (.c (.int 0))) (.ix (.v 1) (.c (.int 1))))] [],.iff (.cmp .eq (.v 0) (.c (.str (W "or")))) [.ret (.or_ (.ix (.v 1) (.c (.int 0))) (.ix (.v 1) (.c (.int 1))))] [],.iff (.cmp .eq (.v 0) (.c (.str (W "then")))) [.ret (.or_ (.ix (.v 1) (.c (.int 1))) (.not_ (.ix (.v 1) (.c (.int 0)))))] [],.iff (.cmp .eq (.v 0) (.c (.str (W "same")))) [.ret (.cmp .eq (.ix (.v 1) (.c (.int 0))) (.ix (.v 1) (.c (.int 1))))] [],.ret (.cmp .eq (.v 0) (.c (.str (W "yes"))))]⟩
noncomputable def oV:Fn:=⟨3,3,[.iff (.cmp .eq (.v 0) (.c (.str (W "before")))) [.ret (.v 1)] [],.iff (.cmp .eq (.v 0) (.c (.str (W "once")))) [.ret (.or_ (.v 1) (.ix (.v 2) (.c (.int 0))))] [],.iff (.cmp .eq (.v 0) (.c (.str (W "sofar")))) [.ret (.and_ (.v 1) (.ix (.v 2) (.c (.int 0))))] [],.ret (.or_ (.ix (.v 2) (.c (.int 1))) (.and_ (.v 1) (.ix (.v 2) (.c (.int 0)))))]⟩
section
variable {G:Prog}{k i:Nat}{st:aB}{Q:VK}{E:XK}
theorem CI {q:Nat}{bs:List Bool}{j:Nat}{b:Bool}(hq:st q=some (.lst (bs.map .bl)))(hb:bs[j]? = some b):mY (.ref q) (.int (j:Nat)) st Q=Q (.bl b) st:=by
 have hj:j<bs.length:=by
  by_cases h:j<bs.length;·exact h
  ·rw[cu (by omega)]at hb;cases hb
 rw[dN hq,dG (by simpa using hj),bg,hb];rfl
theorem Ku (h:G.fns i=some sH){s:Sy}(hp:bX s=false)(hl:fV s=false){q:Nat}{bs:List Bool}(hb:bs.length=(subs s).length)(hq:st q=some (.lst (bs.map .bl)))(hQ:Q (.bl (rL s bs)) st):aH G (k+1) i [.str (wd s),.ref q] st Q E:=by rw[aW h];simp only[sH,start];refine⟨rfl,?_⟩;cases s with
 |yes =>
  simp only[wd];iterate 5 (lk; w_up; rw[aI])
  lk;have e:(W "yes" == W "yes")=true:=by decide +kernel
  rw[e];exact hQ|no =>
  simp only[wd];iterate 5 (lk; w_up; rw[aI])
  lk;have e:(W "no" == W "yes")=false:=by decide +kernel
  rw[e];exact hQ|cU n=>cases hl|one w a =>cases w with
  |not =>simp only[wd,c1];match bs,hb,hq,hQ with|[b],_,hq,hQ =>have i0:=fun(Q:VK)=>CI (st:=st) (Q:=Q) (j:=0) hq rfl;simp only[ng]at i0;lk; w_up;lk;rw[i0];k_ne;exact hQ
  |_=>cases hp
 |two w a c =>match bs,hb,hq,hQ with|[b,b'],_,hq,hQ =>have i0:=fun(Q:VK)=>CI (st:=st) (Q:=Q) (j:=0) hq rfl;have i1:=fun(Q:VK)=>CI (st:=st) (Q:=Q) (j:=1) hq rfl;simp only[ng]at i0;have e1:((1:Nat):Int)=1:=rfl;rw[e1]at i1;cases w with
   |and =>
    simp only[wd,c2];iterate 1 (lk; w_up; rw[aI])
    lk; w_up;lk;rw[i0];k_ne;cases b with|false=>simpa [rL]using hQ|true=>simp only[if_true];rw[i1];simpa [rL]using hQ
   |or =>
    simp only[wd,c2];iterate 2 (lk; w_up; rw[aI])
    lk; w_up;lk;rw[i0];k_ne;cases b with|true=>simpa [rL]using hQ|false=>simp only[ak,if_false];rw[i1];simpa [rL]using hQ
   |bF =>
    simp only[wd,c2];iterate 3 (lk; w_up; rw[aI])
    lk; w_up;lk;rw[i1];k_ne;cases b' with|true=>simpa [rL]using hQ|false=>simp only[ak,if_false];k_ne; rw[i0];k_ne; simpa [rL]using hQ
   |same =>
    simp only[wd,c2];iterate 4 (lk; w_up; rw[aI])
    lk; w_up;lk;rw[i0];rw[i1];k_ne;exact hQ|since=>cases hp
theorem Gp (h:G.fns i=some oV){s:Sy}(hp:bX s=true){q:Nat}{m:Bool}{bs:List Bool}(hb:bs.length=(subs s).length)(hq:st q=some (.lst (bs.map .bl)))(hQ:Q (.bl (fR s m bs)) st):aH G (k+1) i [.str (wd s),.bl m,.ref q] st Q E:=by rw[aW h];simp only[oV,start];refine⟨rfl,?_⟩;cases s with
 |one w a =>match bs,hb,hq,hQ with|[b],_,hq,hQ =>have i0:=fun(Q:VK)=>CI (st:=st) (Q:=Q) (j:=0) hq rfl;simp only[ng]at i0;cases w with
   |not=>cases hp|before =>simp only[wd,c1];lk; w_up;lk;exact hQ|once =>
    simp only[wd,c1];iterate 1 (lk; w_up; rw[aI])
    lk; w_up;lk;cases m with|true=>simpa [fR]using hQ|false=>simp only[ak,if_false];rw[i0];simpa [fR]using hQ
   |sofar =>
    simp only[wd,c1];iterate 2 (lk; w_up; rw[aI])
    lk; w_up;lk;cases m with|false=>simpa [fR]using hQ|true=>simp only[if_true];rw[i0];simpa [fR]using hQ
 |two w a c =>match bs,hb,hq,hQ with|[b,b'],_,hq,hQ =>have i0:=fun(Q:VK)=>CI (st:=st) (Q:=Q) (j:=0) hq rfl;have i1:=fun(Q:VK)=>CI (st:=st) (Q:=Q) (j:=1) hq rfl;simp only[ng]at i0;have e1:((1:Nat):Int)=1:=rfl;rw[e1]at i1;cases w with
   |since =>
    simp only[wd,c2];iterate 3 (lk; w_up; rw[aI])
    lk;rw[i1];k_ne;cases b' with|true=>simpa [fR]using hQ|false =>simp only[ak,if_false];cases m with|false=>simpa [fR]using hQ|true=>simp only[if_true];rw[i0];simpa [fR]using hQ
   |_=>cases hp
 |_=>cases hp
end
mutual
theorem LM {st:aB}:∀(a b:D),bQ a=true->bW st a b=bT a b
 |.non,b,_=>by cases b<;>simp only[bW,bT]|.bl _,b,_=>by cases b<;>simp only[bW,bT]|.int _,b,_=>by cases b<;>simp only[bW,bT]|.str _,b,_=>by cases b<;>simp only[bW,bT]|.tup as,b,h=>by cases b with|tup bs=>simp only[bW,bT];exact Bu as bs (by simpa [bQ]using h)|_=>simp only[bW,bT]
 |.ref _,_,h=>by simp [bQ]at h|.dP _ _,_,h=>by simp [bQ]at h|.bR _,_,h=>by simp [bQ]at h|.exc _,_,h=>by simp [bQ]at h;theorem Bu {st:aB}:∀(as bs:List D),cD as=true->kD st as bs=gU as bs|[],[],_=>rfl|[],_::_,_=>rfl|_::_,[],_=>rfl|a::as,b::bs,h=>by simp only[cD,bc]at h;simp only[kD,gU];rw[LM a b h.1,Bu as bs h.2]end
theorem QK (s t:Sy):bT (toD s) (toD t)=decide (s=t):=by rw[<-LM (st:=fun _=>none) _ _ (nM s)];exact sD s t
theorem NH (x:Sy)(f:List Sy):((f.map toD).any fun d=>bT d (toD x))=f.contains x:=by rw[<-RE (st:=fun _=>none),ku,ku];congr 1;funext y;simp only[Aaq];rw[LM _ _ (nM y)]
theorem BV:∀ s:Sy,jO (toD s)=true|.yes=>rfl|.no=>rfl|.cU n=>rfl|.one w s=>by simp only[toD,jO,jW,BV s,fz]|.two w s t=>by simp only[toD,jO,jW,BV s,BV t,fz]
theorem qG {s:Sy}(h:aQ s<=8):keyed (toD s):=by have h1:=BV s;have h2:=sF s;obtain⟨r,e⟩:=qW s;rw[e]at h1 h2 ⊢;simp only[jO]at h1;simp only[cT]at h2;exact⟨h1,by omega⟩
theorem JP {st:aB}{n:List Nat}:∀{names:List (List Nat)},n∈names->findD st (.str n) (names.map .str)=some (names.idxOf n)
 |[],h=>by cases h|m::r,h=>by
  simp only[bb,findD,jD];by_cases e:m=n;·subst e;simp [j3]
  ·rw[if_neg (by simpa using e),JP (by simpa [fj e]using h)];rw[j3,beq_eq_false_iff_ne.mpr e];rfl
theorem IP {st:aB}{s:Sy}:∀{ps:List Sy},s∈ps->findD st (toD s) (ps.map toD)=some (ps.idxOf s)
 |[],h=>by cases h|m::r,h=>by
  simp only[bb,findD,sD];by_cases e:m=s;·subst e;simp [j3]
  ·rw[if_neg (by simpa using e),IP (by simpa [fj e]using h)];rw[j3,beq_eq_false_iff_ne.mpr e];rfl
noncomputable def lC (names:List (List Nat))(aK:List Sy):Sy->D|.cU n=>.int (names.idxOf n:Nat)|s=>if bX s then .int (aK.idxOf s:Nat)else .non
def mB (aK:List Sy):Sy->Prop|.one w s=>(p1 w=true->Sy.one w s∈aK)/\mB aK s|.two w s t=>(p2 w=true->Sy.two w s t∈aK)/\mB aK s/\mB aK t|_=>True
structure Good (names:List (List Nat))(aK:List Sy)(s:Sy):Prop where
 ov:over names s
 dp:aQ s<=8
 pp:mB aK s
theorem Good.subs {names:List (List Nat)}{aK:List Sy}{s t:Sy}(h:Good names aK s)(ht:t∈subs s):Good names aK t:=by have hd:=DM ht;have h0:=h.dp;cases s with
 |one w a =>simp only[L3.subs,ah]at ht;subst ht;exact⟨h.ov,by omega,h.pp.2⟩|two w a b =>
 simp only[L3.subs,bw,bj,or_false]at ht;rcases ht with rfl|rfl;·exact⟨h.ov.1,by omega,h.pp.2.1⟩
 ·exact⟨h.ov.2,by omega,h.pp.2.2⟩|_=>cases ht
theorem Good.mem {names:List (List Nat)}{aK:List Sy}{s:Sy}(h:Good names aK s)(hp:bX s=true):s∈aK:=by cases s with|one w a=>exact h.pp.1 hp|two w a b=>exact h.pp.1 hp|_=>cases hp
def Py (st:aB)(lr:Nat)(names:List (List Nat))(aK R:List Sy)(j:Nat)(s:Sy)(d:D):Prop:=∃(q:Nat)(is:List Nat),d=.tup [.str (wd s),lC names aK s,.ref q]/\q≠lr/\st q=some (.lst (is.map fun i=>.int (i:Nat)))/\is.length=(subs s).length /\ ∀(m i:Nat)(t:Sy),is[m]? = some i->(subs s)[m]? = some t->i<j/\R[i]? = some t
def Kl (st:aB)(lr:Nat)(names:List (List Nat))(aK R:List Sy)(rows:List D):Prop:=rows.length=R.length/\∀ j s d,R[j]? = some s->rows[j]? = some d->Py st lr names aK R j s d
noncomputable def uC (n:Nat):List D:=(ay n).map fun i=>.int (i:Nat)
noncomputable def qP (names:List (List Nat))(lp lr ld:Nat):List (List Nat×D):=[(W "names", .tup (names.map .str)),(W "pieces", .ref lp),(W "rows", .ref lr),(W "row_of", .ref ld)]
structure jI (st:aB)(p lp lr ld:Nat)(names:List (List Nat))(aK R:List Sy)(xs:List (List Nat×D)):Prop where
 ins:st p=some (.ins (W "Table") (qP names lp lr ld++xs))pc:st lp=some (.lst (aK.map toD))rows:∃ rows,st lr=some (.lst rows)/\Kl st lr names aK R rows
 tab:st ld=some (.tab (R.map toD) (uC R.length))ne:lp≠lr
 nd:R.Nodup
 gd:∀ s∈R,Good names aK s
 len:R.length<=5000
 pd:∀ s∈aK,aQ s<=60
theorem YR {names:List (List Nat)}{lp lr ld:Nat}{xs:List (List Nat×D)}:bY (qP names lp lr ld++xs) (W "names")=some (.tup (names.map .str)):=by simp only[qP,cg,bY];rw[if_pos cy]
theorem BF {names:List (List Nat)}{lp lr ld:Nat}{xs:List (List Nat×D)}:bY (qP names lp lr ld++xs) (W "pieces")=some (.ref lp):=by simp only[qP,cg,bY];rw[if_neg (by decide +kernel),if_pos cy]
theorem HN {names:List (List Nat)}{lp lr ld:Nat}{xs:List (List Nat×D)}:bY (qP names lp lr ld++xs) (W "rows")=some (.ref lr):=by simp only[qP,cg,bY];rw[if_neg (by decide +kernel),if_neg (by decide +kernel),if_pos cy]
theorem pS {names:List (List Nat)}{lp lr ld:Nat}{xs:List (List Nat×D)}:bY (qP names lp lr ld++xs) (W "row_of")=some (.ref ld):=by simp only[qP,cg,bY];rw[if_neg (by decide +kernel),if_neg (by decide +kernel),if_neg (by decide +kernel),if_pos cy]
theorem iI {names:List (List Nat)}{lp lr ld:Nat}{xs:List (List Nat×D)}{f:List Nat}(h1:W "names" ≠ f)(h2:W "pieces" ≠ f)(h3:W "rows" ≠ f)(h4:W "row_of" ≠ f):bY (qP names lp lr ld++xs) f=bY xs f:=by simp only[qP,cg,av,bY];rw[if_neg h1,if_neg h2,if_neg h3,if_neg h4]
theorem jI.keep {st aA:aB}{p lp lr ld:Nat}{names:List (List Nat)}{aK R:List Sy}{xs:List (List Nat×D)}(T:jI st p lp lr ld names aK R xs)(h:Ext st aA):jI aA p lp lr ld names aK R xs:=by obtain⟨rows,r1,r2,r3⟩:=T.rows;refine⟨h _ _ T.ins,h _ _ T.pc,⟨rows,h _ _ r1,r2,fun j s d e1 e2=>?_⟩,h _ _ T.tab,T.ne,T.nd,T.gd,T.len,T.pd⟩;obtain⟨q,is,a1,a2,a3,a4⟩:=r3 j s d e1 e2;exact⟨q,is,a1,a2,h _ _ a3,a4⟩
theorem OP {s:Sy}:∀{R:List Sy}{vs:List D}{j:Nat}{d:D},R.Nodup->R[j]? = some s->vs[j]? = some d->vs.length=R.length->lP (R.map toD) vs (toD s)=some d
 |[],_,_,_,_,h,_,_=>by simp at h|x::R,[],_,_,_,_,_,h=>by simp at h|x::R,v::vs,0,d,nd,h,hv,hl=>by simp at h hv;subst h hv;simp only[bb,lP,QK,decide_true,if_true]|x::R,v::vs,j+1,d,nd,h,hv,hl=>by
  simp at h hv hl;have hx:x≠s:=fun e=>by subst e;exact(List.nodup_cons.mp nd).1 (bp h)
  simp only[bb,lP,QK];rw[if_neg (by simpa using hx)];exact OP (List.nodup_cons.mp nd).2 h hv hl
theorem QF (n:Nat):(uC n).length=n:=by simp [uC]
theorem WM {n j:Nat}(h:j<n):(uC n)[j]? = some (.int (j:Nat)):=by simp [uC,h]
theorem jI.look {st:aB}{p lp lr ld:Nat}{names:List (List Nat)}{aK R:List Sy}{xs:List (List Nat×D)}(T:jI st p lp lr ld names aK R xs){s:Sy}{j:Nat}(h:R[j]? = some s):lP (R.map toD) (uC R.length) (toD s)=some (.int (j:Nat)):=by
 have hj:j<R.length:=by
  by_cases q:j<R.length;·exact q
  ·rw[cu (by omega)]at h;cases h
 exact OP T.nd h (WM hj) (QF _)
noncomputable def pD:Fn:=⟨2,2,[.iff (.cmp .eq (.ix (.v 1) (.c (.int 0))) (.c (.str (W "lamp")))) [.ret (.cM .index (.fld (W "Table") (W "names") (.v 0)) [(.ix (.v 1) (.c (.int 1)))])] [],.iff (.cmp .in_ (.ix (.v 1) (.c (.int 0))) (.c xD)) [.ret (.cM .index (.fld (W "Table") (W "pieces") (.v 0)) [(.v 1)])] [],.ret (.c .non)]⟩
noncomputable def xY:Fn:=⟨2,2,[.iff (.cmp .eq (.ix (.v 1) (.c (.int 0))) (.c (.str (W "before")))) [.ret (.dix (.fld (W "Table") (W "row_of") (.v 0)) (.ix (.v 1) (.c (.int 1))))] [],.ret (.dix (.fld (W "Table") (W "row_of") (.v 0)) (.v 1))]⟩
noncomputable def rT (iph inh:Nat):Fn:=⟨3,8,[.asg (.nm 3) (.lst []),.jA (.tp [4,5,6]) none [(.fld (W "Table") (W "rows") (.v 0))] [.asg (.nm 7) (.comp 1 [3] [0] true none [(.v 6)] [] (.ix (.v 1) (.v 0))),.iff (.cmp .eq (.v 4) (.c (.str (W "lamp")))) [.ex (.cM .append (.v 3) [(.ix (.v 2) (.v 5))])] [.iff (.cmp .in_ (.v 4) (.c xD)) [.ex (.cM .append (.v 3) [(.call iph [(.v 4),(.ix (.v 1) (.v 5)),(.v 7)])])] [.ex (.cM .append (.v 3) [(.call inh [(.v 4),(.v 7)])])]]],.ret (.v 3)]⟩
noncomputable def xR:Fn:=⟨2,2,[.ret (.bi .tuple [(.comp 1 [1] [0] true none [(.fld (W "Table") (W "remembered_rows") (.v 0))] [] (.ix (.v 1) (.v 0)))])]⟩
theorem hJ {α:Type}(t:α->D){g:aB->Prop}{turn:D->(St->aB->Prop)->St->aB->Prop}{N:St->aB->Prop}(I:List α->St->aB->Prop)(hg:∀ xs σ st,I xs σ st->g st)(ht:∀ x r σ st (M:St->aB->Prop),I (x::r) σ st->(∀ bn aA,I r bn aA->M bn aA)->turn (t x) M σ st)(hN:∀ σ st,I [] σ st->N σ st):∀(xs:List α)(σ:St)(st:aB),I xs σ st->BE g turn N (xs.map t) σ st|[],σ,st,h=>⟨hg _ _ _ h,hN _ _ h⟩|x::xs,σ,st,h=>⟨hg _ _ _ h,ht x xs σ st _ h fun bn aA h'=>hJ t I hg ht hN xs bn aA h'⟩
theorem DA {names:List (List Nat)}{aK:List Sy}{s:Sy}(hl:fV s=false)(hp:bX s=true):lC names aK s=.int (aK.idxOf s:Nat):=by
 unfold lC;split;·simp [fV]at hl
 ·rw[if_pos hp]
theorem SY {names:List (List Nat)}{aK:List Sy}{s:Sy}(hl:fV s=false)(hp:bX s=false):lC names aK s=.non:=by
 unfold lC;split;·simp [fV]at hl
 ·rw[hp];rfl
section
variable {G:Prog}{k i iph inh:Nat}{st:aB}{Q:VK}{E:XK}{p lp lr ld:Nat}{names:List (List Nat)}{aK R:List Sy}{xs:List (List Nat×D)}
theorem WZ (h:G.fns i=some pD)(tins:st p=some (.ins (W "Table") (qP names lp lr ld++xs)))(tpc:st lp=some (.lst (aK.map toD)))(tpd:∀ s∈aK,aQ s<=60){s:Sy}(g:Good names aK s)(hQ:Q (lC names aK s) st):aH G (k+1) i [.ref p,toD s] st Q E:=by rw[aW h];simp only[pD,start];refine⟨rfl,?_⟩;obtain⟨r,er⟩:=qW s;cases hl:fV s with
 |true =>cases s with|cU n =>simp only[toD];lk;rw[if_pos (by decide +kernel)];lk;rw[dB tins YR];k_ne;rw[JK,HK,OG,HK];refine⟨True.intro,GG,mZ st names,?_⟩;rw[JP g.ov,bB];exact hQ|_=>cases hl
 |false =>
  have h1:(wd s==W "lamp")=false:=by rw[HZ];exact hl
  have eP:∀ st:aB,(AaS (oX.map .str) fun d=>bW st d (.str (wd s)))=bX s:=fun st=>(yB (wd s) oX).trans (G0 s);rw[er];lk;rw[if_neg (by rw[h1];exact fv),aI];lk;simp only[xD];k_ne;refine⟨(qD oX).s,?_⟩;rw[eP st];cases hp:bX s with|true =>simp only[if_true];lk;rw[dB tins BF];k_ne;rw[JK,wR,aE tpc,OG,wR,aE tpc,<-er];refine⟨True.intro,IU (by have:=g.dp;omega),EI tpd,?_⟩;rw[IP (g.mem hp),bB];have e:lC names aK s=.int (aK.idxOf s:Nat):=DA hl hp;rw[e]at hQ;exact hQ|false =>simp only[ak,if_false,aI];lk;have e:lC names aK s=.non:=SY hl hp;rw[e]at hQ;exact hQ
theorem VY (s:Sy)(hp:bX s=true):(wd s==W "before")=true/\(∃ a,s=.one .before a)∨(wd s==W "before")=false/\nZ s=s:=by cases s with
 |one w a=>cases w<;>first|exact .inl ⟨by simp only[wd,c1];decide +kernel,a,rfl⟩|exact .inr ⟨by simp only[wd,c1];decide +kernel,rfl⟩|cases hp
 |two w a b=>cases w<;>first|exact .inr ⟨by simp only[wd,c2];decide +kernel,rfl⟩|cases hp
 |_=>cases hp
theorem Li (h:G.fns i=some xY)(T:jI st p lp lr ld names aK R xs){s:Sy}(hp:bX s=true)(hd:aQ s<=8){j:Nat}(hj:R[j]? = some (nZ s))(hQ:Q (.int (j:Nat)) st):aH G (k+1) i [.ref p,toD s] st Q E:=by
 rw[aW h];simp only[xY,start];refine⟨rfl,?_⟩;rcases VY s hp with⟨e1,a,rfl⟩|⟨e1,e2⟩;·simp only[toD,c1];lk;rw[if_pos (by decide +kernel)];lk;rw[dB T.ins pS];k_ne;simp only[nZ]at hj;simp only[aQ]at hd;rw[BB T.tab (qG (by omega)) (T.look hj)];exact hQ
 ·obtain⟨r,er⟩:=qW s;rw[er];lk;rw[if_neg (by rw[e1];exact fv),aI];lk;rw[dB T.ins pS];k_ne;rw[e2]at hj;rw[<-er,BB T.tab (qG hd) (T.look hj)];exact hQ
theorem RN (h:G.fns i=some (rT iph inh))(hn:G.fns inh=some sH)(hpa:G.fns iph=some oV)(T:jI st p lp lr ld names aK R xs){mem set:List Bool}(V:Sy->Bool)(v1:∀ n∈names,set[names.idxOf n]? = some (V (.cU n)))(v2:∀ s∈aK,bX s=true->∃ m,mem[aK.idxOf s]? = some m/\V s=fR s m ((subs s).map V))(v3:∀ s,bX s=false->fV s=false->V s=rL s ((subs s).map V))(hQ:∀ aA q,st q=none->Ext st aA->aA q=some (.lst (R.map fun s=>.bl (V s)))->Q (.ref q) aA):aH G (k+2) i [.ref p,.tup (mem.map .bl),.tup (set.map .bl)] st Q E:=by
 have hL:bE=16777216:=rfl;rw[aW h];simp only[rT,start];refine⟨rfl,?_⟩;lk;refine bS (by simp) fun q aC x1 hq hq1=>?_;obtain⟨rows,r1,r2,r3⟩:=T.rows;have T1:=T.keep x1;lk;rw[dB T1.ins HN];rw[nO,aE (x1 _ _ r1)];have ez:rows=(R.zip rows).map Prod.snd:=by rw[List.map_snd_zip (by omega)]
 rw[ez];have qlr:q≠lr:=fun z=>by rw[z,r1]at hq;cases hq
 refine hJ Prod.snd (I:=fun r σ aA=>∃ j o4 o5 o6 o7,r=(R.zip rows).drop j/\σ=[some (.ref p),some (.tup (mem.map .bl)),some (.tup (set.map .bl)),some (.ref q),o4,o5,o6,o7]/\bL [q] aC aA/\aA q=some (.lst ((R.take j).map fun s=>.bl (V s)))) (fun r σ aA ⟨j,_,_,_,_,_,_,k1,_⟩=>?_) (fun x r σ aA M ⟨j,o4,o5,o6,o7,e1,e2,k1,k2⟩ hM=>?_) (fun σ aA ⟨j,o4,o5,o6,o7,e1,e2,k1,k2⟩=>?_) _ _ _ ⟨0,none,none,none,none,rfl,rfl,.refl,by simpa using hq1⟩;·intro a ha;simp only[ah]at ha;subst ha;rw[x1 _ _ r1];exact k1 _ _ (by simpa using qlr.symm) (x1 _ _ r1)
 ·-- a row
  have hz:j<(R.zip rows).length:=by
   by_cases z:j<(R.zip rows).length;·exact z
   ·rw[gj (by omega)]at e1;cases e1
  have hjR:j<R.length:=by rw[w9]at hz;omega
  have hjr:j<rows.length:=by rw[w9]at hz;omega
  rw[cj hz]at e1;injection e1 with e3 e4;have ex:x=(R[j],rows[j]):=by rw[e3];simp
  obtain⟨s,d⟩:=x;injection ex with es ed;have hs:R[j]? = some s:=by rw[ai hjR,es]
  have hd:rows[j]? = some d:=by rw[ai hjr,ed]
  obtain⟨qq,is,f1,f2,f3,f4,f5⟩:=r3 j s d hs hd;have gs:=T.gd s (bp hs);have hlR:=T.len;subst e2;have qqq:qq≠q:=fun z=>by rw[z,hq]at f3;cases f3
  have f3':aA qq=some (.lst (is.map fun i=>.int (i:Nat))):=k1 _ _ (by simpa using qqq) (x1 _ _ f3);have hsub:(subs s).length<=2:=by cases s<;>simp [subs]
  show lM false [4,5,6] d _ _;rw[f1];k_ne;lk;rw[aE f3'];have hval:∀ i∈is,∃ t,R[i]? = some t/\i<j:=fun i hi=>by
   obtain⟨m,hm⟩:=List.mem_iff_getElem?.mp hi;have hml:m<(subs s).length:=by
    have:m<is.length:=by
     by_cases z:m<is.length;·exact z
     ·rw[cu (by omega)]at hm;cases hm
    omega
   obtain⟨a,b⟩:=f5 m i _ hm (ai hml);exact⟨_,b,a⟩
  refine dX (fun i:Nat=>D.int (i:Nat)) (fun i=>.bl (V ((R[i]?).getD .yes))) is [] aA (fun aV y a ha=>?_) (fun i hi aV K y1 hK=>?_) (by simp only[az];omega) fun aF y2=>?_;·simp only[ah]at ha;subst ha;rw[f3',y _ _ f3']
  ·obtain⟨t,ht,hij⟩:=hval i hi;show mY _ _ aV _;have hlen:i<((R.take j).map fun s=>D.bl (V s)).length:=by simp;omega
   rw[dN (y1 _ _ k2),dG hlen,bg,List.getElem?_take,if_pos hij,ht];have:=hK aV .refl;rw[ht]at this;exact this
  rw[av];have hparts:(is.map fun i=>D.bl (V ((R[i]?).getD .yes)))=((subs s).map V).map .bl:=by apply Ys;intro m;rw[bg,bg,bg];cases hm:is[m]? with
   |none =>
    have:is.length<=m:=by
     by_cases z:m<is.length;·rw[ai z]at hm;cases hm
     ·omega
    rw[cu (by omega)];rfl|some i =>
    have hml:m<(subs s).length:=by
     have:m<is.length:=by
      by_cases z:m<is.length;·exact z
      ·rw[cu (by omega)]at hm;cases hm
     omega
    obtain⟨_,b⟩:=f5 m i _ hm (ai hml);rw[ai hml];simp only[jf];rw[b];rfl
  rw[hparts];refine bS (by simp only[ab];omega) fun pp aX y3 hpp mT=>?_;k_ne;have k3:aX q=some (.lst ((R.take j).map fun s=>.bl (V s))):=y3 _ _ (y2 _ _ k2);have kk3:bL [q] aC aX:=fun a o na e=>y3 _ _ (y2 _ _ (k1 a o na e));have fin:∀(bn:St),(∃ o4 o5 o6 o7,bn=[some (.ref p),some (.tup (mem.map .bl)),some (.tup (set.map .bl)),some (.ref q),o4,o5,o6,o7])->∀ b,b=V s->M bn (put aX q (.lst (((R.take j).map fun s=>.bl (V s))++[.bl b]))):=fun bn ⟨o4,o5,o6,o7,e⟩ b hb=>by refine hM bn _ ⟨j+1,o4,o5,o6,o7,e4,e,fun a o na e=>by rw[aM (by simpa using na)];exact kk3 a o na e,?_⟩;rw[aN,List.take_succ,hs,hb];simp
  have hlq:((R.take j).map fun s=>D.bl (V s)).length<bE:=by simp;omega
  cases hl:fV s with
  |true =>cases s with|cU n =>
    simp only[wd];lk;rw[if_pos (by decide +kernel)];lk;rw[aE k3];refine⟨True.intro,?_⟩;simp only[lC];have hv:=v1 n gs.ov;have hlen:names.idxOf n<(set.map D.bl).length:=by
     rw[ab];by_cases z:names.idxOf n<set.length;·exact z
     ·rw[cu (by omega)]at hv;cases hv
    rw[mX,dG hlen,bg,hv,jf,bB,aE k3];refine⟨hlq,?_⟩;simp only[aI];exact fin _ ⟨_,_,_,_,rfl⟩ _ rfl|_=>cases hl
  |false =>
   have h1:(wd s==W "lamp")=false:=by rw[HZ];exact hl
   have eP:∀ st:aB,(AaS (oX.map .str) fun d=>bW st d (.str (wd s)))=bX s:=fun st=>(yB (wd s) oX).trans (G0 s)
   lk;rw[if_neg (by rw[h1];exact fv)];lk;simp only[xD];k_ne;refine⟨(qD oX).s,?_⟩;rw[eP aX];cases hp:bX s with|true =>
    simp only[if_true];lk;rw[aE k3];refine⟨True.intro,?_⟩;obtain⟨m,hm,hV⟩:=v2 s (gs.mem hp) hp;have e:lC names aK s=.int (aK.idxOf s:Nat):=DA hl hp;rw[e];have hlen:aK.idxOf s<(mem.map D.bl).length:=by
     rw[ab];by_cases z:aK.idxOf s<mem.length;·exact z
     ·rw[cu (by omega)]at hm;cases hm
    k_ne;(try rw[mX]);rw[dG hlen,bg,hm,jf,bB];refine Gp hpa hp (by simp) mT ?_;rw[aE k3];refine⟨hlq,?_⟩;simp only[aI];exact fin _ ⟨_,_,_,_,rfl⟩ _ hV.symm|false =>simp only[ak,if_false];lk;rw[aE k3];refine⟨True.intro,?_⟩;refine Ku hn hp hl (by simp) mT ?_;rw[aE k3];refine⟨hlq,?_⟩;simp only[aI];exact fin _ ⟨_,_,_,_,rfl⟩ _ (v3 s hp hl).symm
 ·-- the end
  subst e2;have hj:R.length<=j:=by
   have:(R.zip rows).length<=j:=by
    by_cases z:j<(R.zip rows).length;·rw[cj z]at e1;cases e1
    ·omega
   rw[w9]at this;omega
  rw[List.take_of_length_le hj]at k2;lk;exact hQ aA q hq (fun a o e=>k1 a o (by intro z;simp only[ah]at z;rw[z,hq]at e;cases e) (x1 a o e)) k2
end
noncomputable def oK (ie iw ipo:Nat):Fn:=⟨2,4,[.iff (.din false (.v 1) (.fld (W "Table") (W "row_of") (.v 0))) [.ret (.c .non)] [],.jA (.nm 2) none [(.call iw [(.v 1)])] [.ex (.mcl (W "Table") (W "enter") ie (.v 0) [(.v 2)])],.asg (.nm 3) (.comp 1 [0] [0] true none [(.call iw [(.v 1)])] [] (.dix (.fld (W "Table") (W "row_of") (.v 1)) (.v 0))),.asg (.dk (.fld (W "Table") (W "row_of") (.v 0)) (.v 1)) (.bi .len [(.fld (W "Table") (W "rows") (.v 0))]),.ex (.cM .append (.fld (W "Table") (W "rows") (.v 0)) [(.tup [(.ix (.v 1) (.c (.int 0))),(.mcl (W "Table") (W "place_of") ipo (.v 0) [(.v 1)]),(.v 3)])])]⟩
theorem jN {α:Type}{xs:List α}{j:Nat}{x:α}(h:xs[j]? = some x):j<xs.length:=by
 by_cases q:j<xs.length;·exact q
 ·rw[cu (by omega)]at h;cases h
section
variable {G:Prog}{k i ie iw ipo:Nat}{st:aB}{Q:VK}{E:XK}{p lp lr ld lm:Nat}{names:List (List Nat)}{aK R:List Sy}{xs fs:List (List Nat×D)}
theorem VF (h:G.fns i=some xR)(ins:st p=some (.ins (W "Table") fs))(hf:bY fs (W "remembered_rows")=some (.ref lm)){js:List Nat}(hlm:st lm=some (.lst (js.map fun j=>.int (j:Nat)))){q:Nat}{V:Sy->Bool}(hq:st q=some (.lst (R.map fun s=>.bl (V s))))(hl:js.length=aK.length)(hl2:aK.length<=5000) (hj:∀(m j:Nat)(s:Sy),js[m]? = some j->aK[m]? = some s->R[j]? = some (nZ s))(hQ:∀ aA,Ext st aA->Q (.tup (aK.map fun s=>.bl (V (nZ s)))) aA):aH G (k+1) i [.ref p,.ref q] st Q E:=by
 have hL:bE=16777216:=rfl;rw[aW h];simp only[xR,start];refine⟨rfl,?_⟩;lk;rw[dB ins hf,nO,aE hlm];refine dX (fun j:Nat=>D.int (j:Nat)) (fun j=>.bl (V ((R[j]?).getD .yes))) js [] st (fun aV y a ha=>?_) (fun j hjs aV K y1 hK=>?_) (by simp only[az];omega) fun aF y2=>?_;·simp only[ah]at ha;subst ha;rw[hlm,y _ _ hlm]
 ·obtain⟨m,hm⟩:=List.mem_iff_getElem?.mp hjs;have hml:m<aK.length:=by have:=jN hm;omega
  have ht:=hj m j _ hm (ai hml);show mY _ _ aV _;have hlen:j<(R.map fun s=>D.bl (V s)).length:=by simpa using jN ht
  rw[dN (y1 _ _ hq),dG hlen,bg,ht];have:=hK aV .refl;rw[ht]at this;exact this
 rw[av];have e:(js.map fun j=>D.bl (V ((R[j]?).getD .yes)))=aK.map fun s=>.bl (V (nZ s)):=by apply Ys;intro m;rw[bg,bg];cases hm:js[m]? with
  |none =>
   have:js.length<=m:=by
    by_cases z:m<js.length;·rw[ai z]at hm;cases hm
    ·omega
   rw[cu (by omega)];rfl|some j =>
   have hml:m<aK.length:=by have:=jN hm;omega
   have ht:=hj m j _ hm (ai hml);rw[ai hml];simp only[jf];rw[ht];rfl
 rw[e];refine bS (by simp only[ab];omega) fun pp aX y3 hpp mT=>?_;k_ne;rw[aE mT];refine⟨by simp only[ab];omega,hQ aX (y2.trans y3)⟩
theorem YG (h:G.fns ie=some (oK ie iw ipo))(hw:G.fns iw=some gE)(hpo:G.fns ipo=some pD)(hxe:bY xs (W "enter")=none)(hxp:bY xs (W "place_of")=none):∀(n:Nat){s:Sy}{k:Nat}{st:aB}{Q:VK}{E:XK}{R:List Sy},aQ s<=n->jI st p lp lr ld names aK R xs->Good names aK s->R.length+sz s<=5000 ->(∀ aA R',bL [lr,ld] st aA->jI aA p lp lr ld names aK R' xs->(∀ x∈R,x∈R')->s∈R'->(∀ x∈R',x∈R∨sz x<=sz s)->R'.length<=R.length+sz s->Q .non aA) ->aH G (k+n+2) ie [.ref p,toD s] st Q E:=by have hL:bE=16777216:=rfl;intro n;induction n with|zero=>intro s k st Q E R hn;cases s<;>simp [aQ]at hn|succ n ih =>
  intro s k st Q E R hn T g hlen hQ;rw[aW h];simp only[oK,start];refine⟨rfl,?_⟩;have kd:=qG g.dp;lk;rw[dB T.ins pS,XD T.tab kd,NH]
  (try k_ne);cases hc:R.contains s with|true =>
   simp only[if_true];lk;have hs:s∈R:=by simpa using hc
   exact hQ st R .refl T (fun x hx=>hx) hs (fun x hx=>.inl hx) (by omega)|false =>
   have hs:s∉R:=by simpa using hc
   simp only[ak,if_false,aI];lk;refine uJ (k:=k+n+1) hw ?_;k_ne;have hss:=Q2 s;have hsub:(subs s).length<=2:=by cases s<;>simp [subs]
   have hszL:∀(l:List Sy)(t:Sy),t∈l->sz t<=fW l:=fun l=>by induction l with|nil=>intro t ht;cases ht|cons a l ihl =>
     intro t ht;rw[kS];rcases List.mem_cons.mp ht with rfl|ht;·omega
     ·have:=ihl t ht;omega
   refine hJ toD (I:=fun r σ aA=>∃ R1 o2 dn,subs s=dn++r/\σ=[some (.ref p),some (toD s),o2,none]/\bL [lr,ld] st aA/\jI aA p lp lr ld names aK R1 xs/\(∀ x∈R,x∈R1)/\(∀ t∈dn,t∈R1)/\(∀ x∈R1,x∈R∨sz x<sz s)/\R1.length<=R.length+fW dn) (fun r σ aA hI a ha=>by cases ha) (fun x r σ aA M hI hM=>?_) (fun σ aA hI=>?_) _ _ _ ⟨R,none,[],rfl,rfl,.refl,T,fun x hx=>hx,fun t ht=>(by cases ht),fun x hx=>.inl hx,by simp [fW]⟩
   ·obtain⟨R1,o2,dn,e1,e2,k1,T1,a1,a2,a3,a4⟩:=hI;subst e2;have hx:x∈subs s:=by rw[e1];simp
    have hxd:=DM hx;have hdn:fW dn+sz x<=fW (subs s):=by rw[e1,mP,kS];omega
    lk;rw[iM T1.ins (by rw[iI (by decide +kernel) (by decide +kernel) (by decide +kernel) (by decide +kernel)];exact hxe)];refine⟨True.intro,?_⟩;refine ih (k:=k) (by omega) T1 (g.subs hx) (by omega) fun aF R2 b1 b2 b3 b4 b5 b6=>?_;rw[aI];refine hM _ aF ⟨R2,_,dn++[x],by simp [e1],rfl,k1.trans b1,b2,fun y hy=>b3 y (a1 y hy),fun t ht=>?_,fun y hy=>?_,?_⟩
    ·rcases List.mem_append.mp ht with ht|ht;·exact b3 t (a2 t ht)
     ·simp only[ah]at ht;subst ht;exact b4
    ·rcases b5 y hy with hy|hy;·exact a3 y hy
     ·exact .inr (by omega)
    ·rw[mP];simp only[kS];simp only[fW,gg,AaC]at *;omega
   ·obtain⟨R1,o2,dn,e1,e2,k1,T1,a1,a2,a3,a4⟩:=hI;subst e2;rw[d5]at e1;subst e1;have hs1:s∉R1:=fun z=>by
     rcases a3 s z with z|z;·exact hs z
     ·omega
    lk;refine uJ (k:=k+n+1) hw ?_;k_ne;have hidx:∀ t∈subs s,R1[R1.idxOf t]? = some t:=fun t ht=>by have hm:=a2 t ht;have:=List.idxOf_lt_length_iff.mpr hm;rw[ai this];simp
    refine dX toD (fun t=>.int (R1.idxOf t:Nat)) _ [] aA (fun aV y a ha=>by cases ha) (fun t ht aV K y1 hK=>?_) (by simp only[az];omega) fun aF y2=>?_;·have T'':=T1.keep y1;show rK _ _ _ aV _;rw[dB T''.ins pS];have gt:=g.subs ht;show tF _ _ aV _;rw[BB T''.tab (qG gt.dp) (T''.look (hidx t ht))];exact hK aV .refl
    rw[av];refine bS (by simp only[ab];omega) fun q aX y3 hq hq3=>?_;have T3:=T1.keep (y2.trans y3);have kk3:bL [lr,ld] st aX:=k1.trans (y2.trans y3).keep;obtain⟨rows,r1,r2,r3⟩:=T3.rows;k_ne;lk;rw[dB T3.ins HN];rw[HP,eI r1];rw[dB T3.ins pS];have hnew:(((R1.map toD).any fun d=>bT d (toD s))=false):=by rw[NH];simpa using hs1
    have hl1:R1.length<5000:=by omega
    rw[TM T3.tab kd hnew (by simp;omega)];generalize hst4:put aX ld (.tab (R1.map toD++[toD s]) (uC R1.length++[.int (rows.length:Nat)]))=cG;have lrld:lr≠ld:=fun z=>by rw[z,T3.tab]at r1;cases r1
    have pld:p≠ld:=fun z=>by have:=T3.ins;rw[z,T3.tab]at this;cases this
    have plr:p≠lr:=fun z=>by have:=T3.ins;rw[z,r1]at this;cases this
    have lpld:lp≠ld:=fun z=>by have:=T3.pc;rw[z,T3.tab]at this;cases this
    have ins4:cG p=some (.ins (W "Table") (qP names lp lr ld++xs)):=by rw[<-hst4,aM pld];exact T3.ins
    have lr4:cG lr=some (.lst rows):=by rw[<-hst4,aM lrld];exact r1
    have q4:cG q=some (.lst ((subs s).map fun t=>.int (R1.idxOf t:Nat))):=by rw[<-hst4,aM (fun z=>by rw[z,T3.tab]at hq3;cases hq3)];exact hq3
    have tab4:cG ld=some (.tab ((R1++[s]).map toD) (uC (R1++[s]).length)):=by rw[<-hst4,aN,r2];simp [uC,ki]
    have qlr:q≠lr:=fun z=>by rw[z]at hq;obtain⟨rows',r1',_⟩:=(T1.keep y2).rows;rw[r1']at hq;cases hq
    lk;rw[dB ins4 HN,xU,aE lr4];refine⟨True.intro,?_⟩;obtain⟨r,er⟩:=qW s;rw[er];k_ne;rw[<-er,iM ins4 (by rw[iI (by decide +kernel) (by decide +kernel) (by decide +kernel) (by decide +kernel)];exact hxp)];refine⟨True.intro,?_⟩;have T4:jI (put cG lr (.lst (rows++[.tup [.str (wd s),lC names aK s,.ref q]]))) p lp lr ld names aK (R1++[s]) xs:=by
     have keep4:∀ a o,a≠lr->a≠ld->aX a=some o->(put cG lr (.lst (rows++[.tup [.str (wd s),lC names aK s,.ref q]]))) a=some o:=fun a o n1 n2 e=>by rw[aM n1,<-hst4,aM n2];exact e
     refine⟨keep4 _ _ plr pld T3.ins,keep4 _ _ T3.ne lpld T3.pc,⟨_,aN,by simp [r2],fun j t d ht hd=>?_⟩,?_,T3.ne,?_,?_,by simp;omega,T3.pd⟩
     ·by_cases hj:j<R1.length;·rw[bu hj]at ht;rw[bu (by omega)]at hd;obtain⟨q',is,c1,c2,c3,c4,c5⟩:=r3 j t d ht hd;refine⟨q',is,c1,c2,keep4 _ _ c2 (fun z=>by rw[z,T3.tab]at c3;cases c3) c3,c4,fun m i' t' h1 h2=>?_⟩;obtain⟨d1,d2⟩:=c5 m i' t' h1 h2;exact⟨d1,by rw[bu (jN d2)];exact d2⟩
      ·have hj2:j=R1.length:=by have:=jN ht;simp at this;omega
       subst hj2;rw[cw (aw _)]at ht;rw[cw (by omega)]at hd;simp at ht;simp [r2]at hd;subst ht hd;refine⟨q,(subs s).map fun t=>R1.idxOf t,rfl,qlr,?_,by simp,fun m i' t' h1 h2=>?_⟩;·rw[aM qlr,q4,md];rfl
       ·rw[bg,h2]at h1;simp at h1;subst h1;have ht':=bp h2;have:=hidx t' ht';exact⟨jN this,by rw[bu (jN this)];exact this⟩
     ·rw[aM lrld.symm];exact tab4
     ·rw[qa];exact⟨T3.nd,by simp,fun a ha b hb=>by simp only[ah]at hb;subst hb;exact fun z=>hs1 (z▸ha)⟩
     ·intro t ht;rcases List.mem_append.mp ht with ht|ht;·exact T3.gd t ht
      ·simp only[ah]at ht;subst ht;exact g
    refine WZ (k:=k+n+1) hpo ins4 (by rw[<-hst4,aM lpld];exact T3.pc) T3.pd g ?_;rw[aE lr4];refine⟨by omega,?_⟩;simp only[aI];refine hQ _ (R1++[s]) (fun a o na e=>?_) T4 (fun x hx=>by simp [a1 x hx]) (by simp) (fun x hx=>?_) (by simp;omega);·simp only[bw,bj,or_false,not_or]at na;rw[aM na.1,<-hst4,aM na.2];exact kk3 a o (by simp [na]) e
    ·rcases List.mem_append.mp hx with hx|hx
     ·rcases a3 x hx with hx|hx;·exact .inl hx
      ·exact .inr (by omega)
     ·simp only[ah]at hx;subst hx;exact .inr (aw _)
end
noncomputable def lY (iz ie irr:Nat):Fn:=⟨3,4,[.asg (.fl (W "Table") (W "names") (.v 0)) (.v 1),.asg (.fl (W "Table") (W "pieces") (.v 0)) (.call iz [(.v 2)]),.asg (.fl (W "Table") (W "rows") (.v 0)) (.lst []),.asg (.fl (W "Table") (W "row_of") (.v 0)) .dnew,.jA (.nm 3) none [(.v 2)] [.ex (.mcl (W "Table") (W "enter") ie (.v 0) [(.v 3)])],.asg (.fl (W "Table") (W "first_memory") (.v 0)) (.bi .tuple [(.comp 1 [] [0] true none [(.fld (W "Table") (W "pieces") (.v 0))] [] (.cmp .eq (.ix (.v 0) (.c (.int 0))) (.c (.str (W "sofar")))))]),.asg (.fl (W "Table") (W "remembered_rows") (.v 0)) (.comp 1 [0] [0] true none [(.fld (W "Table") (W "pieces") (.v 0))] [] (.mcl (W "Table") (W "remembered_row") irr (.v 1) [(.v 0)]))]⟩
theorem MW {f:List Sy}{s x:Sy}(h:x∈f):x∈fF f s:=by
 unfold fF;split;·exact qr _ h
 ·exact h
theorem MU {f:List Sy}{s:Sy}(h:bX s=true):s∈fF f s:=by unfold fF;rw[h];cases hc:f.contains s with|true=>simpa using hc|false=>simp
theorem nY:∀(s:Sy){f:List Sy}{x:Sy},x∈f->x∈aK s f|.yes,_,_,h=>h|.no,_,_,h=>h|.cU _,_,_,h=>h|.one w s,_,_,h=>nY s (MW h)|.two w s t,_,_,h=>nY t (nY s (MW h))
theorem sZ {f g:List Sy}(h:∀ x∈f,x∈g):∀ s:Sy,mB f s->mB g s|.yes,_=>trivial|.no,_=>trivial|.cU _,_=>trivial|.one w s,⟨a,b⟩=>⟨fun q=>h _ (a q),sZ h s b⟩|.two w s t,⟨a,b,c⟩=>⟨fun q=>h _ (a q),sZ h s b,sZ h t c⟩
theorem GJ:∀(s:Sy)(f:List Sy),mB (aK s f) s|.yes,_=>trivial|.no,_=>trivial|.cU _,_=>trivial|.one w s,f=>⟨fun q=>nY s (MU q),GJ s _⟩|.two w s t,f=>⟨fun q=>nY t (nY s (MU q)),sZ (fun x hx=>nY t hx) s (GJ s _),GJ t _⟩
theorem NC:∀(l:List Sy){f:List Sy}{x:Sy},x∈f->x∈cZ l f|[],_,_,h=>h|s::l,_,_,h=>NC l (nY s h)
theorem HM:∀(l:List Sy)(f:List Sy)(s:Sy),s∈l->mB (cZ l f) s
 |[],_,_,h=>by cases h|a::l,f,s,h=>by
  rcases List.mem_cons.mp h with rfl|h;·exact sZ (fun x hx=>NC l hx) s (GJ s f)
  ·exact HM l _ s h
theorem X1 {R f:List Sy}{s:Sy}(hf:∀ x∈f,x∈R)(hs:s∈R):∀ x∈fF f s,x∈R:=by
 unfold fF;split
 ·intro x hx;rcases List.mem_append.mp hx with hx|hx;·exact hf x hx
  ·simp only[ah]at hx;subst hx;exact hs
 ·exact hf
theorem K4 {R:List Sy}(cl:∀ s∈R,∀ t∈subs s,t∈R):∀(s:Sy){f:List Sy},s∈R->(∀ x∈f,x∈R)->∀ x∈aK s f,x∈R|.yes,_,hs,hf=>hf|.no,_,hs,hf=>hf|.cU _,_,hs,hf=>hf|.one w s,f,hs,hf=>K4 cl s (cl _ hs s (by simp [subs])) (X1 hf hs)|.two w s t,f,hs,hf=>K4 cl t (cl _ hs t (by simp [subs])) (K4 cl s (cl _ hs s (by simp [subs])) (X1 hf hs))
theorem UX {R:List Sy}(cl:∀ s∈R,∀ t∈subs s,t∈R):∀(l f:List Sy),(∀ s∈l,s∈R)->(∀ x∈f,x∈R)->∀ x∈cZ l f,x∈R|[],_,_,hf=>hf|s::l,f,hl,hf=>UX cl l _ (fun t ht=>hl t (by simp [ht])) (K4 cl s (hl s (by simp)) hf)
theorem J6 {f:List Sy}{s:Sy}(hf:∀ x∈f,bX x=true):∀ x∈fF f s,bX x=true:=by
 unfold fF;by_cases h:(bX s && !f.contains s)=true
 ·rw[if_pos h];simp only[bc]at h;intro x hx;rcases List.mem_append.mp hx with hx|hx;·exact hf x hx
  ·simp only[ah]at hx;subst hx;exact h.1
 ·rw[if_neg h];exact hf
theorem wZ:∀(s:Sy){f:List Sy},(∀ x∈f,bX x=true)->∀ x∈aK s f,bX x=true|.yes,_,hf=>hf|.no,_,hf=>hf|.cU _,_,hf=>hf|.one w s,f,hf=>wZ s (J6 hf)|.two w s t,f,hf=>wZ t (wZ s (J6 hf))
theorem KH:∀(l f:List Sy),(∀ x∈f,bX x=true)->∀ x∈cZ l f,bX x=true|[],_,hf=>hf|s::l,f,hf=>KH l _ (wZ s hf)
theorem yH:∀(l:List Sy){f:List Sy}{n:Nat},(∀ x∈f,aQ x<=n)->(∀ x∈l,aQ x<=n)->∀ x∈cZ l f,aQ x<=n|[],_,_,hf,_=>hf|s::l,f,n,hf,hl=>yH l (BQ s hf (hl s (by simp))) fun x hx=>hl x (by simp [hx])
theorem Y0 (s:Sy):(wd s==W "sofar")=eY s:=by cases s with|one w s=>cases w<;>(simp only[wd,eY,c1];decide +kernel)|two w s t=>cases w<;>(simp only[wd,eY,c2];decide +kernel)|_=>(simp only[wd,eY];decide +kernel)
theorem gY {f:List Nat}{d:D}:∀{fs:List (List Nat×D)},bY fs f=none->sR f d fs=fs++[(f,d)]
 |[],_=>rfl|(g,x)::r,h=>by
  simp only[bY]at h;by_cases q:g=f;·rw[if_pos q]at h;cases h
  ·rw[if_neg q]at h;simp only[sR,if_neg q,gY h,cg]
theorem jI.closed {st:aB}{p lp lr ld:Nat}{names:List (List Nat)}{aK R:List Sy}{xs:List (List Nat×D)}(T:jI st p lp lr ld names aK R xs):∀ s∈R,∀ t∈subs s,t∈R:=by
 intro s hs t ht;obtain⟨rows,_,r2,r3⟩:=T.rows;obtain⟨j,hj⟩:=List.mem_iff_getElem?.mp hs;have hjr:j<rows.length:=by have:=jN hj;omega
 obtain⟨q,is,_,_,_,c4,c5⟩:=r3 j s _ hj (ai hjr);obtain⟨m,hm⟩:=List.mem_iff_getElem?.mp ht;have hmi:m<is.length:=by have:=jN hm;omega
 exact bp (c5 m _ t (ai hmi) hm).2
noncomputable def GF (aK:List Sy)(lm:Nat):List (List Nat×D):=[(W "first_memory", .tup (aK.map fun s=>.bl (eY s))),(W "remembered_rows", .ref lm)]
section
variable {G:Prog}{k i ie iw ipo iz irr iti:Nat}{st:aB}{Q:VK}{E:XK}{p l:Nat}{names:List (List Nat)}{ss:List Sy}
structure Table (st:aB)(p:Nat)(names:List (List Nat))(aK R:List Sy):Prop where h:∃(lp lr ld lm:Nat)(js:List Nat),jI st p lp lr ld names aK R (GF aK lm)/\st lm=some (.lst (js.map fun(j:Nat)=>.int (j:Nat)))/\js.length=aK.length/\(∀(m j:Nat)(s:Sy),js[m]? = some j->aK[m]? = some s->R[j]? = some (nZ s))/\(∀ s∈aK,bX s=true)
theorem O5 (h:G.fns iti=some (lY iz ie irr))(hz:G.fns iz=some (jF iw))(he:G.fns ie=some (oK ie iw ipo))(hw:G.fns iw=some gE)(hpo:G.fns ipo=some pD)(hrr:G.fns irr=some xY)(hp:st p=some (.ins (W "Table") []))(hl:st l=some (.lst (ss.map toD))) (ho:∀ s∈ss,over names s/\aQ s<=8)(hs:fW ss<=5000)(gT:(cZ ss []).length<=5000)(hQ:∀ aA R,bL [p] st aA->Table aA p names (cZ ss []) R->(∀ s∈ss,s∈R)->Q .non aA):aH G (k+12) iti [.ref p,.tup (names.map .str),.ref l] st Q E:=by
 have hL:bE=16777216:=rfl;rw[aW h];simp only[lY,start];refine⟨rfl,?_⟩;have pl:p≠l:=fun z=>by rw[z,hl]at hp;cases hp
 lk;rw[nI hp (by simp)];have e1:sR (W "names") (.tup (names.map .str)) []=[(W "names", .tup (names.map .str))]:=rfl;rw[e1];generalize hst1:put st p (.ins (W "Table") [(W "names", .tup (names.map .str))])=aC;have p1:aC p=some (.ins (W "Table") [(W "names", .tup (names.map .str))]):=by rw[<-hst1,aN]
 have k1:bL [p] st aC:=by rw[<-hst1];exact bL.put (by simp)
 have l1:aC l=some (.lst (ss.map toD)):=k1 _ _ (by simpa using pl.symm) hl;lk;refine AL (k:=k+9) hz hw l1 (fun x hx=>by have:=(ho x hx).2;omega) (by omega) fun lp aF x2 lp2=>?_;k_ne;rw[nI (x2 _ _ p1) (by simp),gY (by simp only[bY];rw[if_neg (by decide +kernel)])];generalize hst3:put aF p _=aX;have p3:aX p=some (.ins (W "Table") ([(W "names", .tup (names.map .str))]++[(W "pieces", .ref lp)])):=by rw[<-hst3,aN]
 have k3:bL [p] st aX:=k1.trans (x2.keep.trans (by rw[<-hst3];exact bL.put (by simp)));have plp:p≠lp:=fun z=>by rw[<-z,x2 _ _ p1]at lp2;cases lp2
 have lp3:aX lp=some (.lst ((cZ ss []).map toD)):=by rw[<-hst3,aM plp.symm];exact lp2
 lk;refine bS (by decide) fun lr cG x4 hlr lr4=>?_;k_ne;rw[nI (x4 _ _ p3) (by simp),gY (by simp only[cg,av,bY];rw[if_neg (by decide +kernel),if_neg (by decide +kernel)])];generalize hst5:put cG p _=cW;have plr:p≠lr:=fun z=>by rw[<-z,p3]at hlr;cases hlr
 have lplr:lp≠lr:=fun z=>by rw[<-z,lp3]at hlr;cases hlr
 have llr:l≠lr:=fun z=>by rw[<-z,k3 _ _ (by simpa using pl.symm) hl]at hlr;cases hlr
 have p5:cW p=some (.ins (W "Table") ([(W "names", .tup (names.map .str))]++[(W "pieces", .ref lp)]++[(W "rows", .ref lr)])):=by rw[<-hst5,aN]
 have k5:bL [p] st cW:=k3.trans (x4.keep.trans (by rw[<-hst5];exact bL.put (by simp)));have lp5:cW lp=some (.lst ((cZ ss []).map toD)):=by rw[<-hst5,aM plp.symm];exact x4 _ _ lp3
 have lr5:cW lr=some (.lst []):=by rw[<-hst5,aM plr.symm];exact lr4
 lk;intro ld hld;generalize hst6:put cW ld (.tab [] [])=fM;have x6:Ext cW fM:=by rw[<-hst6];exact Ext.new hld
 have ld6:fM ld=some (.tab [] []):=by rw[<-hst6,aN]
 rw[nI (x6 _ _ p5) (by simp),gY (by simp only[cg,av,bY];rw[if_neg (by decide +kernel),if_neg (by decide +kernel),if_neg (by decide +kernel)])];generalize hst7:put fM p _=kF;have pld:p≠ld:=fun z=>by rw[<-z,p5]at hld;cases hld
 have lld:l≠ld:=fun z=>by rw[<-z,k5 _ _ (by simpa using pl.symm) hl]at hld;cases hld
 have p7:kF p=some (.ins (W "Table") (qP names lp lr ld++[])):=by rw[<-hst7,aN];rfl
 have k7:bL [p] st kF:=k5.trans (x6.keep.trans (by rw[<-hst7];exact bL.put (by simp)));have o7:∀ a o,a≠p->cW a=some o->kF a=some o:=fun a o na e=>by rw[<-hst7,aM na];exact x6 _ _ e
 have pd:∀ s∈cZ ss [],aQ s<=60:=fun s iA=>yH ss (n:=60) (by simp) (fun x hx=>by have:=(ho x hx).2;omega) s iA;have T7:jI kF p lp lr ld names (cZ ss []) [] []:=⟨p7,o7 _ _ plp.symm lp5,⟨[],o7 _ _ plr.symm lr5,rfl,fun j s d e=>by simp at e⟩,by rw[<-hst7,aM pld.symm];exact ld6,lplr,yg,fun s iA=>(by cases iA),by simp,pd⟩;have l7:kF l=some (.lst (ss.map toD)):=k7 _ _ (by simpa using pl.symm) hl;have hszL:∀(l:List Sy)(t:Sy),t∈l->sz t<=fW l:=fun l=>by induction l with|nil=>intro t ht;cases ht|cons a l ihl =>
   intro t ht;rw[kS];rcases List.mem_cons.mp ht with rfl|ht;·omega
   ·have:=ihl t ht;omega
 lk;rw[aE l7];refine hJ toD (I:=fun r σ aA=>∃ R1 o3 dn,ss=dn++r/\σ=[some (.ref p),some (.tup (names.map .str)),some (.ref l),o3]/\bL [lr,ld] kF aA/\jI aA p lp lr ld names (cZ ss []) R1 []/\(∀ t∈dn,t∈R1)/\R1.length<=fW dn) (fun r σ aA ⟨R1,o3,dn,e1,e2,k1,T1,a2,a4⟩=>?_) (fun x r σ aA M ⟨R1,o3,dn,e1,e2,k1,T1,a2,a4⟩ hM=>?_) (fun σ aA ⟨R1,o3,dn,e1,e2,k1,T1,a2,a4⟩=>?_) _ _ _ ⟨[],none,[],rfl,rfl,.refl,T7,fun t ht=>(by cases ht),by simp [fW]⟩;·intro a ha;simp only[ah]at ha;subst ha;rw[l7,k1 _ _ (by simp [llr,lld]) l7]
 ·-- a saying
  subst e2;have hx:x∈ss:=by rw[e1];simp
  have hdn:fW dn+sz x<=fW ss:=by rw[e1,mP,kS];omega
  lk;rw[iM T1.ins (by rw[iI (by decide +kernel) (by decide +kernel) (by decide +kernel) (by decide +kernel)];rfl)];refine⟨True.intro,?_⟩;refine YG (k:=k+1) he hw hpo rfl rfl 8 (ho x hx).2 T1 ⟨(ho x hx).1,(ho x hx).2,HM ss [] x hx⟩ (by omega) fun aF R2 b1 b2 b3 b4 b5 b6=>?_;rw[aI];refine hM _ aF ⟨R2,_,dn++[x],by simp [e1],rfl,k1.trans b1,b2,fun t ht=>?_,?_⟩
  ·rcases List.mem_append.mp ht with ht|ht;·exact b3 t (a2 t ht)
   ·simp only[ah]at ht;subst ht;exact b4
  ·rw[mP];simp only[kS];simp only[fW,gg,AaC]at *;omega
 ·-- behind them
  subst e2;rw[d5]at e1;have rP:∀ s∈ss,s∈R1:=fun s iA=>a2 s (by rw[<-e1];exact iA);have kk:bL [p,lr,ld] st aA:=(k7.mono (by simp)).trans (k1.mono (by simp));lk;rw[dB T1.ins BF,nO,aE T1.pc];refine dX toD (fun s=>.bl (eY s)) (cZ ss []) [] aA (fun aV y a ha=>?_) (fun t ht aV K y1 hK=>?_) (by simp only[az];omega) fun aF y2=>?_;·simp only[ah]at ha;subst ha;rw[T1.pc,y _ _ T1.pc]
  ·obtain⟨r,er⟩:=qW t;rw[er];k_ne;rw[Y0];exact hK aV .refl
  rw[av];refine bS (by simp only[ab];omega) fun pp aX y3 hpp mT=>?_;k_ne;rw[aE mT];refine⟨by simp only[ab];omega,?_⟩;have T3:=T1.keep (y2.trans y3);rw[nI T3.ins (by simp [qP]),gY (by rw[iI (by decide +kernel) (by decide +kernel) (by decide +kernel) (by decide +kernel)];rfl)];generalize hst8:put aX p _=eB;have nep:∀ a o,a≠p->aX a=some o->eB a=some o:=fun a o na e=>by rw[<-hst8,aM na];exact e
  have lpp:lp≠p:=plp.symm;have T8:jI eB p lp lr ld names (cZ ss []) R1 [(W "first_memory", .tup ((cZ ss []).map fun s=>.bl (eY s)))]:=by obtain⟨rows,r1,r2,r3⟩:=T3.rows;refine⟨by rw[<-hst8,aN,p0];rfl,nep _ _ lpp T3.pc,⟨rows,nep _ _ plr.symm r1,r2,fun j s d h1 h2=>?_⟩,nep _ _ pld.symm T3.tab,T3.ne,T3.nd,T3.gd,T3.len,T3.pd⟩;obtain⟨q,is,c1,c2,c3,c4⟩:=r3 j s d h1 h2;exact⟨q,is,c1,c2,nep _ _ (fun z=>by rw[z,T3.ins]at c3;cases c3) c3,c4⟩
  have cl:=T8.closed;have hin:∀ s∈cZ ss [],nZ s∈R1:=fun s iA=>by have h1:=UX cl ss [] rP (fun x hx=>by cases hx) s iA;cases s with
   |one w a =>cases w with|before=>exact cl _ h1 a (by simp [subs])|_=>exact h1
   |_=>exact h1
  have hpast:=KH ss [] (fun x hx=>by cases hx);lk;rw[dB T8.ins BF,nO,aE T8.pc];refine dX toD (fun s=>.int (R1.idxOf (nZ s):Nat)) (cZ ss []) [] eB (fun aV y a ha=>?_) (fun t ht aV K y1 hK=>?_) (by simp only[az];omega) fun rR y9=>?_;·simp only[ah]at ha;subst ha;rw[T8.pc,y _ _ T8.pc]
  ·have T'':=T8.keep y1;k_ne;rw[iM T''.ins (by rw[iI (by decide +kernel) (by decide +kernel) (by decide +kernel) (by decide +kernel)];simp only[bY];rw[if_neg (by decide +kernel)])];refine⟨True.intro,?_⟩;have cN:=List.idxOf_lt_length_iff.mpr (hin t ht);have hd8:aQ t<=8:=yH ss (n:=8) (by simp) (fun x hx=>(ho x hx).2) t ht;refine Li (k:=k+10) hrr T'' (hpast t ht) hd8 (j:=R1.idxOf (nZ t)) (by rw[ai cN];simp) ?_;exact hK aV .refl
  rw[av];refine bS (by simp only[ab];omega) fun lm O1 y10 hlm hlm10=>?_;k_ne;have T10:=T8.keep (y9.trans y10);rw[nI T10.ins (by simp [qP]),gY (by rw[iI (by decide +kernel) (by decide +kernel) (by decide +kernel) (by decide +kernel)];simp only[bY];rw[if_neg (by decide +kernel)])];simp only[aI];generalize hst11:put O1 p _=O2;have nep2:∀ a o,a≠p->O1 a=some o->O2 a=some o:=fun a o na e=>by rw[<-hst11,aM na];exact e
  refine hQ O2 R1 (fun a o na e=>?_) ⟨lp,lr,ld,lm,(cZ ss []).map fun s=>R1.idxOf (nZ s),?_,?_,by simp,fun m j s h1 h2=>?_,hpast⟩ rP
  ·simp only[ah]at na;have h7:=k7 a o (by simpa using na) e;have alr:a≠lr:=fun z=>by rw[<-z,k3 a o (by simpa using na) e]at hlr;cases hlr
   have ald:a≠ld:=fun z=>by rw[<-z,k5 a o (by simpa using na) e]at hld;cases hld
   exact nep2 a o na ((y9.trans y10) _ _ (nep a o na ((y2.trans y3) _ _ (k1 a o (by simp [alr,ald]) h7))))
  ·obtain⟨rows,r1,r2,r3⟩:=T10.rows;refine⟨by rw[<-hst11,aN,p0];rfl,nep2 _ _ lpp T10.pc,⟨rows,nep2 _ _ plr.symm r1,r2,fun j s d h1 h2=>?_⟩,nep2 _ _ pld.symm T10.tab,T10.ne,T10.nd,T10.gd,T10.len,T10.pd⟩;obtain⟨q,is,c1,c2,c3,c4⟩:=r3 j s d h1 h2;exact⟨q,is,c1,c2,nep2 _ _ (fun z=>by rw[z,T10.ins]at c3;cases c3) c3,c4⟩
  ·rw[nep2 _ _ (fun z=>by rw[z,(T8.keep y9).ins]at hlm;cases hlm) hlm10,md];rfl
  ·rw[bg,h2]at h1;simp at h1;subst h1;have cN:=List.idxOf_lt_length_iff.mpr (hin s (bp h2));rw[ai cN];simp
end
noncomputable def sW (iti io:Nat):Fn:=⟨2,2,[.asg (.fl (W "Rules") (W "table") (.v 0)) (.mk (W "Table") iti [(.bin .add (.ix (.v 1) (.c (.int 0))) (.ix (.v 1) (.c (.int 1)))),(.call io [(.ix (.v 1) (.c (.int 2))),(.ix (.v 1) (.c (.int 3))),(.ix (.v 1) (.c (.int 4)))])]),.asg (.fl (W "Rules") (W "promise_rows") (.v 0)) (.comp 1 [0] [0] true none [(.ix (.v 1) (.c (.int 2)))] [] (.dix (.fld (W "Table") (W "row_of") (.fld (W "Rules") (W "table") (.v 1))) (.v 0))),.asg (.fl (W "Rules") (W "must_rows") (.v 0)) (.comp 1 [0] [0] true none [(.ix (.v 1) (.c (.int 3)))] [] (.dix (.fld (W "Table") (W "row_of") (.fld (W "Rules") (W "table") (.v 1))) (.v 0))),.asg (.fl (W "Rules") (W "priced_rows") (.v 0)) (.comp 1 [0] [0] true none [(.ix (.v 1) (.c (.int 4)))] [] (.tup [(.ix (.v 0) (.c (.int 0))),(.dix (.fld (W "Table") (W "row_of") (.fld (W "Rules") (W "table") (.v 1))) (.ix (.v 0) (.c (.int 1))))]))]⟩
noncomputable def nL:Fn:=⟨2,2,[.ret (.and_ (.isi (.v 0) [.tuple]) (.and_ (.cmp .eq (.bi .len [(.v 0)]) (.v 1)) (.bi .all [(.comp 1 [] [0] true none [(.v 0)] [] (.isi (.v 0) [.bool]))])))]⟩
noncomputable def sA (ist:Nat):Fn:=⟨2,3,[.asg (.nm 2) (.bin .add (.bi .len [(.ix (.v 0) (.c (.int 0)))]) (.bi .len [(.ix (.v 0) (.c (.int 1)))])),.iff (.or_ (.not_ (.isi (.v 1) [.list])) (.not_ (.bi .all [(.comp 1 [2] [0] true none [(.v 1)] [] (.call ist [(.v 0),(.v 1)]))]))) [.rais 3 [(.c (.str (W "no play for this book")))]] [],.ret (.v 1)]⟩
noncomputable def nJ (ibk:Nat):Fn:=⟨1,1,[.iff (.not_ (.call ibk [(.v 0)])) [.rais 2 [(.c (.str (W "no book")))]] [],.ret (.v 0)]⟩
theorem Table.keep {st aA:aB}{p:Nat}{names:List (List Nat)}{aK R:List Sy}(T:Table st p names aK R)(h:Ext st aA):Table aA p names aK R:=by obtain⟨lp,lr,ld,lm,js,a,b,c⟩:=T.h;exact⟨lp,lr,ld,lm,js,a.keep h,h _ _ b,c⟩
theorem Table.set {st:aB}{p r:Nat}{names:List (List Nat)}{aK R:List Sy}{fs:List (List Nat×D)}{o:MO}(T:Table st p names aK R)(hr:st r=some (.ins (W "Rules") fs)):Table (put st r o) p names aK R:=by
 obtain⟨lp,lr,ld,lm,js,a,b',c⟩:=T.h;have nr:∀ a u,st a=some u->u≠.ins (W "Rules") fs->put st r o a=some u:=fun a u e n=>by rw[aM (fun z=>n (by rw[z,hr]at e;cases e;rfl))];exact e
 have hc:W "Table" ≠ W "Rules":=by decide +kernel
 obtain⟨rows,r1,r2',r3⟩:=a.rows;refine⟨lp,lr,ld,lm,js,⟨nr _ _ a.ins (fun z=>by injection z with z1;exact hc z1),nr _ _ a.pc (fun z=>nomatch z),⟨rows,nr _ _ r1 (fun z=>nomatch z),r2',fun j s d h1 h2=>?_⟩,nr _ _ a.tab (fun z=>nomatch z),a.ne,a.nd,a.gd,a.len,a.pd⟩,nr _ _ b' (fun z=>nomatch z),c⟩;obtain⟨q,is,c1,c2,c3,c4⟩:=r3 j s d h1 h2;exact⟨q,is,c1,c2,nr _ _ c3 (fun z=>nomatch z),c4⟩
theorem Table.row {st:aB}{p:Nat}{names:List (List Nat)}{aK R:List Sy}(T:Table st p names aK R):∃ ld fs,st p=some (.ins (W "Table") fs)/\bY fs (W "row_of")=some (.ref ld)/\st ld=some (.tab (R.map toD) (uC R.length))/\∀ s∈R,aQ s<=8/\lP (R.map toD) (uC R.length) (toD s)=some (.int (R.idxOf s:Nat)):=by obtain⟨lp,lr,ld,lm,js,a,b,c⟩:=T.h;refine⟨ld,_,a.ins,pS,a.tab,fun s hs=>⟨(a.gd s hs).dp,?_⟩⟩;have cN:=List.idxOf_lt_length_iff.mpr hs;exact a.look (by rw[ai cN];simp)
noncomputable def uL (p l1 l2 l3:Nat):List (List Nat×D):=[(W "table", .ref p),(W "promise_rows", .ref l1),(W "must_rows", .ref l2),(W "priced_rows", .ref l3)]
structure iJ (st:aB)(r p l1 l2 l3:Nat)(b:Bk)(R:List Sy):Prop where
 ins:st r=some (.ins (W "Rules") (uL p l1 l2 l3))tab:Table st p b.names (cZ b.says []) R
 pr:st l1=some (.lst (b.ps.map fun s=>.int (R.idxOf s:Nat)))mu:st l2=some (.lst (b.ms.map fun s=>.int (R.idxOf s:Nat)))wi:st l3=some (.lst (b.ws.map fun w=>.tup [.int w.1,.int (R.idxOf w.2:Nat)]))all:∀ s∈b.says,s∈R
theorem iJ.keep {st aA:aB}{r p l1 l2 l3:Nat}{b:Bk}{R:List Sy}(T:iJ st r p l1 l2 l3 b R)(h:Ext st aA):iJ aA r p l1 l2 l3 b R:=⟨h _ _ T.ins,T.tab.keep h,h _ _ T.pr,h _ _ T.mu,h _ _ T.wi,T.all⟩
section
variable {G:Prog}{k i ie iw ipo iz irr iti io r:Nat}{st:aB}{Q:VK}{E:XK}{b:Bk}
theorem RH (B:b.Ok):∀ s∈b.says,over b.names s/\aQ s<=8:=by
 intro s hs;simp only[Bk.says,kj,sk]at hs;rcases hs with(hs|hs)|⟨w,hw,rfl⟩;·exact B.p2 s hs
 ·exact B.m2 s hs
 ·exact⟨(B.w3 w hw).2.2.1,(B.w3 w hw).2.2.2⟩
theorem MH (h:G.fns i=some (sW iti io))(ht:G.fns iti=some (lY iz ie irr))(hz:G.fns iz=some (jF iw))(he:G.fns ie=some (oK ie iw ipo))(hw:G.fns iw=some gE)(hpo:G.fns ipo=some pD)(hrr:G.fns irr=some xY)(hio:G.fns io=some oJ) (B:b.Ok)(hs:fW b.says<=5000)(gT:(cZ b.says []).length<=5000)(hr:st r=some (.ins (W "Rules") []))(hQ:∀ aA p l1 l2 l3 R,bL [r] st aA->iJ aA r p l1 l2 l3 b R->Q .non aA):aH G (k+13) i [.ref r,b.d] st Q E:=by
 have hL:bE=16777216:=rfl;have f2:=B.f2;have g2:=B.g2;have p1:=B.p1;have m1:=B.m1;have w2:=B.w2;have e2:bY (uL 0 0 0 0) (W "table")=some (.ref 0):=by simp only[uL,bY];rw[if_pos cy]
 rw[aW h];simp only[sW,start];refine⟨rfl,?_⟩;have hd:b.d=.tup [.tup (b.fs.map .str),.tup (b.gs.map .str),.tup (b.ps.map toD),.tup (b.ms.map toD),.tup (b.ws.map fun w=>.tup [.int w.1,toD w.2])]:=rfl;rw[hd];lk;refine⟨by simp only[ab];omega,?_⟩;refine KS (k:=k+11) hio (by omega) (by omega) (by omega) fun l aC x1 l1=>?_;intro p hp;have l1':aC l=some (.lst (b.says.map toD)):=by rw[l1];simp [Bk.says]
 have lp:l≠p:=fun z=>by rw[z,hp]at l1;cases l1
 have rp:r≠p:=fun z=>by rw[<-z,x1 _ _ hr]at hp;cases hp
 have en:(b.fs.map D.str++b.gs.map D.str)=b.names.map .str:=by simp [Bk.names]
 rw[en];refine O5 (k:=k) ht hz he hw hpo hrr aN (by rw[aM lp];exact l1') (RH B) hs gT fun aF R k2 T2 rP=>⟨rfl,?_⟩;have kk2:Ext aC aF:=fun a o e=>k2 a o (by intro z;simp only[ah]at z;rw[z,hp]at e;cases e) (sC hp e);have r2:aF r=some (.ins (W "Rules") []):=kk2 _ _ (x1 _ _ hr);k_ne;rw[nI r2 (by simp),gY rfl];generalize hst3:put aF r _=aX;have T2':=T2;have ne3:∀ a o,a≠r->aF a=some o->aX a=some o:=fun a o na e=>by rw[<-hst3,aM na];exact e
 have T3:Table aX p b.names (cZ b.says []) R:=by rw[<-hst3];exact T2.set r2
 have r3:aX r=some (.ins (W "Rules") ([]++[(W "table", .ref p)])):=by rw[<-hst3,aN]
 have kk3:bL [r] st aX:=x1.keep.trans (kk2.keep.trans (by rw[<-hst3];exact bL.put (by simp)));have look:∀{cG:aB}{fs:List (List Nat×D)}{s:Sy}{Q':VK},Table cG p b.names (cZ b.says []) R->cG r=some (.ins (W "Rules") fs)->bY fs (W "table")=some (.ref p)->s∈R->Q' (.int (R.idxOf s:Nat)) cG -> rK (W "Rules") (W "table") (.ref r) cG fun x aC=>rK (W "Table") (W "row_of") x aC fun y aF=>tF (toD s) y aF Q':=by intro cG fs s Q' T4 r4 hf hsR hq;obtain⟨ld,fs',a1,a2,a3,a4⟩:=T4.row;rw[dB r4 hf,dB a1 a2,BB a3 (qG (a4 s hsR).1) (a4 s hsR).2];exact hq
 lk;refine dX toD (fun s=>.int (R.idxOf s:Nat)) b.ps [] aX (fun aV y a ha=>by cases ha) (fun t ht aV K y1 hK=>?_) (by simp only[az];omega) fun cG y4=>?_;·exact look (T3.keep y1) (y1 _ _ r3) (by simp only[av,bY];rw[if_pos cy]) (rP t (by simp [Bk.says,ht])) (hK aV .refl)
 rw[av];refine bS (by simp only[ab];omega) fun l1 cW y5 hl1 l15=>?_;k_ne;have y35:=y4.trans y5;rw[nI (y35 _ _ r3) (by simp),gY (by simp only[av,bY];rw[if_neg (by decide +kernel)])];generalize hst6:put cW r _=fM;have T6:Table fM p b.names (cZ b.says []) R:=by rw[<-hst6];exact(T3.keep y35).set (y35 _ _ r3)
 have r6:fM r=some (.ins (W "Rules") ([]++[(W "table", .ref p)]++[(W "promise_rows", .ref l1)])):=by rw[<-hst6,aN]
 have n6:∀ a o,a≠r->cW a=some o->fM a=some o:=fun a o na e=>by rw[<-hst6,aM na];exact e
 have l1r:l1≠r:=fun z=>by rw[z,y4 _ _ r3]at hl1;cases hl1
 have l16:=n6 _ _ l1r l15;have kk6:bL [r] st fM:=kk3.trans (y35.keep.trans (by rw[<-hst6];exact bL.put (by simp)));lk;refine dX toD (fun s=>.int (R.idxOf s:Nat)) b.ms [] fM (fun aV y a ha=>by cases ha) (fun t ht aV K y1 hK=>?_) (by simp only[az];omega) fun kF y7=>?_;·exact look (T6.keep y1) (y1 _ _ r6) (by simp only[av,cg,bY];rw[if_pos cy]) (rP t (by simp [Bk.says,ht])) (hK aV .refl)
 rw[av];refine bS (by simp only[ab];omega) fun l2 eB y8 hl2 l28=>?_;k_ne;have y68:=y7.trans y8;rw[nI (y68 _ _ r6) (by simp),gY (by simp only[av,cg,bY];rw[if_neg (by decide +kernel),if_neg (by decide +kernel)])];generalize hst9:put eB r _=rR;have T9:Table rR p b.names (cZ b.says []) R:=by rw[<-hst9];exact(T6.keep y68).set (y68 _ _ r6)
 have r9:rR r=some (.ins (W "Rules") ([]++[(W "table", .ref p)]++[(W "promise_rows", .ref l1)]++[(W "must_rows", .ref l2)])):=by rw[<-hst9,aN]
 have n9:∀ a o,a≠r->eB a=some o->rR a=some o:=fun a o na e=>by rw[<-hst9,aM na];exact e
 have l2r:l2≠r:=fun z=>by rw[z,y7 _ _ r6]at hl2;cases hl2
 have l29:=n9 _ _ l2r l28;have l19:=n9 _ _ l1r (y68 _ _ l16);have kk9:bL [r] st rR:=kk6.trans (y68.keep.trans (by rw[<-hst9];exact bL.put (by simp)));lk;refine dX (fun w:Int×Sy=>D.tup [.int w.1,toD w.2]) (fun w=>.tup [.int w.1,.int (R.idxOf w.2:Nat)]) b.ws [] rR (fun aV y a ha=>by cases ha) (fun t ht aV K y1 hK=>?_) (by simp only[az];omega) fun O1 y10=>?_;·refine look (s:=t.2) (T9.keep y1) (y1 _ _ r9) (by simp only[av,cg,bY];rw[if_pos cy]) (rP t.2 (by simp only[Bk.says,kj,sk];exact .inr ⟨t,ht,rfl⟩)) ?_;exact hK aV .refl
 rw[av];refine bS (by simp only[ab];omega) fun l3 O2 y11 hl3 l311=>?_;k_ne;have y911:=y10.trans y11;rw[nI (y911 _ _ r9) (by simp),gY (by simp only[av,cg,bY];rw[if_neg (by decide +kernel),if_neg (by decide +kernel),if_neg (by decide +kernel)])];simp only[aI];generalize hst12:put O2 r _=Nx;have n12:∀ a o,a≠r->O2 a=some o->Nx a=some o:=fun a o na e=>by rw[<-hst12,aM na];exact e
 have l3r:l3≠r:=fun z=>by rw[z,y10 _ _ r9]at hl3;cases hl3
 refine hQ Nx p l1 l2 l3 R (kk9.trans (y911.keep.trans (by rw[<-hst12];exact bL.put (by simp)))) ⟨by rw[<-hst12,aN];rfl,by rw[<-hst12];exact(T9.keep y911).set (y911 _ _ r9),n12 _ _ l1r (y911 _ _ l19),n12 _ _ l2r (y911 _ _ l29),n12 _ _ l3r l311,rP⟩
end
noncomputable def aY (bs:List Bool):D:=.tup (bs.map .bl)
def GA (G:Prog)(ibk kb:Nat)(b:Bk):Prop:=∀(k:Nat)(st:aB)(Q:VK)(E:XK),(∀ aA,Ext st aA->Q (.bl true) aA)->aH G (k+kb) ibk [b.d] st Q E
section
variable {G:Prog}{k i ibk kb ich icp ist ie iw ipo iz irr iti io iri ima fY iph inh:Nat}{st:aB}{Q:VK}{E:XK}{b:Bk}
theorem SH (h:G.fns ist=some nL){bs:List Bool}{n:Nat}(hn:bs.length=n)(hl:n<=100)(hQ:∀ aA,Ext st aA->Q (.bl true) aA):aH G (k+1) ist [aY bs,.int n] st Q E:=by
 have hL:bE=16777216:=rfl;rw[aW h];simp only[nL,start,aY];refine⟨rfl,?_⟩;lk;have e1:(((bs.map D.bl).length:Int)==(n:Int))=true:=by rw[ab,hn];simp
 simp only[e1,if_true];k_ne;refine dX D.bl (fun _=>.bl true) bs [] st (fun aV y a ha=>by cases ha) (fun t ht aV K y1 hK=>hK aV .refl) (by simp only[az];omega) fun aF y2=>?_;rw[av];refine bS (by simp only[ab];omega) fun pp aX y3 hpp mT=>?_;k_ne;rw[aE mT,kO,bB];have e2:(bs.map fun _=>true).all id=true:=by simp
 rw[e2];exact hQ aX (y2.trans y3)
theorem SX (h:G.fns icp=some (sA ist))(hs:G.fns ist=some nL)(B:b.Ok){l:Nat}{bD:List (List Bool)}(hl:st l=some (.lst (bD.map aY)))(hp:∀ bs∈bD,bs.length=b.names.length)(dO:bD.length<=1000) (hQ:∀ aA,Ext st aA->Q (.ref l) aA):aH G (k+2) icp [b.d,.ref l] st Q E:=by
 have hL:bE=16777216:=rfl;have f2:=B.f2;have g2:=B.g2;have jT:b.names.length=b.fs.length+b.gs.length:=by simp [Bk.names]
 rw[aW h];simp only[sA,start,Bk.d];refine⟨rfl,?_⟩;lk;lk;rw[eI hl];(try simp only[e8,ak,if_false]);k_ne;rw[aE hl];have en:((b.fs.map D.str).length:Int)+((b.gs.map D.str).length:Int)=(b.names.length:Nat):=by rw[jT];simp
 refine dX aY (fun _=>.bl true) bD [] st (fun aV y a ha=>?_) (fun t ht aV K y1 hK=>?_) (by simp only[az];omega) fun aF y2=>?_;·simp only[ah]at ha;subst ha;rw[hl,y _ _ hl]
 ·rw[en];exact SH hs (hp t ht) (by omega) fun aX y3=>hK aX y3
 rw[av];refine bS (by simp only[ab];omega) fun pp aX y3 hpp mT=>?_;k_ne;rw[aE mT,kO,bB];have e2:(bD.map fun _=>true).all id=true:=by simp
 rw[e2];simp only[e8,ak,if_false,aI];lk;exact hQ aX (y2.trans y3)
theorem EJ (h:G.fns ich=some (nJ ibk))(hb:GA G ibk kb b)(hQ:∀ aA,Ext st aA->Q b.d aA):aH G (k+kb+1) ich [b.d] st Q E:=by rw[aW h];simp only[nJ,start];refine⟨rfl,?_⟩;lk;refine hb k _ _ _ fun aC x1=>?_;k_ne;simp only[aI];lk;exact hQ aC x1
end
local macro_rules|`(tactic| w_up)=>`(tactic| (first|rw[if_pos (by decide +kernel)]|rw[if_neg (by decide +kernel)]))
theorem lX {α:Type}{g:aB->Prop}{turn:D->aB->(Option D->aB->Prop)->Prop}{R:List D->aB->Prop}(t:α->D)(f:α->Option D):∀(xs:List α)(acc:List D)(st:aB),(∀ aA,Ext st aA->g aA)->(∀ x∈xs,∀ aA (K:Option D->aB->Prop),Ext st aA->(∀ aV,Ext aA aV->K (f x) aV)->turn (t x) aA K) ->acc.length+xs.length<=bE->(∀ aA,Ext st aA->R (acc++xs.filterMap f) aA)->kM g turn (xs.map t) acc st R|[],acc,st,hg,_,_,hR=>⟨hg st .refl,by simpa using hR st .refl⟩|x::xs,acc,st,hg,ht,hl,hR=>by simp only[bf]at hl;refine⟨hg st .refl,by omega,ht x (by simp) st _ .refl fun aV h''=>?_⟩;cases hf:f x with|none =>exact lX t f xs acc aV (fun aA h=>hg aA (h''.trans h)) (fun y hy aA K h=>ht y (by simp [hy]) aA K (h''.trans h)) (by omega) fun aA h=>by simpa [hf]using hR aA (h''.trans h)|some d =>exact lX t f xs (acc++[d]) aV (fun aA h=>hg aA (h''.trans h)) (fun y hy aA K h=>ht y (by simp [hy]) aA K (h''.trans h)) (by simp only[bq,bf,az];omega) fun aA h=>by simpa [hf]using hR aA (h''.trans h)
theorem qK (n:Nat):jE 0 n=(ay n).map fun k=>D.int (k:Nat):=by unfold jE;congr 1;funext k;simp
theorem pO (bs:List Bool):bQ (aY bs)=true:=by simp only[aY,bQ];induction bs with|nil=>rfl|cons a l ih=>simp only[bb,cD,bQ,ih,fz]
theorem BU (bs:List Bool):cT (aY bs)<=1:=by
 simp only[aY,cT];have:cX (bs.map D.bl)=0:=by induction bs with|nil=>rfl|cons a l ih=>simp only[bb,cX,cT,ih];rfl
 omega
noncomputable def BO (is dR:Nat):Fn:=⟨5,7,[.asg (.nm 5) (.call is [(.v 0),(.v 1),(.v 2),(.c (.int 1)),(.lst [(.c (.int 0))])]),.iff (.and_ (.cmp .gt (.ix (.v 4) (.c (.int 0))) (.c (.int 0))) (.cmp .eq (.call dR [(.v 0),(.v 1),(.c (.int 2))]) (.c (.int 1)))) [.asg (.ix (.v 4) (.c (.int 0))) (.bin .sub (.ix (.v 4) (.c (.int 0))) (.c (.int 1))),.asg (.nm 6) (.call is [(.v 0),(.v 1),(.v 3),(.c (.int 1)),(.lst [(.c (.int 0))])]),.ret (.tup [(.ix (.lst [(.c (.str (W "then"))),(.c (.str (W "or"))),(.c (.str (W "same")))]) (.call dR [(.v 0),(.v 1),(.c (.int 3))])),(.tup [(.c (.str (W "before"))),(.v 6)]),(.v 5)])] [],.ret (.v 5)]⟩
noncomputable def CL (inm dR is ipr:Nat):Fn:=⟨4,14,[.asg (.nm 4) (.lst [(.v 1)]),.asg (.tp [5,6]) (.call inm [(.v 0),(.v 4)]),.asg (.nm 7) (.bin .add (.v 5) (.v 6)),.asg (.nm 8) (.lst [(.call dR [(.v 0),(.v 4),(.bin .add (.v 2) (.c (.int 1)))])]),.asg (.nm 9) (.lst []),.jA (.nm 10) (some .range) [(.bin .add (.c (.int 1)) (.call dR [(.v 0),(.v 4),(.c (.int 3))]))] [.asg (.nm 11) (.bin .add (.c (.int 1)) (.call dR [(.v 0),(.v 4),(.ix (.lst [(.c (.int 3)),(.c (.int 9)),(.c (.int 99))]) (.call dR [(.v 0),(.v 4),(.c (.int 3))]))])),.ex (.cM .append (.v 9) [(.tup [(.v 11),(.call is [(.v 0),(.v 4),(.v 7),(.c (.int 2)),(.v 8)])])])],.asg (.nm 12) (.comp 1 [0,4,7,8] [0] true (some .range) [(.call dR [(.v 0),(.v 4),(.bin .add (.v 3) (.c (.int 1)))])] [] (.call is [(.v 1),(.v 2),(.v 3),(.c (.int 2)),(.v 4)])),.asg (.nm 13) (.comp 1 [0,4,5,7,8] [0] true (some .range) [(.call dR [(.v 0),(.v 4),(.c (.int 2))])] [] (.call ipr [(.v 1),(.v 2),(.v 3),(.v 4),(.v 5)])),.ret (.tup [(.v 5),(.v 6),(.bi .tuple [(.v 13)]),(.bi .tuple [(.v 12)]),(.bi .tuple [(.v 9)])])]⟩
theorem qM {f g:List (List Nat)}(h:∀ n∈f,n∈g):∀ s:Sy,over f s->over g s|.yes,_=>trivial|.no,_=>trivial|.cU _,q=>h _ q|.one w s,q=>qM h s q|.two w s t,q=>⟨qM h s q.1,qM h t q.2⟩
theorem qJ {fs gs:List (List Nat)}(h:∀ n∈fs,n∉gs):∀ s:Sy,over fs s->eS gs s=false
 |.yes,_=>rfl|.no,_=>rfl|.cU n,q=>by simp only[eS,mj];intro x hx e;have:=h n q;rw[<-eq_of_beq e]at this;exact this hx|.one w s,q=>by cases w<;>first|rfl|exact qJ h s q
 |.two w s t,q=>by simp only[eS,qJ h s q.1,qJ h t q.2,AaD]
section
variable {G:Prog}{k ic im dR is ipr:Nat}{st:aB}{Q:VK}{E:XK}{ns:List Int}
theorem Et (h:G.fns ipr=some (BO is dR))(hs:G.fns is=some (nW dR is))(hn:G.fns dR=some (rZ im))(hm:G.fns im=some (oU ic))(hc:G.fns ic=some qA){fs gs:List (List Nat)}(hf:0<fs.length)(hdis:∀ n∈fs,n∉gs){a b:Nat}(eD:a≠b){i l:Int}(ha:st a=some (.lst [.int i]))(hb:st b=some (.lst [.int l]))(hi:0<=i)(hl:0<=l)(hQ:∀ s aA i',over (fs++gs) s->eS gs s=false->aQ s<=4->(cnt s:Int)<=l->bL [a,b] st aA->0<=i'->aA a=some (.lst [.int i'])->aA b=some (.lst [.int (l-cnt s)])->Q (toD s) aA):aH G (k+6) ipr [.bR (ns.map .int),.ref a,.tup (fs.map .str),.tup ((fs++gs).map .str),.ref b] st Q E:=by
 rw[aW h];simp only[BO,start];refine⟨rfl,?_⟩;have hfm:∀ n∈fs,n∈fs++gs:=fun n hn=>by simp [hn]
 lk;refine bS (by decide) fun z aC x1 hz hz1=>?_;have za:a≠z:=fun e=>by rw[<-e,ha]at hz;cases hz
 have zb:b≠z:=fun e=>by rw[<-e,hb]at hz;cases hz
 have zz:∀ c o,st c=some o->c≠z:=fun c o e q=>by rw[q,hz]at e;cases e
 refine uO (k:=k) hs hn hm hc hf za 1 (x1 _ _ ha) hz1 hi (by omega) fun s aF i2 o1 d1 c1' k2 hi2 a2 z2=>?_;have cs:cnt s=0:=by omega
 have b2:aF b=some (.lst [.int l]):=k2 b _ (by simp [eD.symm,zb]) (x1 _ _ hb);have kk2:bL [a,b] st aF:=fun c o nc e=>k2 c o (by simp only[bw,bj,or_false,not_or]at nc ⊢;exact⟨nc.1,zz c o e⟩) (x1 _ _ e);have base:∀ aX i3,bL [a,b] aF aX->0<=i3->aX a=some (.lst [.int i3])->aX b=some (.lst [.int l])->Q (toD s) aX:=fun aX i3 k3 h3 a3 b3 =>hQ s aX i3 (qM hfm s o1) (qJ hdis s o1) (by omega) (by omega) (kk2.trans k3) h3 a3 (by rw[cs];simpa using b3);lk;rw[dN b2,DL,bB];k_ne;by_cases hl0:0<l;·rw[if_pos hl0];refine gB (k:=k+2) hn hm hc a2 hi2 (by omega) fun aX k3 a3=>?_;have b3:aX b=some (.lst [.int l]):=k3 b _ (by simpa using eD.symm) b2;k_ne;generalize hv:kB ns (i2+1) 2=v;cases hv1:(v==1)with
  |true =>
   simp only[if_true];lk;rw[dN b3,DL,bB];k_ne;rw[aE b3,Bv,bB];generalize hst4:put aX b _=cG;have b4:cG b=some (.lst [.int (l-1)]):=by rw[<-hst4,aN];rfl
   have a4:cG a=some (.lst [.int (i2+1)]):=by rw[<-hst4,aM eD];exact a3
   have k4:bL [a,b] aX cG:=by rw[<-hst4];exact bL.put (by simp)
   lk;refine bS (by decide) fun y cW x5 hy hy5=>?_;have ya:a≠y:=fun e=>by rw[<-e,a4]at hy;cases hy
   have yb:b≠y:=fun e=>by rw[<-e,b4]at hy;cases hy
   have yy:∀ c o,cG c=some o->c≠y:=fun c o e q=>by rw[q,hy]at e;cases e
   refine uO (k:=k) hs hn hm hc (by simp;omega) ya 1 (x5 _ _ a4) hy5 (by omega) (by omega) fun s2 fM i6 o6 d6 c6 k6 hi6 a6 y6=>?_;have cs2:cnt s2=0:=by omega
   have b6:fM b=some (.lst [.int (l-1)]):=k6 b _ (by simp [eD.symm,yb]) (x5 _ _ b4);have kk6:bL [a,b] cG fM:=fun c o nc e=>k6 c o (by simp only[bw,bj,or_false,not_or]at nc ⊢;exact⟨nc.1,yy c o e⟩) (x5 _ _ e);lk;refine bS (by decide) fun u kF x7 hu hu7=>?_;k_ne;refine gB (k:=k+2) hn hm hc (x7 _ _ a6) hi6 (by omega) fun eB k8 a8=>?_;have u8:eB u=some (.lst [.str (W "then"),.str (W "or"),.str (W "same")]):=k8 u _ (by intro z';simp only[ah]at z';rw[z',a6]at hu;cases hu) hu7;have w0:=gR (ns:=ns) (k:=i6+1) (many:=3) (by omega);have w1:=gQ (ns:=ns) (k:=i6+1) (many:=3) (by omega);generalize kB ns (i6+1) 3=w at w0 w1;have b8:eB b=some (.lst [.int (l-1)]):=k8 b _ (by simpa using eD.symm) (x7 _ _ b6);have kk8:bL [a,b] st eB:=((((kk2.trans (k3.mono (by simp))).trans k4).trans kk6).trans x7.keep).trans (k8.mono (by simp));have fin:∀ W2',p2 W2'=false->aQ (Sy.two W2' (.one .before s2) s)<=4->Q (toD (Sy.two W2' (.one .before s2) s)) eB:=fun W2' nC hdp=>by
    have hcn:cnt (Sy.two W2' (.one .before s2) s)=1:=by simp [cnt,nC,p1,cs,cs2]
    refine hQ _ eB (i6+1) ⟨o6,qM hfm s o1⟩ ?_ hdp (by rw[hcn];omega) kk8 (by omega) a8 (by rw[hcn];exact b8);simp only[eS,qJ hdis s o1,AaD]
   k_ne;have hdp:∀ W2',aQ (Sy.two W2' (.one .before s2) s)<=4:=fun W2'=>by simp only[aQ];omega
   have hw:w=0∨w=1∨w=2:=by omega
   rcases hw with rfl|rfl|rfl;·rw[dN u8,DL,bB];exact fin .bF rfl (hdp _)
   ·rw[dN u8,ZY,bB];exact fin .or rfl (hdp _)
   ·rw[dN u8,ZU,bB];exact fin .same rfl (hdp _)|false =>simp only[ak,if_false,aI];lk;exact base aX (i2+1) (k3.mono (by simp)) (by omega) a3 b3
 ·rw[if_neg hl0];(try rw[if_neg hl0]);(try simp only[decide_eq_false hl0,ak,if_false]);rw[aI];lk;exact base aF i2 .refl hi2 a2 b2
end
theorem ZI {fs gs:List (List Nat)}(h:wB fs gs=true):1<=fs.length/\fs.length<=2/\1<=gs.length/\gs.length<=2/\(fs++gs).Nodup/\∀ n∈fs++gs,n∈pW:=by simp only[wB,bc,decide_eq_true_eq,f6]at h;obtain⟨⟨⟨⟨⟨a,b⟩,c⟩,d⟩,e⟩,f⟩:=h;exact⟨a,b,c,d,e,fun n hn=>by simpa using f n hn⟩
theorem TL:∀ n∈pW,fS n=true:=by decide +kernel
noncomputable def fJ (l:List Sy):Nat:=(l.map cnt).sum
theorem vE (a b:List Sy):fJ (a++b)=fJ a+fJ b:=by simp [fJ]
theorem L4 (f:List Sy)(s:Sy):(fF f s).length<=f.length+(if bX s=true then 1 else 0):=by unfold fF;cases h:bX s with|true=>simp only[jm,if_true];split<;>simp|false=>simp
theorem BG:∀(s:Sy)(f:List Sy),(aK s f).length<=f.length+cnt s|.yes,f=>by simp [aK]|.no,f=>by simp [aK]|.cU _,f=>by simp [aK]|.one w s,f=>by have h1:=BG s (fF f (.one w s));have h2:=L4 f (.one w s);simp only[bX]at h2;simp only[aK,cnt];cases h:p1 w<;>simp [h]at h2 ⊢<;>omega|.two w s t,f=>by have h1:=BG s (fF f (.two w s t));have h2:=L4 f (.two w s t);have h3:=BG t (aK s (fF f (.two w s t)));simp only[bX]at h2;simp only[aK,cnt];cases h:p2 w<;>simp [h]at h2 ⊢<;>omega
theorem NP:∀(l f:List Sy),(cZ l f).length<=f.length+fJ l
 |[],f=>by simp [cZ,fJ]|s::l,f=>by
  have h1:=NP l (aK s f);have h2:=BG s f;have:fJ (s::l)=cnt s+fJ l:=by simp [fJ]
  simp only[cZ];omega
structure Ub (b:Bk)(pieces gL:Int):Prop where
 ok:b.Ok
 d4:∀ s∈b.says,aQ s<=4
 ms:(b.ms.length:Int)<=gL
 cn:(fJ b.says:Int)<=pieces
 n8:∀ n∈b.names,n∈pW
noncomputable abbrev lw (at_ pieces gL:Int)(ns:List Int)(fs gs:List (List Nat))(m lf wl:Nat)(rA rS RR Ny:Option D):St:=[some (.bR (ns.map .int)),some (.int at_),some (.int pieces),some (.int gL),some (.ref m),some (.tup (fs.map .str)),some (.tup (gs.map .str)),some (.tup ((fs++gs).map .str)),some (.ref lf),some (.ref wl),rA,rS,RR,Ny]
inductive WI (wn:Option D->Option D->St)(names:List (List Nat))(m lf wl:Nat)(fM:aB)(lv v:Int)(rest:List Nat)(σ:St)(aA:aB):Prop |mk (j:Nat)(rA rS:Option D)(i':Int)(ws:List (Int×Sy))(e1:rest=(ay (1+v).toNat).drop j)(e2:σ=wn rA rS)(q1:bL [m,lf,wl] fM aA)(q2:0<=i')(q3:aA m=some (.lst [.int i']))(q4:aA lf=some (.lst [.int (lv-fJ (ws.map (·.2)))]))(q5:(fJ (ws.map (·.2)):Int)<=lv)(q6:aA wl=some (.lst (ws.map fun w:Int×Sy=>.tup [.int w.1,toD w.2])))(q7:ws.length=j)(q7':j<=(1+v).toNat)(q8:∀ w∈ws,1<=w.1/\w.1<=99/\over names w.2/\aQ w.2<=3)
theorem Xd {a b c:Nat}{x:Int}(h:(a:Int)<=x)(h':(b:Int)<=x-a):((a+b:Nat):Int)<=x:=by omega
theorem Xy {a b:Nat}{x:Int}:x-(a:Int)-(b:Int)=x-((a+b:Nat):Int):=by omega
theorem Bc {b:Nat}{x:Int}(h:(b:Int)<=x):0<=x-(b:Int):=by omega
theorem draws {turn:D->aB->(Option D->aB->Prop)->Prop}{R:List D->aB->Prop}{m lf:Nat}{ok:Sy->Prop}{tR:aB}(ht:∀(x:D)(st:aB)(K:Option D->aB->Prop)(i c:Int),0<=i->0<=c->st m=some (.lst [.int i])->st lf=some (.lst [.int c])->(∀ s aA i',ok s->(cnt s:Int)<=c->bL [m,lf] st aA->0<=i'->aA m=some (.lst [.int i'])->aA lf=some (.lst [.int (c-cnt s)])->K (some (toD s)) aA)->turn x st K):∀(xs:List D)(ss:List Sy){st:aB}{i c:Int},0<=i->0<=c->st m=some (.lst [.int i])->st lf=some (.lst [.int c])->ss.length+xs.length<bE ->(∀ ss' aA i',(∀ s∈ss',ok s)->ss'.length=xs.length->(fJ ss':Int)<=c->bL [m,lf] st aA->0<=i'->aA m=some (.lst [.int i'])->aA lf=some (.lst [.int (c-fJ ss')])->R ((ss++ss').map toD) aA) ->kM (same [] tR) turn xs (ss.map toD) st R|[],ss,st,i,c,hi,hc,hm,hl,hn,h=>⟨MR,by have q:=h [] st i (fun _ h=>nomatch h) rfl (by simpa [fJ]using hc) .refl hi hm (by simpa [fJ]using hl);rw[d5]at q;exact q⟩|x::xs,ss,st,i,c,hi,hc,hm,hl,hn,h=>⟨MR,by rw[ab];simp only[bf]at hn;omega,ht x st _ i c hi hc hm hl fun s aA i' o1 o2 k1 hi' m1 l1=>by
 have q:=draws (tR:=tR) ht xs (ss++[s]) hi' (Bc o2) m1 l1 (by simp only[bq,bf,az]at hn ⊢;omega) (fun ss' aV i'' p1 p2 p3 p4 p5 p6 p7=>by
  have e:fJ (s::ss')=cnt s+fJ ss':=by simp [fJ]
  have z:=h (s::ss') aV i'' (fun s' iA=>by
  rcases List.mem_cons.mp iA with rfl|iA;·exact o1
  ·exact p1 s' iA) (by simp [p2]) (by rw[e];exact Xd (c:=0) o2 p3) (k1.trans p4) p5 p6 (by rw[e,<-Xy];exact p7);rw[p0];exact z);rw[dw]at q;exact q⟩
section
variable {G:Prog}{k i inm ic im dR is ipr:Nat}{st:aB}{Q:VK}{E:XK}{ns:List Int}
theorem Hs {v:Int}{n:Int}(h0:0<=v)(h1:v<n)(hn:n<=4):gF v:=by unfold gF;omega
theorem Bx {v:Int}{n:Int}{a:Nat}(e:a=v.toNat)(h1:v<n)(hn:n<=4):a<=3:=by omega
theorem Xf {v n:Int}{a:Nat}(e:a=v.toNat)(h0:0<=v)(h1:v<n+1):(a:Int)<=n:=by omega
theorem Xe {a b c:Nat}{x y:Int}(h:(a:Int)<=x-c-b)(h':x<y+1):((a+b+c:Nat):Int)<=y:=by omega
theorem U0 {a:Nat}(h:a<=3):a<=bE:=dg h (by decide)
theorem XY (hp:G.fns ipr=some (BO is dR))(hs:G.fns is=some (nW dR is))(hn:G.fns dR=some (rZ im))(hm:G.fns im=some (oU ic))(hc:G.fns ic=some qA){fs gs:List (List Nat)}(f1:0<fs.length)(fpos:0<(fs++gs).length)(hdis:∀ n∈fs,n∉gs){m lf wl:Nat}(mlf:m≠lf)(mwl:m≠wl)(lfwl:lf≠wl){at_ pieces gL i' c:Int}(hmu:0<=gL)(hmu3:gL<=3){ws:List (Int×Sy)}{rA rS:Option D}(q2:0<=i')(q3:st m=some (.lst [.int i']))(q4:st lf=some (.lst [.int c]))(hc0:0<=c)(q6:st wl=some (.lst (ws.map fun w:Int×Sy=>.tup [.int w.1,toD w.2])))(hws:ws.length<=3)(hQ:∀ ps ms aA,(∀ s∈ms,over (fs++gs) s/\aQ s<=3)->(ms.length:Int)<=gL->ms.length<=3->(∀ s∈ps,over (fs++gs) s/\aQ s<=4/\eS gs s=false)->ps.length<=3->(fJ ms:Int)<=c->(fJ ps:Int)<=c-fJ ms->bL [m,lf] st aA->Q (Bk.d ⟨fs,gs,ps,ms,ws⟩) aA):dD (aH G (k+6)) G.sub ((CL inm dR is ipr).body.drop 6) ⟨fun _ aA=>Q .non aA,Q,fun _ _=>False,fun _ _=>False,fun c _ aA=>E c aA⟩ (lw at_ pieces gL ns fs gs m lf wl rA rS none none) st:=by
 simp only[CL,yo,tx,lw];lk;refine gB (k:=k+3) hn hm hc q3 q2 (by omega) fun kF k7 m7=>?_;have V2:=gR (ns:=ns) (k:=i'+1) (many:=gL+1) (by omega);have V3:=gQ (ns:=ns) (k:=i'+1) (many:=gL+1) (by omega);generalize kB ns (i'+1) (gL+1)=v2 at V2 V3;k_ne;have h4:gL+1<=4:=by omega
 refine⟨Hs V2 V3 h4,?_⟩;have lf7:=k7 lf _ (by simpa using mlf.symm) q4;have wl7:=k7 wl _ (by simpa using mwl.symm) q6;refine draws (m:=m) (lf:=lf) (ok:=fun s=>over (fs++gs) s/\aQ s<=3) (fun x aA K i c hi hc' h1 h2 hK=>?_) _ [] (by omega) hc0 m7 lf7 ?_ fun ms eB i8 z8 z7 z6 z2 z3 z4 z5=>?_;·exact uO (k:=k) hs hn hm hc fpos mlf 2 h1 h2 hi hc' fun s eB i8 o8 d8 c8 k8 hi8 m8 lf8=>hK s eB i8 ⟨o8,d8⟩ c8 k8 hi8 m8 lf8
 ·simp only[az,jE,ab,dm];exact tu (by rw[si];exact Bx rfl V3 h4) (by decide)
 simp only[jE,ab,dm]at z7;have m3:=Bx z7 V3 h4;refine bS (by rw[av,ab];exact U0 m3) fun ml rR x9 hml ml9=>?_;k_ne;have wl9:=x9 _ _ (z2 wl _ (by simp [mwl.symm,lfwl.symm]) wl7);lk;refine gB (k:=k+3) hn hm hc (x9 _ _ z4) z3 (by decide) fun sta ka ma=>?_;have V4:=gR (ns:=ns) (k:=i8+1) (many:=2) (by decide);have V5:=gQ (ns:=ns) (k:=i8+1) (many:=2) (by decide);generalize kB ns (i8+1) 2=v3 at V4 V5;k_ne;refine⟨Hs V4 V5 (by decide),?_⟩;have mml:m≠ml:=fun z=>by rw[<-z,z4]at hml;cases hml
 have lfml:lf≠ml:=fun z=>by rw[<-z,z5]at hml;cases hml
 have lfa:=ka lf _ (by simpa using mlf.symm) (x9 _ _ z5);have wla:=ka wl _ (by simpa using mwl.symm) wl9;have mla:=ka ml _ (by simpa using mml.symm) ml9;refine draws (m:=m) (lf:=lf) (ok:=fun s=>over (fs++gs) s/\aQ s<=4/\eS gs s=false) (fun x aA K i c hi hc' h1 h2 hK=>?_) _ [] (by omega) (Bc z6) ma lfa ?_ fun ps stb ib y8 y7 y6 y2 y3 y4 y5=>?_;·exact Et (k:=k) hp hs hn hm hc f1 hdis mlf h1 h2 hi hc' fun s eB i8 o8 b8 d8 c8 k8 hi8 m8 lf8=>hK s eB i8 ⟨o8,d8,b8⟩ c8 k8 hi8 m8 lf8
 ·simp only[az,jE,ab,dm];exact tu (by rw[si];exact Bx rfl V5 (by decide)) (by decide)
 simp only[jE,ab,dm]at y7;have p3:=Bx y7 V5 (by decide);refine bS (by rw[av,ab];exact U0 p3) fun pl stc xc dO plc=>?_;k_ne;have wlc:=xc _ _ (y2 wl _ (by simp [mwl.symm,lfwl.symm]) wla);have mlc:=xc _ _ (y2 ml _ (by simp [mml.symm,lfml.symm]) mla);simp only[av]at plc mlc;lk;rw[aE plc];refine⟨by rw[ab];exact U0 p3,?_⟩;rw[aE mlc];refine⟨by rw[ab];exact U0 m3,?_⟩;rw[aE wlc];refine⟨by rw[ab];exact U0 hws,?_⟩;refine hQ ps ms stc z8 (Xf z7 V2 V3) m3 y8 p3 z6 y6 fun a o ha e=>?_;have ha':=ha;simp only[bw,bj,or_false,not_or]at ha';have t7:=k7 a o (by simpa using ha'.1) e;have t9:=ka a o (by simpa using ha'.1) (x9 _ _ (z2 a o ha t7));exact xc _ _ (y2 a o ha t9)
theorem Fv (h:G.fns i=some (CL inm dR is ipr))(jT:G.fns inm=some (zJ dR))(hp:G.fns ipr=some (BO is dR))(hs:G.fns is=some (nW dR is))(hn:G.fns dR=some (rZ im))(hm:G.fns im=some (oU ic))(hc:G.fns ic=some qA){at_ pieces gL:Int}(ha:0<=at_)(hpi:0<=pieces)(hmu:0<=gL)(hmu3:gL<=3) (hQ:∀ b aA,Ub b pieces gL->Ext st aA->Q b.d aA):aH G (k+7) i [.bR (ns.map .int),.int at_,.int pieces,.int gL] st Q E:=by
 have hL:bE=16777216:=rfl;rw[aW h];simp only[CL,start];refine⟨rfl,?_⟩;lk;refine bS (by show 1<=bE;decide) fun m aC x1 hm0 m1=>?_;lk;refine YH (k:=k+2) jT hn hm hc m1 ha fun fs gs aF i2 bO k2 hi2 m2=>?_;obtain⟨f1,f2,g1,g2,nd,n8⟩:=ZI bO;k_ne;lk;refine⟨by simp only[ab];omega,?_⟩;have en:(fs.map D.str++gs.map D.str)=(fs++gs).map .str:=by simp
 rw[en];lk;refine gB (k:=k+3) hn hm hc m2 hi2 (by omega) fun aX k3 m3=>?_;have L0:=gR (ns:=ns) (k:=i2+1) (many:=pieces+1) (by omega);have L1:=gQ (ns:=ns) (k:=i2+1) (many:=pieces+1) (by omega);generalize kB ns (i2+1) (pieces+1)=lv at L0 L1;refine bS (by show 1<=bE;decide) fun lf cG x4 hlf lf4=>?_;have m4:=x4 _ _ m3;have mlf:m≠lf:=fun z=>by rw[<-z,m3]at hlf;cases hlf
 have old3:∀ a o,st a=some o->aX a=some o:=fun a o e=>by
  have hma:a≠m:=fun z=>by rw[z,hm0]at e;cases e
  exact k3 a o (by simpa using hma) (k2 a o (by simpa using hma) (x1 _ _ e))
 have old4:∀ a o,st a=some o->cG a=some o/\a≠m/\a≠lf:=fun a o e=>⟨x4 _ _ (old3 a o e),fun z=>(by rw[z,hm0]at e;cases e),fun z=>(by rw[<-z,old3 a o e]at hlf;cases hlf)⟩;k_ne;lk;refine bS (by simp) fun wl cW x5 hwl wl5=>?_;have m5:=x5 _ _ m4;have lf5:=x5 _ _ lf4;have mwl:m≠wl:=fun z=>by rw[<-z,m4]at hwl;cases hwl
 have lfwl:lf≠wl:=fun z=>by rw[<-z,lf4]at hwl;cases hwl
 have old5:∀ a o,st a=some o->cW a=some o/\a≠m/\a≠lf/\a≠wl:=fun a o e=>by obtain⟨q1,q2,q3⟩:=old4 a o e;exact⟨x5 _ _ q1,q2,q3,fun z=>by rw[<-z,q1]at hwl;cases hwl⟩
 k_ne;lk;refine gB (k:=k+3) hn hm hc m5 (by omega) (by omega) fun fM k6 m6=>?_;have V0:=gR (ns:=ns) (k:=i2+1+1) (many:=3) (by omega);have V1:=gQ (ns:=ns) (k:=i2+1+1) (many:=3) (by omega);generalize kB ns (i2+1+1) 3=v at V0 V1;have lf6:=k6 lf _ (by simpa using mlf.symm) lf5;have wl6:=k6 wl _ (by simpa using mwl.symm) wl5;k_ne;refine⟨by unfold gF;omega,?_⟩;rw[qK];have hname:∀ n∈fs++gs,fS n=true:=fun n hn'=>TL n (n8 n hn');have fpos:0<(fs++gs).length:=by simp;omega
 have hdis:∀ n∈fs,n∉gs:=fun n h1 h2=>by rw[qa]at nd;exact nd.2.2 n h1 n h2 rfl
 refine hJ (fun j:Nat=>D.int (j:Nat)) (I:=WI (fun rA rS=>lw at_ pieces gL ns fs gs m lf wl rA rS none none) (fs++gs) m lf wl fM lv v) (fun rest σ aA _ a ha=>?_) (fun x rest σ aA M ⟨j,rA,rS,i',ws,e1,e2,q1,q2,q3,q4,q5,q6,q7,q7',q8⟩ hM=>?_) (fun σ aA ⟨j,rA,rS,i',ws,e1,e2,q1,q2,q3,q4,q5,q6,q7,q7',q8⟩=>?_) _ _ _ ⟨0,none,none,i2+1+1,[],rfl,rfl,.refl,by omega,m6,by simpa [fJ]using lf6,by simp [fJ];omega,wl6,rfl,dt _,by simp⟩;·cases ha
 ·subst e2;have hj:j<(ay (1+v).toNat).length:=by
   by_cases z:j<(ay (1+v).toNat).length;·exact z
   ·rw[gj (by omega)]at e1;cases e1
  rw[cj hj]at e1;injection e1 with e3 e4;simp only[dm]at hj;simp only[lw];lk;refine bS (by decide) fun u kF x7 hu hu7=>?_;k_ne;refine gB (k:=k+3) hn hm hc (x7 _ _ q3) q2 (by omega) fun eB k8 m8=>?_;have um:u≠m:=fun z=>by rw[z,q3]at hu;cases hu
  have u8:=k8 u _ (by simpa using um) hu7;have w0:=gR (ns:=ns) (k:=i'+1) (many:=3) (by omega);have w1:=gQ (ns:=ns) (k:=i'+1) (many:=3) (by omega);generalize kB ns (i'+1) 3=w at w0 w1;have hpr:∃ c:Int,0<c/\c<=99/\gP [D.int 3,D.int 9,D.int 99] w=some (.int c):=by
   have hw:w=0∨w=1∨w=2:=by omega
   rcases hw with rfl|rfl|rfl;·exact⟨3,by decide,by decide,DL⟩
   ·exact⟨9,by decide,by decide,ZY⟩
   ·exact⟨99,by decide,by decide,ZU⟩
  obtain⟨c,Bc,c99,hc'⟩:=hpr;rw[dN u8,hc',bB];refine gB (k:=k+3) hn hm hc m8 (by omega) Bc fun rR k9 m9=>?_;have y0:=gR (ns:=ns) (k:=i'+1+1) (many:=c) (by omega);have y1:=gQ (ns:=ns) (k:=i'+1+1) (many:=c) (by omega);generalize kB ns (i'+1+1) c=y at y0 y1;k_ne;have kk9:bL [m,lf,wl] aA rR:=(x7.keep.trans (k8.mono (by simp))).trans (k9.mono (by simp));have lf9:rR lf=some (.lst [.int (lv-fJ (ws.map (·.2)))]):=k9 lf _ (by simpa using mlf.symm) (k8 lf _ (by simpa using mlf.symm) (x7 _ _ q4));have wl9:rR wl=some (.lst (ws.map fun w:Int×Sy=>.tup [.int w.1,toD w.2])):=k9 wl _ (by simpa using mwl.symm) (k8 wl _ (by simpa using mwl.symm) (x7 _ _ q6));lk;rw[aE wl9];refine⟨True.intro,?_⟩;refine uO (k:=k) hs hn hm hc fpos mlf 2 m9 lf9 (by omega) (by omega) fun s O1 i10 o10' d10 c10 k10 hi10 m10 lf10=>?_;have wl10:=k10 wl _ (by simp [mwl.symm,lfwl.symm]) wl9;k_ne;rw[aE wl10];refine⟨by simp only[ab];omega,?_⟩;simp only[aI];have ec:fJ ((ws++[(1+y,s)]).map (·.2))=fJ (ws.map (·.2))+cnt s:=by rw[dw,vE];simp [fJ]
  refine hM _ _ ⟨j+1,_,_,i10,ws++[(1+y,s)],e4,rfl,?_,hi10,?_,?_,?_,?_,by simp [q7],by omega,fun w' hw'=>?_⟩;·intro a o na e;simp only[bw,bj,or_false,not_or]at na;rw[aM na.2.2];exact k10 a o (by simp [na]) (kk9 a o (by simp [na]) (q1 a o (by simp [na]) e))
  ·rw[aM mwl];exact m10
  ·rw[aM lfwl,lf10,ec];simp;omega
  ·rw[ec];simp;omega
  ·rw[aN];simp
  ·rcases List.mem_append.mp hw' with hw'|hw';·exact q8 w' hw'
   ·simp only[ah]at hw';subst hw';exact⟨by show 1<=1+y;omega,by show 1+y<=99;omega,o10',d10⟩
 ·-- gL
  subst e2;have hj:(1+v).toNat<=j:=by
   by_cases z:j<(ay (1+v).toNat).length;·rw[cj z]at e1;cases e1
   ·simpa using z
  have hws:ws.length<=3:=by omega
  refine XY (k:=k) (inm:=inm) hp hs hn hm hc (by omega) fpos hdis mlf mwl lfwl hmu hmu3 q2 q3 q4 (by omega) q6 hws fun ps ms eB z8 z7 m3 y8 p3 z6 y6 z2=>?_;have w1:1<=ws.length:=by omega
  refine hQ ⟨fs,gs,ps,ms,ws⟩ eB ⟨⟨f1,f2,g1,g2,nd,hname,p3,fun s iA=>⟨(y8 s iA).1,dg (y8 s iA).2.1 (by decide)⟩,fun s iA=>(y8 s iA).2.2,m3,fun s iA=>⟨(z8 s iA).1,dg (z8 s iA).2 (by decide)⟩,w1,dg hws (by decide),fun w hw=>⟨(q8 w hw).1,(q8 w hw).2.1,(q8 w hw).2.2.1,dg (q8 w hw).2.2.2 (by decide)⟩⟩,fun s iA=>?_,z7,?_,n8⟩ fun a o e=>?_
  ·simp only[Bk.says,kj,sk]at iA;rcases iA with(iA|iA)|⟨w,hw,rfl⟩;·exact(y8 s iA).2.1
   ·exact dg (z8 s iA).2 (by decide)
   ·exact dg (q8 w hw).2.2.2 (by decide)
  ·show((fJ (ps++ms++ws.map (·.2)):Nat):Int)<=pieces;rw[vE,vE];exact Xe y6 L1
  ·obtain⟨s1,s2,s3,s4⟩:=old5 a o e;have t6:=k6 a o (by simpa using s2) s1;exact z2 a o (by simp [s2,s3]) (q1 a o (by simp [s2,s3,s4]) t6)
end
theorem U5 {n:Nat}:∀(l:List Sy),(∀ s∈l,aQ s<=4)->fW l<=l.length*15|[],_=>by simp [fW]|s::l,h=>by have h1:=K6 s;have h2:=h s (by simp);have h3:=U5 (n:=n) l fun x hx=>h x (by simp [hx]);have h4:2 ^ aQ s<=2 ^ 4:=fk (by decide) h2;rw[kS];simp only[bf];omega
theorem JY {names:List (List Nat)}{f:List Sy}{s:Sy}(hf:∀ x∈f,over names x)(hs:over names s):∀ x∈fF f s,over names x:=by
 unfold fF;split
 ·intro x hx;rcases List.mem_append.mp hx with hx|hx;·exact hf x hx
  ·simp only[ah]at hx;subst hx;exact hs
 ·exact hf
theorem xX {names:List (List Nat)}:∀(s:Sy){f:List Sy},(∀ x∈f,over names x)->over names s->∀ x∈aK s f,over names x|.yes,_,hf,_=>hf|.no,_,hf,_=>hf|.cU _,_,hf,_=>hf|.one w s,_,hf,hs=>xX s (JY hf hs) hs|.two w s t,_,hf,hs=>xX t (xX s (JY hf hs) hs.1) hs.2
theorem JV {names:List (List Nat)}:∀(l:List Sy){f:List Sy},(∀ x∈f,over names x)->(∀ s∈l,over names s)->∀ x∈cZ l f,over names x|[],_,hf,_=>hf|s::l,_,hf,hl=>JV l (xX s hf (hl s (by simp))) fun x hx=>hl x (by simp [hx])
section
variable {G:Prog}{k il ibo ipl imb ilm inm ic im dR is ipr ibk ich icp ist ie iw ipo iz irr iti io iri ima fY iph inh ibp ip ih:Nat}{st:aB}{E:XK}{ns:List Int}
theorem XU {b:Bk}{pieces gL:Int}(DR:Ub b pieces gL)(hp:pieces<=4):fW b.says<=200/\(∀ x∈b.says,aQ x<=60)/\(cZ b.says []).length<=4/\∀ s∈cZ b.says [],over b.names s/\aQ s<=8:=by
 have p1:=DR.ok.p1;have m1:=DR.ok.m1;have w2:=DR.ok.w2;have hl:b.says.length<=11:=by simp [Bk.says];omega
 refine⟨?_,fun x hx=>by have:=DR.d4 x hx;omega,?_,fun s hs=>⟨JV b.says (by simp) (fun s hs=>(RH DR.ok s hs).1) s hs,yH b.says (n:=8) (by simp) (fun x hx=>by have:=DR.d4 x hx;omega) s hs⟩⟩;·have:=U5 (n:=0) b.says DR.d4;omega
 ·have:=NP b.says [];have h2:=DR.cn;simp at this;omega
end
noncomputable def xV:Fn:=⟨1,5,[.asg (.nm 1) (.lst [(.tup [])]),.jA (.nm 2) (some .range) [(.bi .len [(.v 0)])] [.asg (.nm 3) (.lst []),.jA (.nm 4) none [(.v 1)] [.ex (.cM .append (.v 3) [(.bin .add (.v 4) (.tup [(.c (.bl false))]))]),.ex (.cM .append (.v 3) [(.bin .add (.v 4) (.tup [(.c (.bl true))]))])],.asg (.nm 1) (.v 3)],.ret (.v 1)]⟩
noncomputable def B2:Fn:=⟨2,2,[.ret (.bi .all [(.comp 1 [1] [0] true none [(.fld (W "Rules") (W "promise_rows") (.v 0))] [] (.ix (.v 1) (.v 0)))])]⟩
noncomputable def CG:Fn:=⟨2,2,[.ret (.bi .all [(.comp 1 [1] [0] true none [(.fld (W "Rules") (W "must_rows") (.v 0))] [] (.ix (.v 1) (.v 0)))])]⟩
noncomputable def BY:Fn:=⟨2,2,[.ret (.bi .sum [(.comp 2 [1] [0,1] false none [(.fld (W "Rules") (W "priced_rows") (.v 0))] [(.not_ (.ix (.v 2) (.v 1)))] (.v 0))])]⟩
noncomputable def FW:Fn:=⟨2,2,[.asg (.fl (W "Numbering") (W "met") (.v 0)) (.lst [(.v 1)]),.asg (.fl (W "Numbering") (W "numbers_met") (.v 0)) (.d1 (.v 1) (.c (.int 0)))]⟩
noncomputable def B3:Fn:=⟨2,2,[.iff (.din true (.v 1) (.fld (W "Numbering") (W "numbers_met") (.v 0))) [.asg (.dk (.fld (W "Numbering") (W "numbers_met") (.v 0)) (.v 1)) (.bi .len [(.fld (W "Numbering") (W "met") (.v 0))]),.ex (.cM .append (.fld (W "Numbering") (W "met") (.v 0)) [(.v 1)])] [],.ret (.dix (.fld (W "Numbering") (W "numbers_met") (.v 0)) (.v 1))]⟩
noncomputable def cK:Nat->List (List Bool)|0=>[[]]|n+1=>(cK n).flatMap fun r=>[r++[false],r++[true]]
noncomputable def vm (names:List (List Nat))(aK:List Sy)(m set:List Bool):Sy->Bool|.yes=>true|.no=>false|.cU n=>(set[names.idxOf n]?).getD false|.one w s=>if p1 w=true then fR (.one w s) ((m[aK.idxOf (.one w s)]?).getD false) [vm names aK m set s]else rL (.one w s) [vm names aK m set s]|.two w s t=>if p2 w=true then fR (.two w s t) ((m[aK.idxOf (.two w s t)]?).getD false) [vm names aK m set s,vm names aK m set t]else rL (.two w s t) [vm names aK m set s,vm names aK m set t]
theorem Q6 {names:List (List Nat)}{aK:List Sy}{m set:List Bool}{s:Sy}(h:bX s=true):vm names aK m set s=fR s ((m[aK.idxOf s]?).getD false) ((subs s).map (vm names aK m set)):=by cases s with|one w a=>simp only[bX]at h;simp only[vm,h,if_true,subs,bb,gg]|two w a b=>simp only[bX]at h;simp only[vm,h,if_true,subs,bb,gg]|_=>cases h
theorem VZ {names:List (List Nat)}{aK:List Sy}{m set:List Bool}{s:Sy}(h:bX s=false)(hl:fV s=false):vm names aK m set s=rL s ((subs s).map (vm names aK m set)):=by cases s with|one w a=>simp only[bX]at h;simp only[vm,h,ak,if_false,subs,bb,gg]|two w a b=>simp only[bX]at h;simp only[vm,h,ak,if_false,subs,bb,gg]|cU n=>cases hl|_=>rfl
theorem lT:∀(n:Nat)(r:List Bool),r∈cK n->r.length=n|0,r,h=>by simp [cK]at h;subst h;rfl|n+1,r,h=>by simp only[cK,Zj,bw,bj,or_false]at h;obtain⟨q,hq,h|h⟩:=h<;>(subst h;simp [lT n q hq])
theorem LU:∀(n:Nat)(r:List Bool),r.length=n->r∈cK n
 |0,r,h=>by simp at h;subst h;simp [cK]|n+1,r,h=>by
  simp only[cK,Zj,bw,bj,or_false];have hr:r≠[]:=by intro z;rw[z]at h;cases h
  refine⟨r.dropLast,LU n _ (by simp [h]),?_⟩;have:=List.dropLast_concat_getLast hr;cases hb:r.getLast hr with|false=>rw[hb]at this;exact .inl this.symm|true=>rw[hb]at this;exact .inr this.symm
theorem mH:∀ n:Nat,(cK n).length=2 ^ n
 |0=>rfl|n+1=>by
  have h:=mH n;simp only[cK];have:∀ l:List (List Bool),(l.flatMap fun r=>[r++[false],r++[true]]).length=2*l.length:=fun l=>by induction l with|nil=>rfl|cons a l ih=>simp only[qb,bq,ih,bf,az];omega
  rw[this,h,Yr];omega
theorem J3:∀ n:Nat,∃ r,cK n=ao n false::r|0=>⟨[],rfl⟩|n+1=>by obtain⟨r,e⟩:=J3 n;refine⟨(ao n false++[true])::r.flatMap (fun r=>[r++[false],r++[true]]),?_⟩;simp only[cK,e,qb,cg,av];rw[List.replicate_succ']
theorem XW {α:Type}[DecidableEq α]:∀(l u:List α),l.Nodup->(∀ x∈l,x∈u)->l.length<=u.length
 |[],u,_,_=>dt _|x::l,u,nd,h=>by
  have hx:=h x (by simp);have nd':=List.nodup_cons.mp nd;have ih:=XW l (u.erase x) nd'.2 fun y hy=>by have hne:y≠x:=fun e=>nd'.1 (e▸hy);exact(List.mem_erase_of_ne hne).mpr (h y (by simp [hy]))
  rw[List.length_erase_of_mem hx]at ih;have:0<u.length:=wx hx;simp only[bf];omega
inductive Wv (N:Nat)(hd:Option D)(st:aB)(rest:List Nat)(σ:St)(aA:aB):Prop |mk (t q:Nat)(o2 o3 o4:Option D)(e0:t<=N)(e1:rest=(ay N).drop t)(e2:σ=[hd,some (.ref q),o2,o3,o4])(hq:st q=none)(x3:Ext st aA)(e5:aA q=some (.lst ((cK t).map aY)))
inductive Va (t:Nat)(hd:Option D)(q x u:Nat)(cG:aB)(yW:List (List Bool))(σ:St)(cW:aB):Prop |mk (dn:List (List Bool))(o4:Option D)(f1:cK t=dn++yW)(f2:σ=[hd,some (.ref q),some (.int (x:Nat)),some (.ref u),o4])(f3:bL [u] cG cW)(f4:cW u=some (.lst ((dn.flatMap fun r=>[r++[false],r++[true]]).map aY)))
theorem Pm (l:List (List Bool)):(l.flatMap fun r=>[r++[false],r++[true]]).length=2*l.length:=by induction l with|nil=>rfl|cons a l ih=>simp only[qb,bq,ih,bf,az];omega
theorem HB {t:Nat}(h:t<=4):(cK t).length<=16:=by rw[mH];exact fk (n:=2) (by decide) h
theorem drop_cons {N t x:Nat}{rest:List Nat}(h:x::rest=(ay N).drop t):t<N/\rest=(ay N).drop (t+1):=by
 have ht:t<(ay N).length:=by
  by_cases z:t<(ay N).length;·exact z
  ·rw[gj (by omega)]at h;cases h
 rw[cj ht]at h;injection h with _ h;exact⟨by simpa using ht,h⟩
theorem drop_nil {N t:Nat}(h:[]=(ay N).drop t):N<=t:=by
 by_cases z:t<(ay N).length;·rw[cj z]at h;cases h
 ·simpa using z
theorem Fh {l dn r:List (List Bool)}{n:Nat}(e:l=dn++r)(h:l.length<=n):dn.length<=n:=by rw[e,bq]at h;omega
section
variable {G:Prog}{k i:Nat}{st:aB}{Q:VK}{E:XK}
theorem HY (h:G.fns i=some xV){ds:List D}(hd:ds.length<=4)(hQ:∀ p aA,st p=none->Ext st aA->aA p=some (.lst ((cK ds.length).map aY))->Q (.ref p) aA):aH G (k+1) i [.tup ds] st Q E:=by
 have hL:bE=16777216:=rfl;rw[aW h];simp only[xV,start];refine⟨rfl,?_⟩;lk;refine bS (by show 1<=bE;decide) fun p aC x1 hp hp1=>?_;lk;refine⟨by unfold gF;omega,?_⟩;rw[show((ds.length:Int)).toNat=ds.length by omega,qK];have p1:aC p=some (.lst ((cK 0).map aY)):=hp1;refine hJ (fun j:Nat=>D.int (j:Nat)) (I:=Wv ds.length (some (.tup ds)) st) (fun rest σ aA _ a ha=>?_) (fun x rest σ aA M I hM=>?_) (fun σ aA I=>?_) _ _ _ ⟨0,p,none,none,none,dt _,rfl,rfl,hp,x1,p1⟩;·cases ha
 ·obtain⟨t,q,o2,o3,o4,e0,e1,e2,hq,x3,e5⟩:=I;subst e2;obtain⟨ht,e4⟩:=drop_cons e1;have iS:(cK t).length<=16:=HB (by omega);clear e1;lk;refine bS (by simp) fun u cG x4 hu hu4=>?_;have qu:q≠u:=fun z=>by rw[<-z,e5]at hu;cases hu
  lk;rw[aE (x4 _ _ e5)];refine hJ aY (I:=Va t (some (.tup ds)) q x u cG) (fun yW σ cW J=>?_) (fun y yW σ cW M2 J hM2=>?_) (fun σ cW J=>?_) _ _ _ ⟨[],o4,rfl,rfl,.refl,hu4⟩;·obtain⟨dn,o4,f1,f2,f3,f4⟩:=J;intro a ha;simp only[ah]at ha;subst ha;rw[x4 _ _ e5,f3 _ _ (by simpa using qu) (x4 _ _ e5)]
  ·obtain⟨dn,o4,f1,f2,f3,f4⟩:=J;subst f2;have hl:(dn.flatMap fun r=>[r++[false],r++[true]]).length<=40:=by have:=Fh f1 iS;rw[Pm];omega
   have hyl:y.length=t:=lT t y (by rw[f1];simp);simp only[aY];lk;rw[aE f4];refine⟨True.intro,by simp only[ab];omega,?_⟩;rw[aE f4];refine⟨by simp only[ab];omega,?_⟩;lk;rw[aE aN];refine⟨True.intro,by simp only[ab];omega,?_⟩;rw[aE aN];refine⟨by simp only[ab,bq,bf,az];omega,?_⟩;simp only[aI];rw[Ci];refine hM2 _ _ ⟨dn++[y],_,by simp [f1],rfl,fun a o na e=>by rw[aM (by simpa using na)];exact f3 a o na e,?_⟩;rw[aN];simp [aY,yt]
  ·obtain⟨dn,o4,f1,f2,f3,f4⟩:=J;subst f2;rw[d5]at f1;lk;simp only[aI];refine hM _ cW ⟨t+1,u,_,_,_,by omega,e4,rfl,?_,fun a o e=>f3 a o (fun z=>?_) (x4 _ _ (x3 _ _ e)),?_⟩;·cases hz:st u with|none=>rfl|some o=>rw[x3 _ _ hz]at hu;cases hu
   ·simp only[ah]at z;rw[z]at e;rw[x3 _ _ e]at hu;cases hu
   ·rw[f4,<-f1];rfl
 ·obtain⟨t,q,o2,o3,o4,e0,e1,e2,hq,x3,e5⟩:=I;subst e2;have ht:=drop_nil e1;have et:t=ds.length:=by omega
  subst et;lk;exact hQ q aA hq x3 e5
end
noncomputable def bK (ss:List Sy)(V:Sy->Bool):Bool:=ss.all V
noncomputable def rX (ws:List (Int×Sy))(V:Sy->Bool):Int:=((ws.filter fun w=>!V w.2).map (·.1)).sum
noncomputable def LI (l d:Nat):List (List Nat×D):=[(W "met", .ref l),(W "numbers_met", .ref d)]
structure nG (st:aB)(n l d:Nat)(met:List (List Bool)):Prop where ins:st n=some (.ins (W "Numbering") (LI l d))dic:st d=some (.tab (met.map aY) (uC met.length))met:st l=some (.lst (met.map aY))
theorem qX {p l1 l2 l3:Nat}:bY (uL p l1 l2 l3) (W "table")=some (.ref p):=by simp only[uL,bY];rw[if_pos cy]
theorem Lg {p l1 l2 l3:Nat}:bY (uL p l1 l2 l3) (W "promise_rows")=some (.ref l1):=by simp only[uL,bY];rw[if_neg (by decide +kernel),if_pos cy]
theorem Iy {p l1 l2 l3:Nat}:bY (uL p l1 l2 l3) (W "must_rows")=some (.ref l2):=by simp only[uL,bY];rw[if_neg (by decide +kernel),if_neg (by decide +kernel),if_pos cy]
theorem Iq {p l1 l2 l3:Nat}:bY (uL p l1 l2 l3) (W "priced_rows")=some (.ref l3):=by simp only[uL,bY];rw[if_neg (by decide +kernel),if_neg (by decide +kernel),if_neg (by decide +kernel),if_pos cy]
theorem AY {p l1 l2 l3:Nat}{f:List Nat}(h1:W "table" ≠ f)(h2:W "promise_rows" ≠ f)(h3:W "must_rows" ≠ f)(h4:W "priced_rows" ≠ f):bY (uL p l1 l2 l3) f=none:=by simp only[uL,bY];rw[if_neg h1,if_neg h2,if_neg h3,if_neg h4]
theorem B4 {l d:Nat}:bY (LI l d) (W "met")=some (.ref l):=by simp only[LI,bY];rw[if_pos cy]
theorem GP {l d:Nat}:bY (LI l d) (W "numbers_met")=some (.ref d):=by simp only[LI,bY];rw[if_neg (by decide +kernel),if_pos cy]
theorem Na {l d:Nat}{f:List Nat}(h1:W "met" ≠ f)(h2:W "numbers_met" ≠ f):bY (LI l d) f=none:=by simp only[LI,bY];rw[if_neg h1,if_neg h2]
theorem P9 {st:aB}(a b:List Bool):bW st (aY a) (aY b)=decide (a=b):=by rw[LM _ _ (pO a)];simp only[aY,bT];induction a generalizing b with|nil=>cases b<;>simp [gU]|cons x a ih =>cases b with|nil=>simp [gU]|cons y b =>simp only[bb,gU,bT,ih,rl];by_cases h1:x=y<;>by_cases h2:a=b<;>simp [h1,h2]
theorem ID {st:aB}(a:List Bool):plainS st (aY a):=⟨pV _ (pO a),dg (BU a) (by decide)⟩
theorem QA (a b:List Bool):bT (aY a) (aY b)=decide (a=b):=(LM (st:=fun _=>none) _ _ (pO a)).symm.trans (P9 a b)
theorem MA (m:List Bool)(met:List (List Bool)):((met.map aY).any fun k=>bT k (aY m))=met.contains m:=by induction met with|nil=>rfl|cons x met ih =>
 simp only[bb,kx,QA,ih,om];congr 1;by_cases h:x=m;·subst h;simp
 ·rw[decide_eq_false h];exact(beq_eq_false_iff_ne.mpr fun z=>h z.symm).symm
theorem uT (m:List Bool):keyed (aY m):=by
 refine⟨?_,?_⟩;·induction m with|nil=>rfl|cons a l ih=>simp only[bb,jW,jO,jm];exact ih
 ·have:cX (m.map D.bl)=0:=by induction m with|nil=>rfl|cons a l ih=>simp only[bb,cX,cT,ih];rfl
  omega
theorem OC {m:List Bool}:∀{met:List (List Bool)}{vs:List D}{d:D},m∈met->vs.length=met.length->vs[met.idxOf m]? = some d->lP (met.map aY) vs (aY m)=some d
 |[],_,_,h,_,_=>by cases h|x::r,[],_,_,h,_=>by simp at h|x::r,v::vs,d,h,hl,hv=>by
  simp only[bb,lP,QA];by_cases e:x=m;·subst e;simp [j3]at hv;simp [hv]
  ·rw[if_neg (by simpa using e)];rw[j3,beq_eq_false_iff_ne.mpr e]at hv;exact OC (by simpa [fj e]using h) (by simpa using hl) (by simpa using hv)
noncomputable def jP (met:List (List Bool))(m:List Bool):List (List Bool):=if met.contains m then met else met++[m]
set_option tactic.hygienic true in
theorem xK (met:List (List Bool))(m:List Bool):m∈jP met m:=by
 unfold jP;split;·rename_i h;simpa using h
 ·simp
section
variable {G:Prog}{k i:Nat}{st:aB}{Q:VK}{E:XK}{b:Bk}{r p l1 l2 l3:Nat}{R:List Sy}{V:Sy->Bool}{q:Nat}
theorem VB (hR:∀ s∈R,True){s:Sy}(hs:s∈R)(hq:st q=some (.lst (R.map fun s=>.bl (V s)))){Q':VK}:mY (.ref q) (.int (R.idxOf s:Nat)) st Q'=Q' (.bl (V s)) st:=by have cN:=List.idxOf_lt_length_iff.mpr hs;rw[dN hq,dG (by simpa using cN),bg,ai cN];simp [dJ]
theorem KG {f:List Nat}{l:Nat}{ss:List Sy}(h:G.fns i=some ⟨2,2,[.ret (.bi .all [(.comp 1 [1] [0] true none [(.fld (W "Rules") f (.v 0))] [] (.ix (.v 1) (.v 0)))])]⟩)(T:iJ st r p l1 l2 l3 b R)(hf:bY (uL p l1 l2 l3) f=some (.ref l))(hl:st l=some (.lst (ss.map fun s=>.int (R.idxOf s:Nat))))(hss:∀ s∈ss,s∈R)(hn:ss.length<=1000)(hq:st q=some (.lst (R.map fun s=>.bl (V s)))) (hQ:∀ aA,Ext st aA->Q (.bl (bK ss V)) aA):aH G (k+1) i [.ref r,.ref q] st Q E:=by
 have hL:bE=16777216:=rfl;rw[aW h];simp only[start];refine⟨rfl,?_⟩;lk;rw[dB T.ins hf,nO,aE hl];refine dX (fun s:Sy=>D.int (R.idxOf s:Nat)) (fun s=>.bl (V s)) ss [] st (fun aV y a ha=>?_) (fun s hs aV K y1 hK=>?_) (by simp only[az];omega) fun aF y2=>?_;·simp only[ah]at ha;subst ha;rw[hl,y _ _ hl]
 ·show mY _ _ aV _;rw[VB (fun _ _=>trivial) (hss s hs) (y1 _ _ hq)];exact hK aV .refl
 rw[av];refine bS (by simp only[ab];omega) fun pp aX y3 hpp mT=>?_;k_ne;rw[aE mT,pI,bB,p8];exact hQ aX (y2.trans y3)
theorem RB (h:G.fns i=some B2)(T:iJ st r p l1 l2 l3 b R)(B:b.Ok)(hq:st q=some (.lst (R.map fun s=>.bl (V s))))(hQ:∀ aA,Ext st aA->Q (.bl (bK b.ps V)) aA):aH G (k+1) i [.ref r,.ref q] st Q E :=KG h T Lg T.pr (fun s hs=>T.all s (by simp [Bk.says,hs])) (by have:=B.p1;omega) hq hQ
theorem QM (h:G.fns i=some CG)(T:iJ st r p l1 l2 l3 b R)(B:b.Ok)(hq:st q=some (.lst (R.map fun s=>.bl (V s))))(hQ:∀ aA,Ext st aA->Q (.bl (bK b.ms V)) aA):aH G (k+1) i [.ref r,.ref q] st Q E :=KG h T Iy T.mu (fun s hs=>T.all s (by simp [Bk.says,hs])) (by have:=B.m1;omega) hq hQ
theorem ZW (V:Sy->Bool)(ws:List (Int×Sy)):intsOf (ws.filterMap fun w=>if(!V w.2)=true then some (D.int w.1)else none)=some ((ws.filter fun w=>!V w.2).map (·.1)):=by induction ws with|nil=>rfl|cons w ws ih =>cases hv:V w.2 with|true=>simp [fe,dz,hv]at ih ⊢;exact ih|false =>simp only[fe,dz,hv,iq,if_true,intsOf,bb];rw[ih];rfl
theorem Di (h:G.fns i=some BY)(T:iJ st r p l1 l2 l3 b R)(B:b.Ok)(hq:st q=some (.lst (R.map fun s=>.bl (V s))))(hQ:∀ aA,Ext st aA->Q (.int (rX b.ws V)) aA):aH G (k+1) i [.ref r,.ref q] st Q E:=by
 have hL:bE=16777216:=rfl;have w2:=B.w2;rw[aW h];simp only[BY,start];refine⟨rfl,?_⟩;lk;rw[dB T.ins Iq,nO,aE T.wi];refine lX (fun w:Int×Sy=>D.tup [.int w.1,.int (R.idxOf w.2:Nat)]) (fun w=>if(!V w.2)=true then some (D.int w.1)else none) b.ws [] st (fun aV y a ha=>?_) (fun w hw aV K y1 hK=>?_) (by simp only[az];omega) fun aF y2=>?_;·simp only[ah]at ha;subst ha;rw[T.wi,y _ _ T.wi]
 ·have hs:w.2∈R:=T.all w.2 (by simp only[Bk.says,kj,sk];exact .inr ⟨w,hw,rfl⟩);k_ne;rw[VB (fun _ _=>trivial) hs (y1 _ _ hq)];k_ne;have:=hK aV .refl;cases hv:V w.2 with|true=>simpa [hv]using this|false=>simpa [hv]using this
 rw[av];refine bS (by have:=List.length_filterMap_le (fun w:Int×Sy=>if(!V w.2)=true then some (D.int w.1)else none) b.ws;omega) fun pp aX y3 hpp mT=>?_;k_ne;rw[aE mT,ZW,bB];exact hQ aX (y2.trans y3)
theorem Fk (h:G.fns i=some FW){n:Nat}{m:List Bool}(hn:st n=some (.ins (W "Numbering") []))(hQ:∀ aA l d,st l=none->st d=none->bL [n] st aA->nG aA n l d [m]->Q .non aA):aH G (k+1) i [.ref n,aY m] st Q E:=by
 rw[aW h];simp only[FW,start];refine⟨rfl,?_⟩;lk;refine bS (by show 1<=bE;decide) fun l aC x1 hl hl1=>?_;k_ne;rw[nI (x1 _ _ hn) (by simp),gY rfl];have nl:l≠n:=fun z=>by rw[z,hn]at hl;cases hl
 lk;rw[Ux];intro d hd;have dn:d≠n:=fun z=>by rw[z,aN]at hd;cases hd
 have dl:d≠l:=fun z=>by rw[z,aM nl,hl1]at hd;cases hd
 k_ne;rw[TM aN (uT m) rfl (by decide)];rw[nI (fs:=[(W "met", .ref l)]) (by rw[aM dn.symm,aM dn.symm,aN]) (by simp),gY (by simp only[bY];rw[if_neg (by decide +kernel)])];simp only[aI];have hd0:st d=none:=by cases hz:st d with|none=>rfl|some o=>rw[aM dn,x1 _ _ hz]at hd;cases hd
 refine hQ _ l d hl hd0 (fun a o na e=>?_) ⟨by rw[aN];rfl,by rw[aM dn,aN];rfl,by rw[aM nl,aM dl.symm,aM dl.symm,aM nl];exact hl1⟩;have an:a≠n:=by simpa using na
 have ad:a≠d:=fun z=>by rw[z,hd0]at e;cases e
 rw[aM an,aM ad,aM ad,aM an];exact x1 _ _ e
theorem Dm (h:G.fns i=some B3){n l d:Nat}{m:List Bool}{met:List (List Bool)}(N:nG st n l d met)(hlen:met.length<=1000)(hQ:∀ aA,bL [l,d] st aA->nG aA n l d (jP met m)->Q (.int ((jP met m).idxOf m:Nat)) aA):aH G (k+1) i [.ref n,aY m] st Q E:=by
 have hL:bE=16777216:=rfl;have nl:n≠l:=fun z=>by have:=N.ins;rw[z,N.met]at this;cases this
 have nd:n≠d:=fun z=>by have:=N.ins;rw[z,N.dic]at this;cases this
 have ld:l≠d:=fun z=>by have:=N.met;rw[z,N.dic]at this;cases this
 rw[aW h];simp only[B3,start];refine⟨rfl,?_⟩;have fin:∀ aC,bL [l,d] st aC->nG aC n l d (jP met m)->dD (aH G k) G.sub [.ret (.dix (.fld (W "Numbering") (W "numbers_met") (.v 0)) (.v 1))] ⟨fun _ aA=>Q .non aA,Q,fun _ _=>False,fun _ _=>False,fun c _ aA=>E c aA⟩ [some (.ref n),some (aY m)] aC:=fun aC k1 N1=>by lk;rw[dB N1.ins GP];k_ne;rw[BB N1.dic (uT m) (OC (xK met m) (QF _) (WM (j7 (xK met m))))];exact hQ aC k1 N1
 lk;rw[dB N.ins GP,XD N.dic (uT m),MA];cases hc:met.contains m with
 |true =>
  k_ne;(try simp only[if_true,e8,ak,if_false,aI]);have e:jP met m=met:=by unfold jP;rw[hc];rfl
  exact fin st .refl (by rw[e];exact N)|false =>
  k_ne;(try simp only[iq,if_true]);lk;rw[dB N.ins B4];k_ne;rw[eI N.met,dB N.ins GP];k_ne;rw[TM N.dic (uT m) (by rw[MA];exact hc) (by simp only[ab];omega)];lk;have m1:(put st d (.tab (met.map aY++[aY m]) (uC met.length++[.int ((met.map aY).length:Nat)]))) l=some (.lst (met.map aY)):=by rw[aM ld];exact N.met
  rw[dB (by rw[aM nd];exact N.ins) B4,xU,aE m1];refine⟨True.intro,?_⟩;k_ne;rw[aE m1];refine⟨by simp only[ab];omega,?_⟩;simp only[aI];have e:jP met m=met++[m]:=by unfold jP;rw[hc];rfl
  refine fin _ (fun a o na e=>?_) ⟨by rw[aM nl,aM nd];exact N.ins,by rw[aM ld.symm,aN,e];simp [uC,ki],by rw[aN,e];simp⟩;simp only[bw,bj,or_false,not_or]at na;rw[aM na.1,aM na.2];exact e
end
noncomputable def E8 (jB ifk fY:Nat):Fn:=⟨3,4,[.asg (.nm 3) (.ix (.call jB [(.ix (.v 0) (.c (.int 1)))]) (.c (.int 0))),.ret (.comp 1 [1,2,3] [0] true none [(.call jB [(.ix (.v 0) (.c (.int 0)))])] [(.mcl (W "Rules") (W "foe_keeps") ifk (.v 1) [(.mcl (W "Table") (W "held_at") fY (.fld (W "Rules") (W "table") (.v 1)) [(.v 2),(.bin .add (.v 0) (.v 3))])])] (.v 0))]⟩
noncomputable def LY (jB fY imk ino ima ilo:Nat):Fn:=⟨5,9,[.asg (.nm 5) (.lst []),.jA (.nm 6) none [(.call jB [(.ix (.v 0) (.c (.int 1)))])] [.asg (.nm 7) (.mcl (W "Table") (W "held_at") fY (.fld (W "Rules") (W "table") (.v 1)) [(.v 3),(.bin .add (.v 4) (.v 6))]),.iff (.mcl (W "Rules") (W "friend_keeps") imk (.v 1) [(.v 7)]) [.asg (.nm 8) (.mcl (W "Numbering") (W "number_of") ino (.v 2) [(.mcl (W "Table") (W "memory_after") ima (.fld (W "Rules") (W "table") (.v 1)) [(.v 7)])]),.ex (.cM .append (.v 5) [(.tup [(.v 6),(.mcl (W "Rules") (W "loss_at") ilo (.v 1) [(.v 7)]),(.v 8)])])] []],.ret (.bi .tuple [(.v 5)])]⟩
noncomputable def Bk.aK (b:Bk):List Sy:=cZ b.says []
noncomputable def Bk.vm (b:Bk)(m set:List Bool):Sy->Bool:=L3.vm b.names b.aK m set
noncomputable def Bk.sP (b:Bk)(m set:List Bool):List Bool:=b.aK.map fun s=>b.vm m set (nZ s)
noncomputable abbrev jY:=List Bool×Int×Nat
noncomputable def fO (a:jY):D:=.tup [aY a.1,.int a.2.1,.int (a.2.2:Nat)]
noncomputable def cB (b:Bk)(m aZ:List Bool)(x:List jY×List (List Bool))(fr:List Bool):List jY×List (List Bool) :=if bK b.ms (b.vm m (aZ++fr))=true then(x.1++[(fr,rX b.ws (b.vm m (aZ++fr)),(jP x.2 (b.sP m (aZ++fr))).idxOf (b.sP m (aZ++fr)))],jP x.2 (b.sP m (aZ++fr)))else x
noncomputable def gW (b:Bk)(m aZ:List Bool)(met:List (List Bool)):List jY×List (List Bool):=(cK b.gs.length).foldl (cB b m aZ) ([],met)
noncomputable def lO (b:Bk)(m:List Bool):List (List Bool):=(cK b.fs.length).filter fun aZ=>bK b.ps (b.vm m (aZ++ao b.gs.length false))
structure mO (n:Nat)(met:List (List Bool)):Prop where
 nd:met.Nodup
 len:∀ m∈met,m.length=n
theorem mO.ED {n:Nat}{met:List (List Bool)}(h:mO n met)(hn:n<=4):met.length<=16:=by have h1:=XW met (cK n) h.nd fun m hm=>LU n m (h.len m hm);rw[mH]at h1;have:2 ^ n<=2 ^ 4:=fk (by decide) hn;omega
theorem mO.add {n:Nat}{met:List (List Bool)}(h:mO n met){m:List Bool}(hm:m.length=n):mO n (jP met m):=by unfold jP;cases hc:met.contains m with|true=>exact h|false =>
 have hn:m∉met:=by simpa using hc
 refine⟨?_,fun x hx=>?_⟩;·show(met++[m]).Nodup;rw[qa];exact⟨h.nd,by simp,fun a ha c hc'=>by simp only[ah]at hc';subst hc';exact fun z=>hn (z▸ha)⟩
 ·rcases List.mem_append.mp (show x∈met++[m]from hx)with hx|hx;·exact h.len x hx
  ·simp only[ah]at hx;subst hx;exact hm
theorem Ec (b:Bk)(m set:List Bool):(b.sP m set).length=b.aK.length:=by simp [Bk.sP]
theorem PV {b:Bk}{m aZ fr:List Bool}{x:List jY×List (List Bool)}(h:mO b.aK.length x.2):mO b.aK.length (cB b m aZ x fr).2:=by
 unfold cB;split;·exact h.add (Ec b m _)
 ·exact h
theorem vA {b:Bk}{m aZ:List Bool}:∀(l:List (List Bool)){x:List jY×List (List Bool)},mO b.aK.length x.2->mO b.aK.length (l.foldl (cB b m aZ) x).2|[],_,h=>h|fr::l,_,h=>vA l (PV h)
section
variable {G:Prog}{k i jB ifk fY imk ino ima ilo iph inh:Nat}{st:aB}{Q:VK}{E:XK}{b:Bk}{r p l1 l2 l3:Nat}{R:List Sy}
theorem NX (hha:G.fns fY=some (rT iph inh))(hn:G.fns inh=some sH)(hpa:G.fns iph=some oV)(T:iJ st r p l1 l2 l3 b R){m set:List Bool}(hm:m.length=b.aK.length)(hs:set.length=b.names.length) (hQ:∀ aA q,st q=none->Ext st aA->aA q=some (.lst (R.map fun s=>.bl (b.vm m set s)))->Q (.ref q) aA):aH G (k+2) fY [.ref p,aY m,aY set] st Q E:=by
 obtain⟨lp,lr,ld,lm,js,T1,hlm,hjl,hjs,hpast⟩:=T.tab.h;refine RN hha hn hpa T1 (mem:=m) (set:=set) (b.vm m set) (fun n hn'=>?_) (fun s iA hps=>⟨(m[b.aK.idxOf s]?).getD false,?_,Q6 hps⟩) (fun s h1 h2=>VZ h1 h2) hQ
 ·have cN:b.names.idxOf n<set.length:=by rw[hs];exact List.idxOf_lt_length_iff.mpr hn'
  simp only[Bk.vm,vm];rw[ai cN];rfl
 ·have cN:b.aK.idxOf s<m.length:=by rw[hm];exact List.idxOf_lt_length_iff.mpr iA
  show m[b.aK.idxOf s]? = _;rw[ai cN];rfl
theorem Fg (hma:G.fns ima=some xR)(T:iJ st r p l1 l2 l3 b R)(gT:b.aK.length<=4){m set:List Bool}{q:Nat}(hq:st q=some (.lst (R.map fun s=>.bl (b.vm m set s))))(hQ:∀ aA,Ext st aA->Q (aY (b.sP m set)) aA):aH G (k+1) ima [.ref p,.ref q] st Q E:=by
 obtain⟨lp,lr,ld,lm,js,T1,hlm,hjl,hjs,hpast⟩:=T.tab.h;refine VF (aK:=b.aK) hma T1.ins (lm:=lm) (by rw[iI (by decide +kernel) (by decide +kernel) (by decide +kernel) (by decide +kernel)];simp only[GF,bY];rw[if_neg (by decide +kernel),if_pos cy]) hlm hq hjl (by omega) hjs fun aA x=>?_;have e:(b.aK.map fun s=>D.bl (b.vm m set (nZ s)))=(b.sP m set).map .bl:=by simp [Bk.sP]
 rw[e];exact hQ aA x
theorem NK {T:List Nat}{lp lr ld lm:Nat}{names:List (List Nat)}{aK:List Sy}(h1:W "names" ≠ T)(h2:W "pieces" ≠ T)(h3:W "rows" ≠ T)(h4:W "row_of" ≠ T)(h5:W "first_memory" ≠ T)(h6:W "remembered_rows" ≠ T):bY (qP names lp lr ld++GF aK lm) T=none:=by rw[iI h1 h2 h3 h4];simp only[GF,bY];rw[if_neg h5,if_neg h6]
theorem Cv (h:G.fns i=some (E8 jB ifk fY))(hse:G.fns jB=some xV)(hfk:G.fns ifk=some B2)(hha:G.fns fY=some (rT iph inh))(hn:G.fns inh=some sH)(hpa:G.fns iph=some oV)(T:iJ st r p l1 l2 l3 b R)(B:b.Ok){m:List Bool}(hm:m.length=b.aK.length) (hQ:∀ q aA,st q=none->Ext st aA->aA q=some (.lst ((lO b m).map aY))->Q (.ref q) aA):aH G (k+3) i [b.d,.ref r,aY m] st Q E:=by
 have hL:bE=16777216:=rfl;have f2:=B.f2;have g2:=B.g2;have jT:b.names.length=b.fs.length+b.gs.length:=by simp [Bk.names]
 rw[aW h];simp only[E8,start,Bk.d];refine⟨rfl,?_⟩;lk;refine HY (k:=k+1) hse (by simp only[ab];omega) fun u aC hu x1 hu1=>?_;rw[ab]at hu1;obtain⟨rr,er⟩:=J3 b.gs.length;k_ne;rw[dN hu1,er,bb,DL,bB];k_ne;lk;refine HY (k:=k+1) hse (by simp only[ab];omega) fun u2 aF hu2 x2 hu22=>?_;rw[ab]at hu22;k_ne;rw[aE hu22];have T2:=T.keep (x1.trans x2);have iS:(cK b.fs.length).length<=16:=by rw[mH];exact fk (n:=2) (by decide) (by omega:b.fs.length<=4)
 obtain⟨lp,lr,ld,lm,js,T2',_⟩:=T2.tab.h;refine lX aY (fun aZ=>if bK b.ps (b.vm m (aZ++ao b.gs.length false))=true then some (aY aZ)else none) (cK b.fs.length) [] aF (fun aV y a ha=>?_) (fun aZ hf aV K y1 hK=>?_) (by simp only[az];omega) fun aX y3=>?_;·simp only[ah]at ha;subst ha;rw[hu22,y _ _ hu22]
 ·have T3:=T2.keep y1;have hfl:=lT _ _ hf;k_ne;rw[iM T3.ins (AY (by decide +kernel) (by decide +kernel) (by decide +kernel) (by decide +kernel))];refine⟨True.intro,?_⟩;rw[dB T3.ins qX];rw[iM (T2'.keep y1).ins (NK (by decide +kernel) (by decide +kernel) (by decide +kernel) (by decide +kernel) (by decide +kernel) (by decide +kernel))];refine⟨True.intro,?_⟩;have ea:iY .add (aY aZ) (aY (ao b.gs.length false))=fun st Q=>(aZ.map D.bl).length+((ao b.gs.length false).map D.bl).length<=bE/\Q (aY (aZ++ao b.gs.length false)) st:=by funext st Q;simp only[aY,HJ,dw]
  rw[ea];refine⟨by simp only[ab,mh];omega,?_⟩;refine NX hha hn hpa T3 hm (by simp [hfl,jT]) fun cG q _ y4 hq=>?_;refine RB (k:=k+1) hfk (T3.keep y4) B hq fun cW y5=>?_;k_ne;have:=hK cW (y4.trans y5);cases hv:bK b.ps (b.vm m (aZ++ao b.gs.length false))with|true=>simpa [hv]using this|false=>simpa [hv]using this
 rw[av];have ef:((cK b.fs.length).filterMap fun aZ=>if bK b.ps (b.vm m (aZ++ao b.gs.length false))=true then some (aY aZ)else none)=(lO b m).map aY:=by unfold lO;generalize cK b.fs.length=l;induction l with|nil=>rfl|cons a l ih =>
   by_cases hv:bK b.ps (b.vm m (a++ao b.gs.length false))=true;·simp only[fe,dz,hv,if_true,bb,ih]
   ·simp only[fe,dz,hv,ih];simp [hv]
 rw[ef];refine bS (by simp only[ab];have:=gr (fun aZ=>bK b.ps (b.vm m (aZ++ao b.gs.length false))) (cK b.fs.length);unfold lO;omega) fun q cG y4 hq hq4=>?_;refine hQ q cG ?_ (((x1.trans x2).trans y3).trans y4) hq4;cases hz:st q with|none=>rfl|some o=>rw[((x1.trans x2).trans y3) _ _ hz]at hq;cases hq
end
noncomputable def K5 (ich iri ini ifs ian:Nat):Fn:=⟨1,7,[.ex (.call ich [(.v 0)]),.asg (.nm 1) (.mk (W "Rules") iri [(.v 0)]),.asg (.nm 2) (.mk (W "Numbering") ini [(.fld (W "Table") (W "first_memory") (.fld (W "Rules") (W "table") (.v 1)))]),.asg (.nm 3) (.lst []),.whl (.cmp .lt (.bi .len [(.v 3)]) (.bi .len [(.fld (W "Numbering") (W "met") (.v 2))])) [.asg (.nm 4) (.ix (.fld (W "Numbering") (W "met") (.v 2)) (.bi .len [(.v 3)])),.asg (.nm 5) (.lst []),.jA (.nm 6) none [(.call ifs [(.v 0),(.v 1),(.v 4)])] [.ex (.cM .append (.v 5) [(.tup [(.v 6),(.call ian [(.v 0),(.v 1),(.v 2),(.v 4),(.v 6)])])])],.ex (.cM .append (.v 3) [(.tup [(.v 4),(.bi .tuple [(.v 5)])])])],.ret (.v 3)]⟩
theorem nG.keep {st aA:aB}{n l d:Nat}{met:List (List Bool)}(N:nG st n l d met)(h:Ext st aA):nG aA n l d met:=⟨h _ _ N.ins,h _ _ N.dic,h _ _ N.met⟩
theorem xA {tR st aA:aB}{as:List Nat}(x:Ext tR st)(k:bL as st aA)(h:∀ a∈as,tR a=none):Ext tR aA:=fun a o e=>k a o (fun z=>by rw[h a z]at e;cases e) (x a o e)
theorem lU {st aA:aB}{a:Nat}(x:Ext st aA)(h:aA a=none):st a=none:=by cases hz:st a with|none=>rfl|some o=>rw[x _ _ hz]at h;cases h
theorem xM {st:aB}{Q:VK}(a c:List Bool):iY .add (aY a) (aY c) st Q=((a.length+c.length<=bE)/\Q (aY (a++c)) st):=by simp only[aY,HJ,dw,ab]
section
variable {G:Prog}{k i jB ifk fY imk ino ima ilo iph inh:Nat}{st tR:aB}{Q:VK}{E:XK}{b:Bk}{r p l1 l2 l3 n l dd:Nat}{R:List Sy}
theorem Mg (h:G.fns i=some (LY jB fY imk ino ima ilo))(hse:G.fns jB=some xV)(hha:G.fns fY=some (rT iph inh))(hn:G.fns inh=some sH)(hpa:G.fns iph=some oV)(hmk:G.fns imk=some CG)(hno:G.fns ino=some B3)(hma:G.fns ima=some xR)(hlo:G.fns ilo=some BY)(T0:iJ tR r p l1 l2 l3 b R)(x0:Ext tR st)(hl0:tR l=none)(hd0:tR dd=none)(B:b.Ok)(gT:b.aK.length<=4){m aZ:List Bool}{met:List (List Bool)}(N:nG st n l dd met)(hM:mO b.aK.length met)(hm:m.length=b.aK.length)(hf:aZ.length=b.fs.length)(hQ:∀ aA,bL [l,dd] st aA->nG aA n l dd (gW b m aZ met).2->Q (.tup ((gW b m aZ met).1.map fO)) aA):aH G (k+3) i [b.d,.ref r,.ref n,aY m,aY aZ] st Q E:=by
  have hL:bE=16777216:=rfl;have f2:=B.f2;have g2:=B.g2;have jT:b.names.length=b.fs.length+b.gs.length:=by simp [Bk.names]
  have hd:b.d=.tup [.tup (b.fs.map .str),.tup (b.gs.map .str),.tup (b.ps.map toD),.tup (b.ms.map toD),.tup (b.ws.map fun w=>.tup [.int w.1,toD w.2])]:=rfl;rw[aW h];simp only[LY,start];refine⟨rfl,?_⟩;lk;refine bS (by simp) fun u aC x1 hu hu1=>?_;rw[hd];lk;refine HY (k:=k+1) hse (by simp only[ab];omega) fun s aF hs x2 hs2=>?_;rw[ab]at hs2;k_ne;rw[aE hs2,<-hd];have iS:(cK b.gs.length).length<=16:=by rw[mH];exact fk (n:=2) (by decide) (by omega:b.gs.length<=4)
  have ul:u≠l:=fun z=>by rw[z,N.met]at hu;cases hu
  have ud:u≠dd:=fun z=>by rw[z,N.dic]at hu;cases hu
  have un:u≠n:=fun z=>by rw[z,N.ins]at hu;cases hu
  have sl:s≠l:=fun z=>by rw[z,x1 _ _ N.met]at hs;cases hs
  have sd:s≠dd:=fun z=>by rw[z,x1 _ _ N.dic]at hs;cases hs
  have su:s≠u:=fun z=>by rw[z,hu1]at hs;cases hs
  have nl:n≠l:=fun z=>by have:=N.ins;rw[z,N.met]at this;cases this
  have N2:=N.keep (x1.trans x2);have u0:tR u=none:=lU x0 hu;refine hJ aY (I:=fun rest σ aA=>∃ dn o6 o7 o8,cK b.gs.length=dn++rest/\σ=[some b.d,some (.ref r),some (.ref n),some (aY m),some (aY aZ),some (.ref u),o6,o7,o8]/\bL [l,dd,u] aF aA/\nG aA n l dd (dn.foldl (cB b m aZ) ([],met)).2/\aA u=some (.lst ((dn.foldl (cB b m aZ) ([],met)).1.map fO))/\(dn.foldl (cB b m aZ) ([],met)).1.length<=dn.length) (fun rest σ aA ⟨dn,o6,o7,o8,e1,e2,k1,N',e5,e6⟩=>?_) (fun fr rest σ aA M ⟨dn,o6,o7,o8,e1,e2,k1,N',e5,e6⟩ hM'=>?_) (fun σ aA ⟨dn,o6,o7,o8,e1,e2,k1,N',e5,e6⟩=>?_) _ _ _ ⟨[],none,none,none,rfl,rfl,.refl,N2,x2 _ _ hu1,by simp⟩;· intro a ha;simp only[ah]at ha;subst ha;rw[hs2,k1 _ _ (by simp [sl,sd,su]) hs2]
  · subst e2;have hfr:fr.length=b.gs.length:=lT _ _ (by rw[e1];simp)
    have hdn : dn.length ≤ 16 := by have:dn.length≤(cK b.gs.length).length:=by rw[e1];simp
                                    omega
    have hMx:=vA (b:=b) (m:=m) (aZ:=aZ) dn (x:=([],met)) hM;have xx:Ext tR aA:=xA (x0.trans (x1.trans x2)) k1 (fun a ha=>by
      simp only[bw,bj,or_false]at ha;rcases ha with ha|ha|ha;·rw[ha];exact hl0
      ·rw[ha];exact hd0
      ·rw[ha];exact u0);have T':=T0.keep xx;obtain⟨lp,lr,ld,lm,js,TT,_⟩:=T'.tab.h;generalize hX:dn.foldl (cB b m aZ) ([],met)=X at N' e5 e6 hMx;have hXs:(dn++[fr]).foldl (cB b m aZ) ([],met)=cB b m aZ X fr:=by rw[Yt,hX];rfl
    lk;rw[dB T'.ins qX,iM TT.ins (NK (by decide +kernel) (by decide +kernel) (by decide +kernel) (by decide +kernel) (by decide +kernel) (by decide +kernel))];refine⟨True.intro,?_⟩;rw[xM];refine⟨by omega,?_⟩;refine NX hha hn hpa T' hm (by simp [hf,hfr,jT]) fun aX q hq0 y3 hq=>?_;k_ne;have T3:=T'.keep y3;lk;rw[iM T3.ins (AY (by decide +kernel) (by decide +kernel) (by decide +kernel) (by decide +kernel))];refine⟨True.intro,?_⟩;refine QM (k:=k+1) hmk T3 B hq fun cG y4=>?_;k_ne;have T4:=T3.keep y4;have y34:=y3.trans y4;cases hv:bK b.ms (b.vm m (aZ++fr))with
    |false =>
      simp only[ak,if_false,aI];have eX:cB b m aZ X fr=X:=by unfold cB;rw[hv];rfl
      refine hM' _ cG ⟨dn++[fr],_,_,_,by simp [e1],rfl,k1.trans y34.keep,by rw[hXs,eX];exact N'.keep y34,by rw[hXs,eX];exact y34 _ _ e5,by rw[hXs,eX];simp;omega⟩|true =>
      simp only[if_true];have eX:cB b m aZ X fr=(X.1++[(fr,rX b.ws (b.vm m (aZ++fr)),(jP X.2 (b.sP m (aZ++fr))).idxOf (b.sP m (aZ++fr)))],jP X.2 (b.sP m (aZ++fr))):=by unfold cB;rw[hv];rfl
      have N4:=N'.keep y34;lk;rw[iM N4.ins (Na (by decide +kernel) (by decide +kernel))];refine⟨True.intro,?_⟩;rw[dB T4.ins qX,iM (TT.keep y34).ins (NK (by decide +kernel) (by decide +kernel) (by decide +kernel) (by decide +kernel) (by decide +kernel) (by decide +kernel))];refine⟨True.intro,?_⟩;refine Fg (k:=k+1) hma T4 gT (y4 _ _ hq) fun cW y5=>?_;have N5:=N4.keep y5;have hX2:=hMx.ED gT;refine Dm (k:=k+1) hno N5 (by omega) fun fM k6 N6=>?_;k_ne;have x6:Ext tR fM:=xA (xx.trans (y34.trans y5)) k6 (fun a ha=>by
        simp only[bw,bj,or_false]at ha;rcases ha with ha|ha;·rw[ha];exact hl0
        ·rw[ha];exact hd0);have T6:=T0.keep x6;have u6:fM u=some (.lst (X.1.map fO)):=k6 u _ (by simp [ul,ud]) (y5 _ _ (y34 _ _ e5));have ql:q≠l:=fun z=>by rw[z,N'.met]at hq0;cases hq0
      have qd:q≠dd:=fun z=>by rw[z,N'.dic]at hq0;cases hq0
      have q6:fM q=some (.lst (R.map fun s=>.bl (b.vm m (aZ++fr) s))):=k6 q _ (by simp [ql,qd]) (y5 _ _ (y4 _ _ hq));lk;rw[aE u6];refine⟨True.intro,?_⟩;rw[iM T6.ins (AY (by decide +kernel) (by decide +kernel) (by decide +kernel) (by decide +kernel))];refine⟨True.intro,?_⟩;refine Di (k:=k+1) hlo T6 B q6 fun kF y7=>?_;k_ne;rw[aE (y7 _ _ u6)];refine⟨by simp only[ab];omega,?_⟩;simp only[aI];refine hM' _ _ ⟨dn++[fr],_,_,_,by simp [e1],rfl,?_,?_,?_,?_⟩;· intro a o na e;simp only[bw,bj,or_false,not_or]at na;rw[aM na.2.2];exact y7 _ _ (k6 a o (by simp [na]) (y5 _ _ (y34 _ _ (k1 a o (by simp [na]) e))))
      · rw[hXs,eX];exact⟨by rw[aM (fj un)];exact y7 _ _ N6.ins,by rw[aM (fj ud)];exact y7 _ _ N6.dic,by rw[aM (fj ul)];exact y7 _ _ N6.met⟩
      ·rw[aN,hXs,eX];simp [fO]
      ·rw[hXs,eX];simp;omega
  · subst e2;rw[d5]at e1;have eA:gW b m aZ met=dn.foldl (cB b m aZ) ([],met):=by unfold gW;rw[e1]
    lk;rw[aE e5];have hdn:dn.length<=16:=by rw[<-e1];exact iS
    refine⟨by simp only[ab];omega,?_⟩;rw[<-eA];refine hQ aA (fun a o na e=>?_) (by rw[eA];exact N');have au:a≠u:=fun z=>by rw[z,hu]at e;cases e
    simp only[bw,bj,or_false,not_or]at na;exact k1 a o (by simp [na,au]) (x2 _ _ (x1 _ _ e))
noncomputable abbrev Node:=List Bool×List (List Bool×List jY)
noncomputable def jJ (x:List Bool×List jY):D:=.tup [aY x.1,.tup (x.2.map fO)]
noncomputable def fQ (x:Node):D:=.tup [aY x.1,.tup (x.2.map jJ)]
noncomputable def cI (b:Bk)(m:List Bool)(x:List (List Bool×List jY)×List (List Bool))(aZ:List Bool):List (List Bool×List jY)×List (List Bool) :=(x.1++[(aZ,(gW b m aZ x.2).1)],(gW b m aZ x.2).2)
noncomputable def jH (b:Bk)(m:List Bool)(met:List (List Bool)):List (List Bool×List jY)×List (List Bool):=(lO b m).foldl (cI b m) ([],met)
noncomputable abbrev GS:=List (List Bool)×List Node
noncomputable def oG (b:Bk)(x:GS):GS:=if x.2.length<x.1.length then((jH b ((x.1[x.2.length]?).getD []) x.1).2,x.2++[((x.1[x.2.length]?).getD [],(jH b ((x.1[x.2.length]?).getD []) x.1).1)])else x
noncomputable def aU (b:Bk):Nat->GS|0=>([b.aK.map eY],[])|j+1=>oG b (aU b j)
noncomputable def kP (b:Bk):List Node:=(aU b 17).2
theorem II (met:List (List Bool))(m:List Bool):met.length<=(jP met m).length:=by unfold jP;split<;>simp
theorem DV {b:Bk}{m aZ:List Bool}:∀(l:List (List Bool))(x:List jY×List (List Bool)),x.2.length<=(l.foldl (cB b m aZ) x).2.length
 |[],_=>aw _|fr::l,x=>by
  refine dg ?_ (DV l (cB b m aZ x fr));unfold cB;split;·exact II _ _
  ·exact aw _
theorem LW {b:Bk}{m:List Bool}:∀(l:List (List Bool))(x:List (List Bool×List jY)×List (List Bool)),x.2.length<=(l.foldl (cI b m) x).2.length|[],_=>aw _|fr::l,x=>dg (DV _ ([],x.2)) (LW l (cI b m x fr))
theorem EK {m:List Bool}(met:List (List Bool)):met.length<=(jH b m met).2.length:=LW _ ([],met)
theorem JM {m aZ:List Bool}(h:aZ∈lO b m):aZ.length=b.fs.length:=lT _ _ (List.mem_filter.mp h).1
theorem zW {b:Bk}{m:List Bool}:∀(l:List (List Bool)){x:List (List Bool×List jY)×List (List Bool)},mO b.aK.length x.2->mO b.aK.length (l.foldl (cI b m) x).2|[],_,h=>h|aZ::l,_,h=>zW l (by simp only[cI];exact vA _ h)
theorem uD (b:Bk):∀ j,mO b.aK.length (aU b j).1
 |0=>⟨by simp [aU],by simp [aU]⟩|j+1=>by
  have h:=uD b j;simp only[aU,oG];split;·exact zW _ h
  ·exact h
set_option tactic.hygienic true in
theorem qT (b:Bk)(gT:b.aK.length<=4):∀ j,(aU b j).2.length<=(aU b j).1.length
 |0=>by simp [aU]|j+1=>by
  have h:=qT b gT j;simp only[aU,oG];split;·rename_i hl;have:(aU b j).1.length<=(jH b (((aU b j).1[(aU b j).2.length]?).getD []) (aU b j).1).2.length:=EK _;simp only[bq,bf,az];omega
  ·exact h
end
theorem uZ (b:Bk)(gT:b.aK.length<=4):∀ j,(aU b j).2.length=j∨((aU b j).2.length=(aU b j).1.length)
 |0=>.inl rfl|j+1=>by
  rcases uZ b gT j with h|h
  ·simp only[aU,oG];by_cases q:(aU b j).2.length<(aU b j).1.length;·rw[if_pos q];left;simp only[bq,bf,az];omega
   ·rw[if_neg q];right;have:=qT b gT j;omega
  ·simp only[aU,oG];rw[if_neg (by omega)];exact .inr h
theorem FZ (b:Bk){j:Nat}(h:¬(aU b j).2.length<(aU b j).1.length):∀ n,aU b (j+n)=aU b j|0=>rfl|n+1=>by show oG b (aU b (j+n))=_;rw[FZ b h n];unfold oG;rw[if_neg h]
section
variable {G:Prog}{k i ich icp iri ini ifs ian ibk iti io iz ie irr iw ipo jB ifk fY imk ino ima ilo iph inh:Nat}{st:aB}{Q:VK}{E:XK}{b:Bk}
theorem Hb (h:G.fns i=some (K5 ich iri ini ifs ian))(hch:G.fns ich=some (nJ ibk))(hb:GA G ibk 13 b)(hri:G.fns iri=some (sW iti io))(ht:G.fns iti=some (lY iz ie irr))(hz:G.fns iz=some (jF iw))(he:G.fns ie=some (oK ie iw ipo))(hw:G.fns iw=some gE)(hpo:G.fns ipo=some pD)(hrr:G.fns irr=some xY)(hio:G.fns io=some oJ)(hni:G.fns ini=some FW)(hfs:G.fns ifs=some (E8 jB ifk fY))(han:G.fns ian=some (LY jB fY imk ino ima ilo))(hse:G.fns jB=some xV)(hfk:G.fns ifk=some B2)(hha:G.fns fY=some (rT iph inh))(hn:G.fns inh=some sH)(hpa:G.fns iph=some oV)(hmk:G.fns imk=some CG)(hno:G.fns ino=some B3)(hma:G.fns ima=some xR)(hlo:G.fns ilo=some BY)(B:b.Ok)(hs:fW b.says<=5000)(gT:b.aK.length<=4)(hQ:∀ p aA,st p=none->Ext st aA->aA p=some (.lst ((kP b).map fQ))->Q (.ref p) aA):aH G (k+15) i [b.d] st Q E:=by
 have hL:bE=16777216:=rfl;have f2:=B.f2;rw[aW h];simp only[K5,start];refine⟨rfl,?_⟩;lk;refine EJ (k:=k) hch hb fun aC x1=>?_;lk;intro r hr;refine MH (k:=k+1) hri ht hz he hw hpo hrr hio B hs (by show b.aK.length<=5000;omega) aN fun aF p l1 l2 l3 R k2 T2=>⟨rfl,?_⟩;have x2:Ext aC aF:=fun a o e=>k2 a o (by intro z;simp only[ah]at z;rw[z,hr]at e;cases e) (sC hr e);k_ne;lk;rw[dB T2.ins qX];obtain⟨lp,lr,ld,lm,js,TT,_⟩:=T2.tab.h;rw[dB TT.ins (x:=.tup (b.aK.map fun s=>.bl (eY s))) (by rw[iI (by decide +kernel) (by decide +kernel) (by decide +kernel) (by decide +kernel)];simp only[GF,bY];rw[if_pos cy];rfl)];intro n hn0;have ei:D.tup (b.aK.map fun s=>.bl (eY s))=aY (b.aK.map eY):=by simp [aY]
 rw[ei];refine Fk (k:=k+13) hni aN fun aX l dd hl3 hd3 k3 N3=>⟨rfl,?_⟩;have x3:Ext aF aX:=fun a o e=>k3 a o (by intro z;simp only[ah]at z;rw[z,hn0]at e;cases e) (sC hn0 e);have hl2:aF l=none:=by
  have hnl:l≠n:=fun z=>by rw[z,aN]at hl3;cases hl3
  rwa [aM hnl]at hl3
 have hd2:aF dd=none:=by
  have hnl:dd≠n:=fun z=>by rw[z,aN]at hd3;cases hd3
  rwa [aM hnl]at hd3
 k_ne;lk;refine bS (by simp) fun nd cG x4 hnd nd4=>?_;k_ne;have x24:=x3.trans x4;have ndl:nd≠l:=fun z=>by rw[z,N3.met]at hnd;cases hnd
 have ndd:nd≠dd:=fun z=>by rw[z,N3.dic]at hnd;cases hnd
 have ndn:nd≠n:=fun z=>by rw[z,N3.ins]at hnd;cases hnd
 have nd2:aF nd=none:=lU x3 hnd;refine fT ?_;refine yO (kJ G (aw _)) (I:=fun mm σ aA=>∃ j o4 o5 o6,mm+(aU b j).2.length=17/\j<=17/\(aU b j).2.length=j/\σ=[some b.d,some (.ref r),some (.ref n),some (.ref nd),o4,o5,o6]/\Ext aF aA/\nG aA n l dd (aU b j).1/\aA nd=some (.lst ((aU b j).2.map fQ))) ?_ (m:=17) ⟨0,none,none,none,rfl,by omega,rfl,rfl,x24,N3.keep x4,nd4⟩;rintro mm σ aA ⟨j,o4,o5,o6,e0,e0',ej,e2,x5,N5,nd5⟩;subst e2;have Ar:=uD b j;have vN:=Ar.ED gT;have hlen:=qT b gT j;k_ne;rw[eI nd5,dB N5.ins B4,HP,eI N5.met];k_ne;by_cases cN:(aU b j).2.length<(aU b j).1.length
 ·have hc:(((aU b j).2.map fQ).length:Int)<((aU b j).1.map aY).length:=by simp only[ab];omega
  rw[if_pos (by simpa using hc)];have hjm:j<(aU b j).1.length:=by omega
  generalize hm:(aU b j).1[j]=m;have hmg:(aU b j).1[j]? = some m:=by rw[ai hjm,hm]
  have hml:m.length=b.aK.length:=Ar.len m (bp hmg);lk;rw[dB N5.ins B4,eI nd5,dN N5.met,ab,ej,dG (by simpa using hjm),bg,hmg,jf,bB];k_ne;lk;refine bS (by simp) fun mv fM x6 hmv mv6=>?_;k_ne;have T6:=T2.keep (x5.trans x6);lk;refine Cv (k:=k+11) hfs hse hfk hha hn hpa T6 B hml fun fl kF hfl x7 hfl7=>?_;k_ne;rw[aE hfl7];have N7:=N5.keep (x6.trans x7);have nd7:=x7 _ _ (x6 _ _ nd5);have mv7:=x7 _ _ mv6;have mvl:mv≠l:=fun z=>by rw[z,N5.met]at hmv;cases hmv
  have mvd:mv≠dd:=fun z=>by rw[z,N5.dic]at hmv;cases hmv
  have mvn:mv≠n:=fun z=>by rw[z,N5.ins]at hmv;cases hmv
  have mvnd:mv≠nd:=fun z=>by rw[z,nd5]at hmv;cases hmv
  have flmv:fl≠mv:=fun z=>by rw[z,mv6]at hfl;cases hfl
  have fll:fl≠l:=fun z=>by rw[z,x6 _ _ N5.met]at hfl;cases hfl
  have fld:fl≠dd:=fun z=>by rw[z,x6 _ _ N5.dic]at hfl;cases hfl
  have mv2:aF mv=none:=lU x5 hmv;have hfsz:(lO b m).length<=16:=by
   have h1:=gr (fun aZ=>bK b.ps (b.vm m (aZ++ao b.gs.length false))) (cK b.fs.length);have h2:(cK b.fs.length).length<=16:=by rw[mH];exact fk (n:=2) (by decide) (by omega:b.fs.length<=4)
   unfold lO;omega
  refine hJ aY (I:=fun rest σ eB=>∃ dn o6,lO b m=dn++rest/\σ=[some b.d,some (.ref r),some (.ref n),some (.ref nd),some (aY m),some (.ref mv),o6]/\bL [l,dd,mv] kF eB/\nG eB n l dd (dn.foldl (cI b m) ([],(aU b j).1)).2/\eB mv=some (.lst ((dn.foldl (cI b m) ([],(aU b j).1)).1.map jJ))/\(dn.foldl (cI b m) ([],(aU b j).1)).1.length=dn.length) (fun rest σ eB hI=>?_) (fun aZ rest σ eB M hI hM'=>?_) (fun σ eB hI=>?_) _ _ _ ⟨[],o6,rfl,rfl,.refl,N7,mv7,rfl⟩;·obtain⟨dn,o6,g1,g2,g3,g4,g5,g6⟩:=hI;intro a ha;simp only[ah]at ha;subst ha;rw[hfl7,g3 _ _ (by simp [fll,fld,flmv]) hfl7]
  ·obtain⟨dn,o6,g1,g2,g3,g4,g5,g6⟩:=hI;subst g2;have hfo:aZ.length=b.fs.length:=JM (m:=m) (by rw[g1];simp);have hdn:dn.length<=16:=by rw[g1]at hfsz;simp at hfsz;omega
   have x8:Ext aF eB:=xA (x5.trans (x6.trans x7)) g3 (fun a ha=>by
    simp only[bw,bj,or_false]at ha;rcases ha with ha|ha|ha;·rw[ha];exact hl2
    ·rw[ha];exact hd2
    ·rw[ha];exact mv2);have hMx:=zW (b:=b) (m:=m) dn (x:=([],(aU b j).1)) Ar;generalize hX:dn.foldl (cI b m) ([],(aU b j).1)=X at g4 g5 g6 hMx;have hXs:(dn++[aZ]).foldl (cI b m) ([],(aU b j).1)=cI b m X aZ:=by rw[Yt,hX];rfl
   lk;rw[aE g5];refine⟨True.intro,?_⟩;refine Mg (k:=k+11) han hse hha hn hpa hmk hno hma hlo T2 x8 hl2 hd2 B gT g4 hMx hml hfo fun rR k9 N9=>?_;have mv9:=k9 mv _ (by simp [mvl,mvd]) g5;k_ne;rw[aE mv9];refine⟨by simp only[ab];omega,?_⟩;simp only[aI];refine hM' _ _ ⟨dn++[aZ],_,by simp [g1],rfl,?_,?_,?_,?_⟩;·intro a o na e;simp only[bw,bj,or_false,not_or]at na;rw[aM na.2.2];exact k9 a o (by simp [na]) (g3 a o (by simp [na]) e)
   ·rw[hXs];exact⟨by rw[aM (fj mvn)];exact N9.ins,by rw[aM (fj mvd)];exact N9.dic,by rw[aM (fj mvl)];exact N9.met⟩
   ·rw[aN,hXs];simp [cI,jJ]
   ·rw[hXs];simp [cI,g6]
  ·obtain⟨dn,o6,g1,g2,g3,g4,g5,g6⟩:=hI;subst g2;rw[d5]at g1;have eM:jH b m (aU b j).1=dn.foldl (cI b m) ([],(aU b j).1):=by unfold jH;rw[g1]
   have hdn:dn.length<=16:=by rw[<-g1];exact hfsz
   have eG:aU b (j+1)=((jH b m (aU b j).1).2,(aU b j).2++[(m,(jH b m (aU b j).1).1)]):=by simp only[aU,oG];rw[if_pos cN,ej,hmg];rfl
   have nd8:eB nd=some (.lst ((aU b j).2.map fQ)):=g3 nd _ (by simp [ndl,ndd,fj mvnd]) nd7;lk;rw[aE nd8];refine⟨True.intro,?_⟩;rw[aE g5];refine⟨by simp only[ab];omega,?_⟩;rw[aE nd8];refine⟨by simp only[ab];omega,?_⟩;simp only[aI];refine⟨mm-1,by omega,j+1,_,_,_,by rw[eG];simp;omega,by omega,by rw[eG];simp [ej],rfl,?_,?_,?_⟩
   ·intro a o e;have and':a≠nd:=fun z=>by rw[z,nd2]at e;cases e
    have al:a≠l:=fun z=>by rw[z,hl2]at e;cases e
    have ad:a≠dd:=fun z=>by rw[z,hd2]at e;cases e
    have am:a≠mv:=fun z=>by rw[z,mv2]at e;cases e
    rw[aM and'];exact g3 a o (by simp [al,ad,am]) (x7 _ _ (x6 _ _ (x5 _ _ e)))
   ·rw[eG,eM];exact⟨by rw[aM (fj ndn)];exact g4.ins,by rw[aM (fj ndd)];exact g4.dic,by rw[aM (fj ndl)];exact g4.met⟩
   ·rw[aN,eG,eM];simp [fQ]
 ·have hc:¬(((aU b j).2.map fQ).length:Int)<((aU b j).1.map aY).length:=by simp only[ab];omega
  rw[if_neg (by simpa using hc)];lk;have hfin:kP b=(aU b j).2:=by unfold kP;have:=FZ b cN (17-j);rw[show j+(17-j)=17 by omega]at this;rw[this]
  refine hQ nd aA ?_ ((x1.trans x2).trans x5) (by rw[hfin];exact nd5);exact lU (x1.trans x2) nd2
end
noncomputable def zX:Fn:=⟨1,5,[.asg (.nm 1) (.lst [(.tup [])]),.jA (.nm 2) (some .range) [(.v 0)] [.asg (.nm 3) (.lst []),.jA (.nm 4) none [(.v 1)] [.ex (.cM .extend (.v 3) [(.lst [(.bin .add (.v 4) (.tup [(.c (.bl false))])),(.bin .add (.v 4) (.tup [(.c (.bl true))]))])])],.asg (.nm 1) (.v 3)],.ret (.v 1)]⟩
section
variable {names:List (List Nat)}{pl:List (List Bool)}{x:List Bool}
theorem KP {f g f' g':Nat->Bool}:∀ t,(∀ k,k<=t->f k=f' k/\g k=g' k)->sG f g t=sG f' g' t|0,h=>(h 0 (aw _)).2|t+1,h=>by simp only[sG];rw[(h (t+1) (aw _)).1,(h (t+1) (aw _)).2,KP t fun k hk=>h k (by omega)]
theorem Dw {f g:Nat->Bool}(n:Nat)(h:∀ k,k<n->f k=g k):(ay n).any f=(ay n).any g:=by induction n with|zero=>rfl|succ n ih=>rw[IC,IC,ih fun k hk=>h k (by omega),h n (by omega)]
theorem Cj {f g:Nat->Bool}(n:Nat)(h:∀ k,k<n->f k=g k):(ay n).all f=(ay n).all g:=by induction n with|zero=>rfl|succ n ih=>rw[G6,G6,ih fun k hk=>h k (by omega),h n (by omega)]
theorem hU:∀(s:Sy)(t:Nat),t<pl.length->hv names (pl++[x]) s t=hv names pl s t|.yes,_,_=>rfl|.no,_,_=>rfl|.cU n,t,h=>by simp only[hv,K8];rw[bu h]|.one .not s,t,h=>by simp only[hv];rw[hU s t h]|.one .before s,t,h=>by simp only[hv];rw[hU s (t-1) (by omega)]|.one .once s,t,h=>by simp only[hv];exact Dw _ fun k hk=>hU s k (by omega)|.one .sofar s,t,h=>by simp only[hv];exact Cj _ fun k hk=>hU s k (by omega)|.two .and s u,t,h=>by simp only[hv];rw[hU s t h,hU u t h]|.two .or s u,t,h=>by simp only[hv];rw[hU s t h,hU u t h]|.two .bF s u,t,h=>by simp only[hv];rw[hU s t h,hU u t h]|.two .same s u,t,h=>by simp only[hv];rw[hU s t h,hU u t h]|.two .since s u,t,h=>by simp only[hv];exact KP t fun k hk=>⟨hU s k (by omega),hU u k (by omega)⟩
theorem Eo (s:Sy):iQ names (pl++[x]) pl.length s=iQ names pl pl.length s:=by
 unfold iQ;split;·rfl
 ·exact hU _ _ (by omega)
theorem Rl {aK:List Sy}{m:List Bool}(hm:m=aK.map (iQ names pl pl.length)):∀ s:Sy,mB aK s->vm names aK m x s=hv names (pl++[x]) s pl.length:=by
 have step:∀ s:Sy,(bX s=true->s∈aK)->(∀ t∈subs s,vm names aK m x t=hv names (pl++[x]) t pl.length)->vm names aK m x s=hv names (pl++[x]) s pl.length:=fun s hp hs=>by have hsub:(subs s).map (vm names aK m x)=(subs s).map fun u=>hv names (pl++[x]) u pl.length:=nu hs;cases h:bX s with
  |true =>
   rw[Q6 h,QW h,hsub,Eo];have cN:=List.idxOf_lt_length_iff.mpr (hp h);have:(m[aK.idxOf s]?).getD false=iQ names pl pl.length s:=by rw[hm,bg,ai cN];simp
   rw[this]|false =>cases hl:fV s with|false=>rw[VZ h hl,V9 h hl,hsub]|true =>cases s with|cU n=>simp [vm,hv,K8]|_=>cases hl
 intro s;induction s with|yes=>intro _;rfl|no=>intro _;rfl|cU n=>intro _;exact step _ (fun z=>by cases z) (fun t ht=>by cases ht)|one w a ih=>intro h;exact step _ h.1 fun t ht=>by simp only[subs,ah]at ht;subst ht;exact ih h.2|two w a b fY ihb =>
  intro h;refine step _ h.1 fun t ht=>?_;simp only[subs,bw,bj,or_false]at ht;rcases ht with rfl|rfl;·exact fY h.2.1
  ·exact ihb h.2.2
end
theorem LJ {P f:List Sy}{s:Sy}(hf:∀ x∈f,mB P x)(hs:mB P s):∀ x∈fF f s,mB P x:=by
 unfold fF;split
 ·intro x hx;rcases List.mem_append.mp hx with hx|hx;·exact hf x hx
  ·simp only[ah]at hx;subst hx;exact hs
 ·exact hf
theorem B9 {P:List Sy}:∀(s:Sy){f:List Sy},(∀ x∈f,mB P x)->mB P s->∀ x∈aK s f,mB P x|.yes,_,hf,_=>hf|.no,_,hf,_=>hf|.cU _,_,hf,_=>hf|.one w s,_,hf,hs=>B9 s (LJ hf hs) hs.2|.two w s t,_,hf,hs=>B9 t (B9 s (LJ hf hs) hs.2.1) hs.2.2
theorem L9 {P:List Sy}:∀(l:List Sy){f:List Sy},(∀ x∈f,mB P x)->(∀ s∈l,mB P s)->∀ x∈cZ l f,mB P x|[],_,hf,_=>hf|s::l,_,hf,hl=>L9 l (B9 s hf (hl s (by simp))) fun x hx=>hl x (by simp [hx])
theorem Fs {P:List Sy}{s:Sy}(h:mB P s):mB P (nZ s):=by cases s with
 |one w a =>cases w with|before=>exact h.2|_=>exact h
 |_=>exact h
noncomputable def Bk.mem (b:Bk)(pl:List (List Bool)):List Bool:=b.aK.map (iQ b.names pl pl.length)
theorem DZ (b:Bk):∀ s∈b.says,mB b.aK s:=fun s hs=>HM b.says [] s hs
theorem Ei (b:Bk):∀ s∈b.aK,mB b.aK s:=L9 b.says (by simp) (DZ b)
theorem MJ (b:Bk)(pl:List (List Bool))(x:List Bool){s:Sy}(h:mB b.aK s):b.vm (b.mem pl) x s=hv b.names (pl++[x]) s pl.length:=Rl rfl s h
theorem Dg (b:Bk)(pl:List (List Bool))(x:List Bool):b.sP (b.mem pl) x=b.mem (pl++[x]):=by unfold Bk.sP Bk.mem;refine nu fun s hs=>?_;have h:=MJ b pl x (Fs (Ei b s hs));show b.vm (b.mem pl) x (nZ s)=_;rw[h];simp [iQ]
section
variable {G:Prog}{k i ih ise ik ilo:Nat}{st:aB}{Q:VK}{E:XK}{b:Bk}{l:Nat}{pl:List (List Bool)}
theorem Ab (h:G.fns i=some zX){n:Nat}(hd:n<=4)(hQ:∀ p aA,st p=none->Ext st aA->aA p=some (.lst ((cK n).map aY))->Q (.ref p) aA):aH G (k+1) i [.int (n:Nat)] st Q E:=by
 have hL:bE=16777216:=rfl;rw[aW h];simp only[zX,start];refine⟨rfl,?_⟩;lk;refine bS (by show 1<=bE;decide) fun p aC x1 hp hp1=>?_;lk;refine⟨by unfold gF;omega,?_⟩;rw[show((n:Int)).toNat=n by omega,qK];have p1:aC p=some (.lst ((cK 0).map aY)):=hp1;refine hJ (fun j:Nat=>D.int (j:Nat)) (I:=fun rest σ aA=>∃ t q o2 o3 o4,t<=n/\rest=(ay n).drop t/\σ=[some (.int (n:Nat)),some (.ref q),o2,o3,o4]/\st q=none/\Ext st aA/\aA q=some (.lst ((cK t).map aY))) (fun rest σ aA _ a ha=>?_) (fun x rest σ aA M hI hM=>?_) (fun σ aA hI=>?_) _ _ _ ⟨0,p,none,none,none,dt _,rfl,rfl,hp,x1,p1⟩;·cases ha
 ·obtain⟨t,q,o2,o3,o4,e0,e1,e2,hq,x3,e5⟩:=hI;subst e2;have ht:t<(ay n).length:=by
   by_cases z:t<(ay n).length;·exact z
   ·rw[gj (by omega)]at e1;cases e1
  rw[cj ht]at e1;injection e1 with e3 e4;simp only[dm]at ht;have iS:(cK t).length<=16:=by rw[mH];exact fk (n:=2) (by decide) (by omega:t<=4)
  lk;refine bS (by simp) fun u cG x4 hu hu4=>?_;have qu:q≠u:=fun z=>by rw[<-z,e5]at hu;cases hu
  lk;rw[aE (x4 _ _ e5)];refine hJ aY (I:=fun yW σ cW=>∃ dn o4,cK t=dn++yW/\σ=[some (.int (n:Nat)),some (.ref q),some (.int (x:Nat)),some (.ref u),o4]/\bL [u] cG cW/\cW u=some (.lst ((dn.flatMap fun r=>[r++[false],r++[true]]).map aY))) (fun yW σ cW ⟨dn,o4,f1,f2,f3,f4⟩=>?_) (fun y yW σ cW M2 ⟨dn,o4,f1,f2,f3,f4⟩ hM2=>?_) (fun σ cW ⟨dn,o4,f1,f2,f3,f4⟩=>?_) _ _ _ ⟨[],o4,rfl,rfl,.refl,hu4⟩;·intro a ha;simp only[ah]at ha;subst ha;rw[x4 _ _ e5,f3 _ _ (by simpa using qu) (x4 _ _ e5)]
  ·subst f2;have hl:(dn.flatMap fun r=>[r++[false],r++[true]]).length<=40:=by
    have:∀ l:List (List Bool),(l.flatMap fun r=>[r++[false],r++[true]]).length=2*l.length:=fun l=>by induction l with|nil=>rfl|cons a l ih=>simp only[qb,bq,ih,bf,az];omega
    rw[this];have:dn.length<=(cK t).length:=by rw[f1];simp
    omega
   have hyl:y.length=t:=lT t y (by rw[f1];simp);simp only[aY];lk;rw[aE f4];refine⟨True.intro,by simp only[ab];omega,by simp only[ab];omega,?_⟩;refine bS (by show 2<=bE;decide) fun w fM x6 hw hw6=>?_;have wu:w≠u:=fun z=>by rw[z,f4]at hw;cases hw
   rw[aE (x6 _ _ f4),P5,aE hw6];refine⟨by simp only[ab,bf,az];omega,?_⟩;simp only[aI];refine hM2 _ _ ⟨dn++[y],_,by simp [f1],rfl,fun a o na e=>by rw[aM (by simpa using na)];exact x6 _ _ (f3 a o na e),?_⟩;rw[aN];simp [aY,yt]
  ·subst f2;rw[d5]at f1;lk;simp only[aI];refine hM _ cW ⟨t+1,u,_,_,_,by omega,e4,rfl,?_,fun a o e=>f3 a o (fun z=>?_) (x4 _ _ (x3 _ _ e)),?_⟩;·cases hz:st u with|none=>rfl|some o=>rw[x3 _ _ hz]at hu;cases hu
   ·simp only[ah]at z;rw[z]at e;rw[x3 _ _ e]at hu;cases hu
   ·rw[f4,<-f1];rfl
 ·obtain⟨t,q,o2,o3,o4,e0,e1,e2,hq,x3,e5⟩:=hI;subst e2;have ht:n<=t:=by
   by_cases z:t<(ay n).length;·rw[cj z]at e1;cases e1
   ·simpa using z
  have et:t=n:=by omega
  subst et;lk;exact hQ q aA hq x3 e5
noncomputable def rY (b:Bk)(m aZ fr:List Bool):Bool:=bK b.ms (b.vm m (aZ++fr))
theorem EW (b:Bk){ss:List Sy}(hss:∀ s∈ss,s∈b.says)(pl:List (List Bool))(x:List Bool):(ss.all fun s=>hv b.names (pl++[x]) s ((pl++[x]).length-1))=bK ss (b.vm (b.mem pl) x):=by
 unfold bK;have e:(pl++[x]).length-1=pl.length:=by simp
 rw[e];induction ss with|nil=>rfl|cons a l ih =>simp only[ny];rw[ih fun s hs=>hss s (by simp [hs]),MJ b pl x (DZ b a (hss a (by simp)))]
theorem Gi (b:Bk)(pl:List (List Bool))(x:List Bool):rX b.ws (fun s=>hv b.names (pl++[x]) s ((pl++[x]).length-1))=rX b.ws (b.vm (b.mem pl) x):=by
 unfold rX;have e:(pl++[x]).length-1=pl.length:=by simp
 rw[e];congr 2;refine List.filter_congr fun w hw=>?_;rw[MJ b pl x (DZ b w.2 (by simp only[Bk.says,kj,sk];exact .inr ⟨w,hw,rfl⟩))]
end
theorem qO {α:Type}(f:α->D){n:Nat}(h:∀ x,bQ (f x)=true/\cT (f x)<=n):∀ l:List α,cD (l.map f)=true/\cX (l.map f)<=n|[]=>⟨rfl,dt _⟩|a::l=>by have h1:=h a;have h2:=qO f h l;simp only[bb,cD,h1.1,h2.1,fz,cX,true_and];omega
theorem DK (a:jY):bQ (fO a)=true/\cT (fO a)<=2:=by have h:=BU a.1;simp only[fO,bQ,cD,pO,fz,cT,cX,true_and];omega
theorem UR (x:List Bool×List jY):bQ (jJ x)=true/\cT (jJ x)<=4:=by have h:=BU x.1;have h2:=qO fO DK x.2;simp only[jJ,bQ,cD,pO,h2.1,fz,cT,cX,true_and];omega
noncomputable def tH:Fn:=⟨3,3,[.ret (.bi .all [(.comp 1 [1,2] [0] true none [(.ix (.v 0) (.c (.int 1)))] [] (.and_ (.cmp .isnot (.ix (.v 1) (.ix (.v 0) (.c (.int 2)))) (.c .non)) (.cmp .lt (.ix (.v 1) (.ix (.v 0) (.c (.int 2)))) (.v 2))))])]⟩
noncomputable abbrev Rk:=List (Option Nat)
noncomputable def rD:Option Nat->D|none=>.non|some t=>.int (t:Nat)
noncomputable def bV (R:Rk)(i:Nat):Option Nat:=(R[i]?).getD none
noncomputable abbrev Mv:=List Bool×List jY
noncomputable def eJ (R:Rk)(t:Nat)(m:Mv):Bool:=m.2.all fun a=>(bV R a.2.2).any fun r=>decide (r<t)
def xT (n:Nat)(m:Mv):Prop:=m.2.length<=1000/\∀ a∈m.2,a.2.2<n
theorem yF (o:Option Nat):yC (rD o)=o.isNone:=by cases o<;>rfl
section
variable {G:Prog}{k i q:Nat}{st:aB}{Q:VK}{E:XK}{R:Rk}
theorem CB (hq:st q=some (.lst (R.map rD))){j:Nat}(hj:j<R.length):mY (.ref q) (.int (j:Nat)) st Q=Q (rD (bV R j)) st:=by rw[dN hq,dG (by simpa using hj),bg,ai hj];simp [dJ,bV,hj]
theorem M6 (h:G.fns i=some tH){m:Mv}{t:Nat}(hq:st q=some (.lst (R.map rD)))(hm:xT R.length m)(hQ:∀ aA,Ext st aA->Q (.bl (eJ R t m)) aA):aH G (k+1) i [jJ m,.ref q,.int (t:Nat)] st Q E:=by
 have hL:bE=16777216:=rfl;have h1:=hm.1;rw[aW h];simp only[tH,start,jJ];refine⟨rfl,?_⟩;lk;refine dX fO (fun a=>.bl ((bV R a.2.2).any fun r=>decide (r<t))) m.2 [] st (fun _ _ _ ha=>by cases ha) (fun a ha aV K y1 hK=>?_) (by simp only[az];omega) fun aF y2=>?_;·have hj:=hm.2 a ha;have hq1:=y1 _ _ hq;simp only[fO];k_ne;rw[CB hq1 hj,yF];have:=hK aV .refl;cases hr:bV R a.2.2 with|none =>rw[hr]at this;k_ne;exact this|some r =>
   rw[hr]at this;k_ne;rw[CB hq1 hj,hr];simp only[rD];k_ne;have e:decide ((r:Int)<(t:Int))=decide (r<t):=by simp
   rw[e];exact this
 rw[av];refine bS (by simp only[ab];omega) fun pp aX y3 hpp mT=>?_;k_ne;rw[aE mT,pI,bB,p8];exact hQ aX (y2.trans y3)
end
noncomputable def gS (gm:List Node)(R:Rk)(k:Nat):Bool:=(bV R k).isNone&&((gm[k]?).map (·.2)).any fun ms=>ms.any fun m=>m.2.all fun a=>(bV R a.2.2).isSome
noncomputable def C3 (gm:List Node)(t:Nat)(R:Rk):Rk:=(ay gm.length).map fun k=>if gS gm R k=true then some t else bV R k
noncomputable def rk (gm:List Node):Nat->Rk|0=>ao gm.length none|t+1=>C3 gm (t+1) (rk gm t)
theorem CM (gm:List Node)(t:Nat)(R:Rk):(C3 gm t R).length=gm.length:=by simp [C3]
theorem jZ (gm:List Node):∀ t,(rk gm t).length=gm.length|0=>by simp [rk]|t+1=>CM _ _ _
theorem mC (gm:List Node)(t:Nat)(R:Rk){k:Nat}(hk:k<gm.length):bV (C3 gm t R) k=if gS gm R k=true then some t else bV R k:=by simp only[bV,C3,bg];rw[yu hk];rfl
theorem nK {R:Rk}{k:Nat}(h:R.length<=k):bV R k=none:=by simp [bV,cu h]
theorem A1 (gm:List Node):∀(t k r:Nat),bV (rk gm t) k=some r->r<=t
 |0,k,r,h=>by
  have:bV (rk gm 0) k=none:=by
   by_cases hk:k<gm.length;·simp [bV,rk,hk]
   ·exact nK (by rw[jZ];omega)
  rw[this]at h;cases h|t+1,k,r,h=>by
  by_cases hk:k<gm.length
  ·rw[rk,mC _ _ _ hk]at h;split at h;·cases h;exact aw _
   ·exact Nat.le_succ_of_le (A1 gm t k r h)
  ·rw[nK (by rw[jZ];omega)]at h;cases h
theorem RG (gm:List Node){t k r:Nat}(h:bV (rk gm t) k=some r):∀ j,bV (rk gm (t+j)) k=some r
 |0=>h|j+1=>by
  have ih:=RG gm h j;have hk:k<gm.length:=by refine nh fun z=>?_;rw[nK (by rw[jZ];exact z)]at ih;cases ih
  show bV (C3 gm _ (rk gm (t+j))) k=_;rw[mC _ _ _ hk,if_neg (by simp [gS,ih]),ih]
theorem W8 {A B:Rk}(hl:A.length=B.length)(h:∀ k,k<A.length->bV A k=bV B k):A=B:=by refine vz hl fun k h1 h2=>?_;have:=h k h1;simpa [bV,h1,h2]using this
theorem ML (gm:List Node){t:Nat}(h:∀ k,k<gm.length->gS gm (rk gm t) k=false):∀ j,rk gm (t+j)=rk gm t|0=>rfl|j+1=>by have ih:=ML gm h j;show C3 gm _ (rk gm (t+j))=_;rw[ih];refine W8 (by rw[CM,jZ]) fun k hk=>?_;rw[CM]at hk;rw[mC _ _ _ hk,if_neg (by rw[h k hk];decide)]
noncomputable def yD (gm:List Node)(R:Rk):Nat:=((ay gm.length).filter fun k=>(bV R k).isSome).length
theorem B8 (gm:List Node)(R:Rk):yD gm R<=gm.length:=by have:=gr (fun k=>(bV R k).isSome) (ay gm.length);simpa [yD]using this
theorem MZ {α:Type}(p q:α->Bool):∀(l:List α),(∀ x∈l,p x=true->q x=true)->∀ x∈l,p x=false->q x=true->(l.filter p).length<(l.filter q).length
 |[],_,x,hx,_,_=>by cases hx|a::l,hpq,x,hx,h1,h2=>by
  have le:(l.filter p).length<=(l.filter q).length:=by
   have hh:∀(m:List α),(∀ x∈m,p x=true->q x=true)->(m.filter p).length<=(m.filter q).length:=by intro m;induction m with|nil=>intro _;exact aw _|cons b m ih =>intro hm;have h3:=ih fun x hx=>hm x (by simp [hx]);cases hb:p b with|true=>simp only[dz,hb,hm b (by simp) hb,if_true,bf];omega|false =>cases hq:q b with|true=>simp [dz,hb,hq];omega|false=>simp [dz,hb,hq];omega
   exact hh l fun x hx=>hpq x (by simp [hx])
  rcases List.mem_cons.mp hx with e|hx';·subst e;simp [dz,h1,h2];omega
  ·have ih:=MZ p q l (fun x hx=>hpq x (by simp [hx])) x hx' h1 h2;cases hb:p a with|true=>simp only[dz,hb,hpq a (by simp) hb,if_true,bf];omega|false =>cases hq:q a with|true=>simp [dz,hb,hq];omega|false=>simp [dz,hb,hq];omega
theorem JH (gm:List Node)(t:Nat){R:Rk}{k:Nat}(hk:k<gm.length)(h:gS gm R k=true):yD gm R<yD gm (C3 gm t R):=by
 refine MZ _ _ _ (fun x hx hp=>?_) k (by simpa using hk) ?_ ?_
 ·rw[mC _ _ _ (by simpa using hx)];split;·rfl
  ·exact hp
 ·simp only[gS,bc]at h;cases hr:bV R k with|none=>rfl|some r=>rw[hr]at h;simp at h
 ·rw[mC _ _ _ hk,if_pos h];rfl
set_option tactic.hygienic true in
theorem V6 (gm:List Node):∀(t k r:Nat),bV (rk gm t) k=some r->∃ n,gm[k]? = some n/\∃ m∈n.2,eJ (rk gm t) r m=true
 |0,k,r,h=>by have:=A1 gm 0 k r h;exact absurd h (by
   have:bV (rk gm 0) k=none:=by
    by_cases hk:k<gm.length;·simp [bV,rk,hk]
    ·exact nK (by rw[jZ];omega)
   rw[this];intro z;cases z)|t+1,k,r,h=>by
  have hk:k<gm.length:=by refine nh fun z=>?_;rw[nK (by rw[jZ];exact z)]at h;cases h
  have up:∀ m:Mv,∀ r',eJ (rk gm t) r' m=true->eJ (rk gm (t+1)) r' m=true:=fun m r' hm=>by simp only[eJ,f6]at hm ⊢;intro a ha;have:=hm a ha;cases hr:bV (rk gm t) a.2.2 with|none=>rw[hr]at this;cases this|some x=>rw[RG gm hr 1];rw[hr]at this;exact this
  rw[rk,mC _ _ _ hk]at h;split at h;·rename_i hn;cases h;simp only[gS,bc]at hn;cases hg:gm[k]? with|none=>rw[hg]at hn;simp at hn|some n =>rw[hg]at hn;simp only[jf,Option.any_some,List.any_eq_true,f6]at hn;obtain⟨_,m,hm,ha⟩:=hn;refine⟨n,rfl,m,hm,up m _ ?_⟩;simp only[eJ,f6];intro a ha';have h1:=ha a ha';cases hr:bV (rk gm t) a.2.2 with|none=>rw[hr]at h1;cases h1|some x=>have:=A1 gm t _ _ hr;simp;omega
  ·obtain⟨n,hn,m,hm,hl⟩:=V6 gm t k r h;exact⟨n,hn,m,hm,up m r hl⟩
theorem UH (gm:List Node)(t:Nat)(m:Mv):eJ (rk gm t) (t+1) m=m.2.all fun a=>(bV (rk gm t) a.2.2).isSome:=by unfold eJ;congr 1;funext a;cases hr:bV (rk gm t) a.2.2 with|none=>rfl|some x=>have:=A1 gm t _ _ hr;simp;omega
noncomputable def zR (il:Nat):Fn:=⟨1,5,[.asg (.nm 1) (.comp 1 [] [0] true none [(.v 0)] [] (.c .non)),.asg (.nm 2) (.c (.int 1)),.whl (.c (.bl true)) [.asg (.nm 3) (.comp 2 [1,2] [0,1] false (some .enum) [(.v 0)] [(.and_ (.cmp .is_ (.ix (.v 2) (.v 0)) (.c .non)) (.bi .any [(.comp 1 [2,3] [0] true none [(.ix (.v 1) (.c (.int 1)))] [] (.call il [(.v 0),(.v 1),(.v 2)]))]))] (.v 0)),.iff (.not_ (.v 3)) [.ret (.v 1)] [],.jA (.nm 4) none [(.v 3)] [.asg (.ix (.v 1) (.v 4)) (.v 2)],.asg (.nm 2) (.bin .add (.v 2) (.c (.int 1)))]]⟩
structure S7 (gm:List Node):Prop where
 ED:gm.length<=1000
 mv:∀ n∈gm,n.2.length<=1000
 an:∀ n∈gm,∀ m∈n.2,xT gm.length m
noncomputable def cR (gm:List Node)(k:Nat):Node:=(gm[k]?).getD ([],[])
theorem BH {gm:List Node}{k:Nat}(h:k<gm.length):gm[k]? = some (cR gm k):=by simp [cR,h]
theorem kX {gm:List Node}{k:Nat}(h:k<gm.length):cR gm k∈gm:=bp (BH h)
theorem DO {gm:List Node}{R:Rk}{k:Nat}(h:k<gm.length):gS gm R k=((bV R k).isNone&&(cR gm k).2.any fun m=>m.2.all fun a=>(bV R a.2.2).isSome):=by simp [gS,BH h]
theorem E6 (f:Node->D):∀(l:List Node)(s:Nat),nH s (l.map f)=(ay l.length).map fun k=>D.tup [.int ((s+k:Nat)),f (cR l k)]|[],s=>rfl|x::l,s=>by rw[bb,nH,E6 f l,bf,iu,bb,md];congr 1;refine nu fun k hk=>?_;simp only[Aaq,cR,gV];rw[show s+1+k=s+k.succ by omega]
noncomputable def found (gm:List Node)(R:Rk):List Nat:=(ay gm.length).filter (gS gm R)
theorem XF (p:Nat->Bool):∀ l:List Nat,(l.filterMap fun k=>if p k=true then some (D.int (k:Nat))else none)=(l.filter p).map fun k=>D.int (k:Nat)|[]=>rfl|a::l=>by rw[fe,dz,XF p l];cases p a<;>rfl
noncomputable def A5 (R:Rk)(t:Nat)(l:List Nat):Rk:=l.foldl (fun R k=>R.set k (some t)) R
theorem DI (R:Rk)(t:Nat)(l:List Nat):(A5 R t l).length=R.length:=by induction l generalizing R with|nil=>rfl|cons a l ih=>show(A5 (R.set a (some t)) t l).length=_;rw[ih,rb]
theorem QZ (t:Nat):∀(l:List Nat)(R:Rk)(k:Nat),k<R.length->bV (A5 R t l) k=if k∈l then some t else bV R k
 |[],R,k,_=>by simp [A5]|a::l,R,k,h=>by
  show bV (A5 (R.set a (some t)) t l) k=_;rw[QZ t l _ k (by rw[rb];exact h)];by_cases h1:k∈l;·rw[if_pos h1,if_pos (by simp [h1])]
  ·rw[if_neg h1];by_cases h2:k=a;·subst h2;simp [bV,h]
   ·rw[if_neg (by simp [h1,h2])];simp only[bV];rw[gy (fj h2)]
theorem SS (gm:List Node)(t:Nat){R:Rk}(hR:R.length=gm.length):A5 R t (found gm R)=C3 gm t R:=by
 refine W8 (by rw[DI,CM,hR]) fun k hk=>?_;rw[DI,hR]at hk;rw[QZ _ _ _ _ (by omega),mC _ _ _ hk];by_cases h:gS gm R k=true;·rw[if_pos h,if_pos (by simp [found,hk,h])]
 ·rw[if_neg h,if_neg (by simp [found,h])]
theorem TH (R:Rk)(k t:Nat):(R.map rD).set k (.int (t:Nat))=(R.set k (some t)).map rD:=by rw[List.map_set];rfl
theorem Gc {n k:Nat}(h:k<n):oB n (k:Int)=some k:=by unfold oB;rw[if_pos (by omega),if_pos (by omega)];simp
section
variable {G:Prog}{k i il p:Nat}{st:aB}{Q:VK}{E:XK}{gm:List Node}
theorem NB (h:G.fns i=some (zR il))(hl:G.fns il=some tH)(hp:st p=some (.lst (gm.map fQ)))(hg:S7 gm)(hQ:∀ q aA,st q=none->Ext st aA->aA q=some (.lst ((rk gm gm.length).map rD))->Q (.ref q) aA):aH G (k+2) i [.ref p] st Q E:=by
 have hL:bE=16777216:=rfl;have g1:=hg.ED;rw[aW h];simp only[zR,start];refine⟨rfl,?_⟩;lk;rw[aE hp];refine dX fQ (fun _=>D.non) gm [] st (fun aV y a ha=>?_) (fun a ha aV K y1 hK=>?_) (by simp only[az];omega) fun aF y2=>?_;·simp only[ah]at ha;subst ha;rw[hp,y _ _ hp]
 ·k_ne;exact hK aV .refl
 rw[av];refine bS (by simp only[ab];omega) fun q aX y3 hq hq3=>?_;have e0:(gm.map fun _=>D.non)=(rk gm 0).map rD:=by simp only[rk,zm,rD];exact List.map_const' ..
 rw[e0]at hq3;k_ne;lk;have y23:=y2.trans y3;have hp3:=y23 _ _ hp;have hq0:st q=none:=lU y2 hq;have pq:p≠q:=fun z=>by rw[<-z,hp]at hq0;cases hq0
 refine fT ?_;refine yO (kJ G (aw _)) (I:=fun mm σ aA=>∃ t o3 o4,mm+t=gm.length/\t<=yD gm (rk gm t)/\σ=[some (.ref p),some (.ref q),some (.int ((t+1:Nat))),o3,o4]/\Ext st aA/\aA q=some (.lst ((rk gm t).map rD))) ?_ (m:=gm.length) ⟨0,none,none,rfl,dt _,rfl,y23,hq3⟩;rintro mm σ cG ⟨t,o3,o4,e1,e2,e3,x4,q4⟩;subst e3;have p4:=x4 _ _ hp;have hRl:=jZ gm t;k_ne;lk;rw[ZF,aE p4,E6];refine lX (fun k:Nat=>D.tup [.int ((0+k:Nat)),fQ (cR gm k)]) (fun k=>if gS gm (rk gm t) k=true then some (D.int (k:Nat))else none) (ay gm.length) [] cG (fun aV y a ha=>?_) (fun j hj aV K y1 hK=>?_) (by simp only[az,dm];omega) fun cW y5=>?_;·simp only[ah]at ha;subst ha;rw[p4,y _ _ p4]
 ·have hj':j<gm.length:=by simpa using hj
  have q5:=y1 _ _ q4;simp only[fQ,si];k_ne;rw[CB q5 (by omega),yF];have hk:=hK aV .refl;rw[DO hj']at hk;rw[DO hj']at hK;cases hr:bV (rk gm t) j with|some r =>rw[hr]at hk;k_ne;simpa using hk|none =>
   rw[hr]at hK;k_ne;have hn:=kX hj';have hmv:=hg.mv _ hn;refine dX jJ (fun m=>.bl (eJ (rk gm t) (t+1) m)) (cR gm j).2 [] aV (fun _ _ _ ha=>by cases ha) (fun m hm fM K' y6 hK'=>?_) (by simp only[az];omega) fun kF y7=>?_;·k_ne;exact M6 hl (y6 _ _ q5) (by rw[hRl];exact hg.an _ hn m hm) fun eB y8=>hK' eB y8
   rw[av];refine bS (by simp only[ab];omega) fun u eB y8 hu hu8=>?_;k_ne;rw[aE hu8,pI,bB,ku];k_ne;have:=hK eB (y7.trans y8);simp only[UH,mq,id,ub,jm]at this ⊢;cases hv:((cR gm j).2.any fun m=>m.2.all fun a=>(bV (rk gm t) a.2.2).isSome)with|true=>rw[hv]at this;simpa using this|false=>rw[hv]at this;simpa using this
 rw[av,XF];refine bS (by simp only[ab];have:=gr (gS gm (rk gm t)) (ay gm.length);simp only[dm]at this;omega) fun f fM y6 hf hf6=>?_;k_ne;lk;rw[QT,eI hf6];have q6:=y6 _ _ (y5 _ _ q4);have x6:=x4.trans (y5.trans y6);have fq:f≠q:=fun z=>by rw[z,y5 _ _ q4]at hf;cases hf
 have hf0:(ay gm.length).filter (gS gm (rk gm t))=found gm (rk gm t):=rfl;rw[hf0]at hf6 ⊢;cases hz:found gm (rk gm t)with|nil =>
  k_ne;simp only[v5,e8,iq,if_true];lk;have hnew:∀ k,k<gm.length->gS gm (rk gm t) k=false:=fun k hk=>by cases hn:gS gm (rk gm t) k with|false=>rfl|true =>
    have:k∈found gm (rk gm t):=by simp [found,hk,hn]
    rw[hz]at this;cases this
  have:=ML gm hnew (gm.length-t);have hc:=B8 gm (rk gm t);rw[show t+(gm.length-t)=gm.length by omega]at this;exact hQ q fM hq0 x6 (by rw[this];exact q6)|cons c r =>
  rw[<-hz];k_ne;have hne:((found gm (rk gm t)).map fun k=>D.int (k:Nat)).isEmpty=false:=by rw[hz];rfl
  rw[hne];simp only[iq,e8,ak,if_false,aI];lk;rw[aE hf6];have hin:∀ k∈found gm (rk gm t),k<gm.length:=fun k hk=>by have:=(List.mem_filter.mp hk).1;simpa using this
  refine hJ (fun k:Nat=>D.int (k:Nat)) (I:=fun rest σ aA=>∃ dn o4,found gm (rk gm t)=dn++rest/\σ=[some (.ref p),some (.ref q),some (.int ((t+1:Nat))),some (.ref f),o4]/\bL [q] fM aA/\aA q=some (.lst ((A5 (rk gm t) (t+1) dn).map rD))) (fun rest σ aA h=>?_) (fun x rest σ aA M h hM=>?_) (fun σ aA h=>?_) _ _ _ ⟨[],o4,rfl,rfl,.refl,q6⟩;·obtain⟨dn,o4,e4,e5,k7,q7⟩:=h;intro a ha;simp only[ah]at ha;subst ha;rw[hf6,k7 _ _ (by simp [fq]) hf6]
  ·obtain⟨dn,o4,e4,e5,k7,q7⟩:=h;subst e5;have hx:x<gm.length:=hin x (by rw[e4];simp);lk;rw[aE q7,Gc (by rw[ab,DI,hRl];exact hx),bB,TH];simp only[aI];refine hM _ _ ⟨dn++[x],_,by simp [e4],rfl,k7.trans (bL.put (by simp)),?_⟩;rw[aN];simp [A5]
  ·obtain⟨dn,o4,e4,e5,k7,q7⟩:=h;subst e5;rw[d5]at e4;rw[<-e4,SS gm _ hRl]at q7;lk;simp only[aI];have hc:=B8 gm (rk gm t);have hcf:c∈found gm (rk gm t):=by rw[hz];simp
   have hcm:yD gm (rk gm t)<yD gm (rk gm (t+1)):=JH gm (t+1) (k:=c) (hin c hcf) (List.mem_filter.mp hcf).2;have hc2:=B8 gm (rk gm (t+1));refine⟨mm-1,by omega,t+1,_,_,by omega,by omega,rfl,?_,q7⟩;exact xA x6 k7 (fun a ha=>by simp only[ah]at ha;rw[ha];exact hq0)
end
theorem Bz {st:aB}{p:Nat}{gm:List Node}{Q:VK}(hp:st p=some (.lst (gm.map fQ))){j:Nat}(hj:j<gm.length):mY (.ref p) (.int (j:Nat)) st Q=Q (fQ (cR gm j)) st:=by rw[dN hp,dG (by simpa using hj),bg,BH hj];rfl
theorem RA (R:Rk):∀ l:List jY,(l.filterMap fun a=>if(bV R a.2.2).isNone=true then some (fO a)else none)=(l.filter fun a=>(bV R a.2.2).isNone).map fO|[]=>rfl|a::l=>by rw[fe,dz,RA R l];cases (bV R a.2.2).isNone<;>rfl
theorem tT {st:aB}{p n:Nat}{ds:List D}(h:st p=some (.lst ds))(hp:cD ds=true/\cX ds<=n)(hn:n<=iC):plainS st (.ref p):=by refine⟨?_,dt _⟩;simp only[iB,h,Be,hp.1,jm,decide_eq_true_eq];exact dg hp.2 hn
theorem eq_empty {st:aB}{p u:Nat}{ds:List D}(h:st p=some (.lst ds))(hu:st u=some (.lst [])):bW st (.ref p) (.ref u)=ds.isEmpty:=by simp only[bW,h,hu,J8];cases ds<;>rfl
noncomputable def GW (iga ilt:Nat):Fn:=⟨1,1,[.ret (.call ilt [(.call iga [(.v 0)])])]⟩
noncomputable def M7 (il:Nat):Fn:=⟨3,3,[.iff (.cmp .is_ (.v 2) (.c .non)) [.ret (.c .non)] [],.ret (.ix (.comp 1 [1,2] [0] true none [(.v 0)] [(.call il [(.v 0),(.v 1),(.v 2)])] (.ix (.v 0) (.c (.int 0)))) (.c (.int 0)))]⟩
noncomputable def RW (iga ilt ibm:Nat):Fn:=⟨1,3,[.asg (.nm 1) (.call iga [(.v 0)]),.asg (.nm 2) (.call ilt [(.v 1)]),.ret (.comp 2 [2] [0,1] false (some .zip) [(.v 1),(.v 2)] [] (.call ibm [(.ix (.v 0) (.c (.int 1))),(.v 2),(.v 1)]))]⟩
theorem xT.more {n n':Nat}{m:Mv}(h:xT n m)(hn:n<=n'):xT n' m:=⟨h.1,fun a ha=>bz (h.2 a ha) hn⟩
theorem UT {b:Bk}{m aZ:List Bool}:∀(l:List (List Bool))(x:List jY×List (List Bool)),(∀ a∈x.1,a.2.2<x.2.length)->∀ a∈(l.foldl (cB b m aZ) x).1,a.2.2<(l.foldl (cB b m aZ) x).2.length
 |[],_,h=>h|fr::l,x,h=>by
  refine UT l (cB b m aZ x fr) ?_;unfold cB;split
  ·intro a ha;rcases List.mem_append.mp ha with ha|ha;·exact bz (h a ha) (II _ _)
   ·simp only[ah]at ha;subst ha;exact j7 (xK _ _)
  ·exact h
theorem Q9 {b:Bk}{m aZ:List Bool}:∀(l:List (List Bool))(x:List jY×List (List Bool)),(l.foldl (cB b m aZ) x).1.length<=x.1.length+l.length
 |[],_=>aw _|fr::l,x=>by
  have ih:=Q9 (b:=b) (m:=m) (aZ:=aZ) l (cB b m aZ x fr);have h1:(cB b m aZ x fr).1.length<=x.1.length+1:=by
   unfold cB;split;·simp
   ·exact ur _
  simp only[jd,bf];omega
theorem Q1 {b:Bk}{m:List Bool}:∀(l:List (List Bool))(x:List Mv×List (List Bool)),(l.foldl (cI b m) x).1.length<=x.1.length+l.length
 |[],_=>aw _|fr::l,x=>by
  have ih:=Q1 (b:=b) (m:=m) l (cI b m x fr);have h1:(cI b m x fr).1.length=x.1.length+1:=by simp [cI]
  simp only[jd,bf];omega
theorem WB {b:Bk}(g2:b.gs.length<=2){m:List Bool}:∀(l:List (List Bool))(x:List Mv×List (List Bool)),(∀ v∈x.1,xT x.2.length v)->∀ v∈(l.foldl (cI b m) x).1,xT (l.foldl (cI b m) x).2.length v
 |[],_,h=>h|aZ::l,x,h=>by
  refine WB g2 l (cI b m x aZ) fun v hv=>?_;simp only[cI]at hv ⊢;rcases List.mem_append.mp hv with hv|hv;·exact(h v hv).more (DV _ ([],x.2))
  ·simp only[ah]at hv;subst hv;refine⟨?_,UT _ _ (by simp)⟩;have h1:=Q9 (b:=b) (m:=m) (aZ:=aZ) (cK b.gs.length) ([],x.2);have h2:=HB (t:=b.gs.length) (by omega);simp only[az]at h1;show(gW b m aZ x.2).1.length<=1000;unfold gW;omega
theorem KJ {b:Bk}(B:b.Ok):∀ j,∀ n∈(aU b j).2,n.2.length<=1000/\∀ v∈n.2,xT (aU b j).1.length v
 |0=>by intro n hn;cases hn|j+1=>by
  have ih:=KJ B j;simp only[aU,oG];split
  ·intro n hn;rcases List.mem_append.mp hn with hn|hn;·exact⟨(ih n hn).1,fun v hv=>((ih n hn).2 v hv).more (EK _)⟩
   ·simp only[ah]at hn;subst hn;refine⟨?_,WB B.g2 _ _ (by simp)⟩;generalize ((aU b j).1[(aU b j).2.length]?).getD []=m;have h1:=Q1 (b:=b) (m:=m) (lO b m) ([],(aU b j).1);have h2:=gr (fun aZ=>bK b.ps (b.vm m (aZ++ao b.gs.length false))) (cK b.fs.length);have h3:=HB (t:=b.fs.length) (by have:=B.f2;omega);simp only[az]at h1;show(jH b m (aU b j).1).1.length<=1000;unfold jH;have h4:(lO b m).length<=(cK b.fs.length).length:=h2;omega
  ·exact ih
theorem Ep {b:Bk}(B:b.Ok)(gT:b.aK.length<=4):S7 (kP b):=by
 have h1:=(uD b 17).ED gT;have h2:=qT b gT 17;have h3:=uZ b gT 17;have h4:=KJ B 17;have e:(aU b 17).2.length=(aU b 17).1.length:=by omega
 refine⟨by unfold kP;omega,fun n hn=>(h4 n hn).1,fun n hn v hv=>?_⟩;have:=(h4 n hn).2 v hv;rw[<-e]at this;exact this
noncomputable def A8 (R:Rk)(ms:List Mv):Option Nat->D|none=>.non|some r=>((ms.filter (eJ R r)).head?.map fun m=>aY m.1).getD .non
theorem XH (p:Mv->Bool):∀ l:List Mv,(l.filterMap fun m=>if p m=true then some (aY m.1)else none)=(l.filter p).map fun m=>aY m.1|[]=>rfl|a::l=>by rw[fe,dz,XH p l];cases p a<;>rfl
theorem Z1 {R:Rk}{ms:List Mv}{r:Nat}(h:∃ m∈ms,eJ R r m=true):∃ x l,(ms.filter (eJ R r)).map (fun m=>aY m.1)=x::l/\A8 R ms (some r)=x:=by obtain⟨m,hm,hl⟩:=h;have hin:m∈ms.filter (eJ R r):=List.mem_filter.mpr ⟨hm,hl⟩;cases hf:ms.filter (eJ R r)with|nil=>rw[hf]at hin;cases hin|cons a l=>exact⟨aY a.1,l.map fun m=>aY m.1,rfl,by simp [A8,hf]⟩
section
variable {G:Prog}{k i il q:Nat}{st:aB}{Q:VK}{E:XK}{R:Rk}
theorem Ng (h:G.fns i=some (M7 il))(hl:G.fns il=some tH){ms:List Mv}(hq:st q=some (.lst (R.map rD)))(hm:∀ m∈ms,xT R.length m)(hms:ms.length<=1000){o:Option Nat}(ho:∀ r,o=some r->∃ m∈ms,eJ R r m=true)(hQ:∀ aA,Ext st aA->Q (A8 R ms o) aA):aH G (k+2) i [.tup (ms.map jJ),.ref q,rD o] st Q E:=by have hL:bE=16777216:=rfl;rw[aW h];simp only[M7,start];refine⟨rfl,?_⟩;cases o with|none =>simp only[rD];lk;simp only[yC,if_true];lk;exact hQ st .refl|some r =>
 simp only[rD];lk;simp only[yC,ak,if_false,aI];lk;refine lX jJ (fun m=>if eJ R r m=true then some (aY m.1)else none) ms [] st (fun _ _ _ ha=>by cases ha) (fun m hmm aF K y2 hK=>?_) (by simp only[az];omega) fun aF y2=>?_;·k_ne;refine M6 (k:=k) hl (y2 _ _ hq) (hm m hmm) fun aX y3=>?_;k_ne;have:=hK aX y3;cases hv:eJ R r m with|true =>rw[hv]at this;simp only[if_true,jJ]at this ⊢;k_ne;exact this|false=>rw[hv]at this;simpa using this
 rw[av,XH];obtain⟨x,l,e1,e2⟩:=Z1 (ho r rfl);refine bS (by have:=gr (eJ R r) ms;simp only[ab];omega) fun u aX y3 hu hu3=>?_;k_ne;rw[dN hu3,e1,DL,bB,<-e2];exact hQ aX (y2.trans y3)
end
theorem JC:∀(gm:List Node)(R:Rk),R.length=gm.length->zip2 (gm.map fQ) (R.map rD)=(ay gm.length).map fun k=>D.tup [fQ (cR gm k),rD (bV R k)]
 |[],R,h=>by cases R with|nil=>rfl|cons _ _=>cases h
 |n::gm,R,h=>by cases R with|nil=>cases h|cons r R =>simp only[bb,zip2];rw[JC gm R (by simpa using h),bf,iu,bb,md];rfl
noncomputable def HV (gm:List Node):List D:=(ay gm.length).map fun k=>A8 (rk gm gm.length) (cR gm k).2 (bV (rk gm gm.length) k)
theorem UN (gm:List Node){k r:Nat}(h:bV (rk gm gm.length) k=some r):∃ m∈(cR gm k).2,eJ (rk gm gm.length) r m=true:=by obtain⟨n,e,m,hm,hl⟩:=V6 gm _ _ _ h;refine⟨m,?_,hl⟩;simp only[cR,e];exact hm
section
variable {G:Prog}{k i il ilt ibm p:Nat}{st:aB}{Q:VK}{E:XK}{gm:List Node}
theorem WE (cN:G.fns ilt=some (zR il))(hl:G.fns il=some tH)(hbm:G.fns ibm=some (M7 il))(hp:st p=some (.lst (gm.map fQ)))(hg:S7 gm){b:D}{P:gN}(hQ:∀ q aA,st q=none->Ext st aA->aA q=some (.lst (HV gm))->P.rt (.ref q) aA): dD (aH G (k+2)) G.sub [.asg (.nm 2) (.call ilt [(.v 1)]),.ret (.comp 2 [2] [0,1] false (some .zip) [(.v 1),(.v 2)] [] (.call ibm [(.ix (.v 0) (.c (.int 1))),(.v 2),(.v 1)]))] P [some b,some (.ref p),none] st:=by
 have hL:bE=16777216:=rfl;have g1:=hg.ED;lk;refine NB (k:=k) cN hl hp hg fun q aF hq x2 hq2=>?_;k_ne;have p2:=x2 _ _ hp;have hRl:=jZ gm gm.length;lk;rw[Dx,aE p2,aE hq2,JC _ _ hRl];refine dX (fun j:Nat=>D.tup [fQ (cR gm j),rD (bV (rk gm gm.length) j)]) (fun j=>A8 (rk gm gm.length) (cR gm j).2 (bV (rk gm gm.length) j)) (ay gm.length) [] aF (fun aV y a ha=>?_) (fun j hj aX K y3 hK=>?_) (by simp only[az,dm];omega) fun aX y3=>?_
 ·simp only[bw,bj,or_false]at ha;rcases ha with ha|ha;·subst ha;rw[p2,y _ _ p2]
  ·subst ha;rw[hq2,y _ _ hq2]
 ·have hj':j<gm.length:=by simpa using hj
  have hn:=kX hj';simp only[fQ];k_ne;refine Ng (k:=k) hbm hl (y3 _ _ hq2) (by rw[hRl];exact hg.an _ hn) (hg.mv _ hn) (fun r hr=>UN gm hr) fun cG y4=>hK cG y4
 rw[av];refine bS (by simp only[ab,dm];omega) fun u cG y4 hu hu4=>?_;exact hQ u cG (lU (x2.trans y3) hu) (x2.trans (y3.trans y4)) hu4
end
noncomputable def EX (fY ima:Nat):Fn:=⟨3,7,[.asg (.nm 3) (.lst []),.asg (.nm 4) (.fld (W "Table") (W "first_memory") (.v 0)),.jA (.nm 5) none [(.v 1)] [.asg (.nm 6) (.mcl (W "Table") (W "held_at") fY (.v 0) [(.v 4),(.v 5)]),.ex (.cM .append (.v 3) [(.cv 2 [(.v 6)])]),.asg (.nm 4) (.mcl (W "Table") (W "memory_after") ima (.v 0) [(.v 6)])],.ret (.v 3)]⟩
theorem YN {st aA:aB}{a:Nat}(x:Ext st aA):Ext (del st a) (del aA a):=fun b o e=>by
 by_cases z:b=a;·rw[z]at e;unfold del at e;rw[if_pos rfl]at e;cases e
 ·rw[wA z]at e ⊢;exact x _ _ e
theorem Dv {st aA:aB}{a:Nat}{o:MO}(h:st a=some o)(x:Ext (del st a) aA):Ext st (put aA a o):=fun b o' e=>by
 by_cases z:b=a;·subst z;rw[h]at e;cases e;exact aN
 ·rw[aM z];exact x _ _ (by rw[wA z];exact e)
theorem Y2 {st aA:aB}{a:Nat}{o:MO}(h:st a=none)(x:Ext (del (put st a o) a) aA):Ext st aA:=fun b o' e=>by
 have ne:b≠a:=fun z=>by rw[z,h]at e;cases e
 exact x _ _ (by rw[wA ne,aM ne];exact e)
section
variable {G:Prog}{k i ima fY iph inh p l f:Nat}{st:aB}{Q:VK}{E:XK}{names:List (List Nat)}{aK R:List Sy}{bD:List (List Bool)}{cs:List D}{cl:Nat}
theorem Gy (h:G.fns i=some (EX fY ima))(hma:G.fns ima=some xR)(hha:G.fns fY=some (rT iph inh))(hn:G.fns inh=some sH)(hpa:G.fns iph=some oV)(T0:Table st p names aK R)(gT:aK.length<=5000)(hl:st l=some (.lst (bD.map aY)))(hp:∀ bs∈bD,bs.length=names.length)(dO:bD.length<=1000)(hc:st cl=some (.fn f cs))(F:Nat->D)(hf:∀(t q:Nat)(aA:aB)(K:VK)(E':XK),t<bD.length->Ext (del st cl) aA->aA q=some (.lst (R.map fun s=>.bl (hv names bD s t)))->(∀ aV,Ext aA aV->K (F t) aV)->aH G (k+2) f (cs++[.ref q]) aA K E')(hQ:∀ u aA,st u=none->Ext st aA->aA u=some (.lst ((ay bD.length).map F))->Q (.ref u) aA):aH G (k+3) i [.ref p,.ref l,.ref cl] st Q E:=by
 have hL:bE=16777216:=rfl;obtain⟨lp,lr,ld,lm,js,T,hlm,hjl,hjs,hpast⟩:=T0.h;rw[aW h];simp only[EX,start];refine⟨rfl,?_⟩;lk;refine bS (by simp) fun u aC x1 hu hu1=>?_;k_ne;lk;rw[dB (T.keep x1).ins (x:=.tup (aK.map fun s=>.bl (eY s))) (by rw[iI (by decide +kernel) (by decide +kernel) (by decide +kernel) (by decide +kernel)];simp only[GF,bY];rw[if_pos cy])];k_ne;have l1:=x1 _ _ hl;lk;rw[aE l1];have lu:l≠u:=fun z=>by rw[<-z,hl]at hu;cases hu
 refine hJ aY (I:=fun rest σ aA=>∃ t o5 o6,t<=bD.length/\rest=bD.drop t/\σ=[some (.ref p),some (.ref l),some (.ref cl),some (.ref u),some (.tup (aK.map fun s=>.bl (iQ names bD t s))),o5,o6]/\Ext st aA/\aA u=some (.lst ((ay t).map F))) (fun rest σ aA h=>?_) (fun x rest σ aA M h hM=>?_) (fun σ aA h=>?_) _ _ _ ⟨0,none,none,dt _,rfl,by simp [iQ],x1,hu1⟩;·obtain⟨t,o5,o6,e0,e1,e2,x4,u4⟩:=h;intro a ha;simp only[ah]at ha;subst ha;rw[l1,x4 _ _ hl]
 ·obtain⟨t,o5,o6,e0,e1,e2,x4,u4⟩:=h;subst e2;have ht':t<bD.length:=by
   by_cases z:t<bD.length;·exact z
   ·rw[gj (by omega)]at e1;cases e1
  rw[cj ht']at e1;injection e1 with e3 e4;have hx:bD[t]? = some x:=by rw[ai ht',e3]
  have hxl:x.length=names.length:=hp x (bp hx);have T4:=T.keep x4;lk;rw[iM T4.ins (by rw[iI (by decide +kernel) (by decide +kernel) (by decide +kernel) (by decide +kernel)];simp only[GF,bY];rw[if_neg (by decide +kernel),if_neg (by decide +kernel)])];refine⟨True.intro,?_⟩;have em:(aK.map fun s=>D.bl (iQ names bD t s))=(aK.map fun s=>iQ names bD t s).map .bl:=by rw[md];rfl
  rw[em];refine RN (k:=k) hha hn hpa T4 (set:=x) (fun s=>hv names bD s t) (fun n hn'=>?_) (fun s iA hps=>⟨iQ names bD t s,?_,QW hps t⟩) (fun s h1 h2=>V9 h1 h2 t) fun cW q hq0 x5 hq=>?_
  ·have cN:names.idxOf n<x.length:=by rw[hxl];exact List.idxOf_lt_length_iff.mpr hn'
   simp only[hv,K8,hx,lh];rw[ai cN];rfl
  ·have cN:=List.idxOf_lt_length_iff.mpr iA;rw[bg,ai cN];simp
  k_ne;have u5:=x5 _ _ u4;lk;rw[aE u5];refine⟨True.intro,?_⟩;rw[Bo (x5 _ _ (x4 _ _ hc)),Bo (x5 _ _ (x4 _ _ hc))];refine⟨True.intro,?_⟩;have x45:=x4.trans x5;have qc:q≠cl:=fun z=>by rw[z,x4 _ _ hc]at hq0;cases hq0
  refine hf t q _ _ _ ht' (YN x45) (by rw[wA qc];exact hq) fun st6' x6'=>?_;have x6:=Dv (x45 _ _ hc) x6';generalize put st6' cl (.fn f cs)=fM at x6;k_ne;have u6:=x6 _ _ u5;rw[aE u6];refine⟨by simp only[ab,dm];omega,?_⟩;have qu:q≠u:=fun z=>by rw[z,u4]at hq0;cases hq0
  generalize hst7:put fM u (.lst ((ay t).map F++[F t]))=kF;have x7:Ext st kF:=fun a o e=>by
   have au:a≠u:=fun z=>by rw[z,hu]at e;cases e
   rw[<-hst7,aM au];exact x6 _ _ (x5 _ _ (x4 _ _ e))
  have u7:kF u=some (.lst ((ay t).map F++[F t])):=by rw[<-hst7,aN]
  have q7:kF q=some (.lst (R.map fun s=>.bl (hv names bD s t))):=by rw[<-hst7,aM qu];exact x6 _ _ hq
  have T7:=T.keep x7;lk;rw[iM T7.ins (by rw[iI (by decide +kernel) (by decide +kernel) (by decide +kernel) (by decide +kernel)];simp only[GF,bY];rw[if_neg (by decide +kernel),if_neg (by decide +kernel)])];refine⟨True.intro,?_⟩;refine VF (k:=k+1) (aK:=aK) hma T7.ins (lm:=lm) (by rw[iI (by decide +kernel) (by decide +kernel) (by decide +kernel) (by decide +kernel)];simp only[GF,bY];rw[if_neg (by decide +kernel),if_pos cy]) (x7 _ _ hlm) q7 hjl gT hjs fun eB x8=>?_;k_ne;simp only[aI];refine hM _ eB ⟨t+1,some (aY x),some (.ref q),ht',e4,?_,x7.trans x8,?_⟩;·simp [iQ]
  ·rw[x8 _ _ u7,ki,dw];rfl
 ·obtain⟨t,o5,o6,e0,e1,e2,x4,u4⟩:=h;subst e2;have hj:bD.length<=t:=by
   by_cases z:t<bD.length;·rw[cj z]at e1;cases e1
   ·omega
  have et:t=bD.length:=by omega
  subst et;lk;exact hQ u _ hu x4 u4
end
theorem Es {st aF:aB}{a:Nat}{o:MO}(ha:st a=none)(x:Ext (put st a o) aF):Ext st (del aF a):=fun b o' e=>by
 have ne:b≠a:=fun z=>by rw[z,ha]at e;cases e
 rw[wA ne];exact x _ _ (sC ha e)
theorem Dp {st aF:aB}{a u:Nat}{o o':MO}(hu:put st a o u=none)(h:aF u=some o'):del aF a u=some o':=by
 have ne:u≠a:=fun z=>by rw[z,aN]at hu;cases hu
 rw[wA ne];exact h
noncomputable def LG (ifk imk:Nat):Fn:=⟨2,2,[.ret (.tup [(.mcl (W "Rules") (W "foe_keeps") ifk (.v 0) [(.v 1)]),(.mcl (W "Rules") (W "friend_keeps") imk (.v 0) [(.v 1)])])]⟩
noncomputable def AD:Fn:=⟨1,1,[.iff (.cmp .in_ (.c (.bl false)) (.v 0)) [.ret (.cM .index (.v 0) [(.c (.bl false))])] [],.ret (.c .non)]⟩
noncomputable def CH (ich icp iri itd ibl ift:Nat)(κ:CK):Fn:=⟨2,4,[.ex (.call ich [(.v 0)]),.ex (.call icp [(.v 0),(.v 1)]),.asg (.nm 2) (.mk (W "Rules") iri [(.v 0)]),.asg (.nm 3) (.callL itd [(.fld (W "Rules") (W "table") (.v 2)),(.v 1)] ibl [2] κ),.ret (.tup [(.call ift [(.comp 1 [] [0] true none [(.v 3)] [] (.ix (.v 0) (.c (.int 0))))]),(.call ift [(.comp 1 [] [0] true none [(.v 3)] [] (.ix (.v 0) (.c (.int 1))))])])]⟩
noncomputable def lZ (bs:List Bool):D:=if bs.contains false then .int (bs.idxOf false:Nat)else .non
theorem Q0 {st:aB}(a b:Bool):bW st (.bl a) (.bl b)=(a==b):=by simp only[bW]
theorem any_false {st:aB}:∀ bs:List Bool,((bs.map D.bl).any fun d=>bW st d (.bl false))=bs.contains false|[]=>rfl|a::l=>by rw[bb,kx,any_false l,Q0,om];cases a<;>rfl
theorem ER {st:aB}:∀ bs:List Bool,bs.contains false=true->findD st (.bl false) (bs.map D.bl)=some (bs.idxOf false)|[],h=>by cases h|a::l,h=>by simp only[bb,findD,Q0];cases a with|false=>rfl|true =>rw[if_neg (by decide),ER l (by simpa using h),j3];rfl
theorem IZ {st:aB}(bs:List Bool):eF st (bs.map D.bl):=by have h:=pO bs;have h2:=BU bs;simp only[aY,bQ]at h;simp only[aY,cT]at h2;exact⟨qF _ h,by have:iC=80:=rfl;omega⟩
section
variable {G:Prog}{k i ich icp iri itd ill ibl ift ibk ist iti iz ie irr iw ipo io ima fY iph inh ilo ifk imk:Nat}{st:aB}{Q:VK}{E:XK}{b:Bk}{κ:CK}
theorem L5 (h:G.fns i=some AD){l:Nat}{bs:List Bool}(hl:st l=some (.lst (bs.map .bl)))(hQ:Q (lZ bs) st):aH G (k+1) i [.ref l] st Q E:=by rw[aW h];simp only[AD,start];refine⟨rfl,?_⟩;lk;show eQ st l _ _;rw[eI hl];refine⟨A6,IZ bs,?_⟩;rw[any_false];unfold lZ at hQ;cases hc:bs.contains false with|false =>rw[hc]at hQ;k_ne;simp only[ak,if_false,aI];lk;simpa using hQ|true =>rw[hc]at hQ;k_ne;(try simp only[if_true]);lk;show eR (.ref l) st (fun _ _=>True)/\_;refine⟨by rw[wR,aE hl];trivial,?_⟩;show eR (.ref l) st (fun _ ds=>plainS st (.bl false)/\eF st ds/\dJ (findD st (.bl false) ds) fun i=>Q (.int (i:Nat)) st);rw[wR,aE hl];refine⟨A6,IZ bs,?_⟩;rw[ER bs hc,bB];simpa using hQ
theorem RY (hch:G.fns ich=some (nJ ibk))(hb:GA G ibk 13 b)(hcp:G.fns icp=some (sA ist))(eV:G.fns ist=some nL)(hri:G.fns iri=some (sW iti io))(ht:G.fns iti=some (lY iz ie irr))(hz:G.fns iz=some (jF iw))(he:G.fns ie=some (oK ie iw ipo))(hw:G.fns iw=some gE)(hpo:G.fns ipo=some pD)(hrr:G.fns irr=some xY)(hio:G.fns io=some oJ)(B:b.Ok)(hs:fW b.says<=5000)(gT:(cZ b.says []).length<=5000){l:Nat}{bD:List (List Bool)}(hl:st l=some (.lst (bD.map aY)))(hp:∀ bs∈bD,bs.length=b.names.length)(dO:bD.length<=1000){ss:List Sx}{P:gN}{os:St}(hN:∀ r aA p l1 l2 l3 R,Ext st aA->iJ aA r p l1 l2 l3 b R->dD (aH G (k+14)) G.sub ss P (some b.d::some (.ref l)::some (.ref r)::os) aA):dD (aH G (k+14)) G.sub (.ex (.call ich [.v 0])::.ex (.call icp [.v 0,.v 1])::.asg (.nm 2) (.mk (W "Rules") iri [.v 0])::ss) P (some b.d::some (.ref l)::none::os) st:=by lk;refine EJ (k:=k) hch hb fun aC x1=>?_;lk;refine SX (k:=k+12) hcp eV B (x1 _ _ hl) hp dO fun aF x2=>?_;lk;intro r hr;refine MH (k:=k+1) hri ht hz he hw hpo hrr hio B hs gT aN fun aX p l1 l2 l3 R k3 T3=>⟨rfl,?_⟩;have x3:Ext aF aX:=fun a o e=>k3 a o (by intro z;simp only[ah]at z;rw[z,hr]at e;cases e) (sC hr e);exact hN r aX p l1 l2 l3 R (x1.trans (x2.trans x3)) T3
theorem WO (h:G.fns i=some (CH ich icp iri itd ibl ift κ))(hcod:∃ P,st P=some (.cod κ))(hch:G.fns ich=some (nJ ibk))(hb:GA G ibk 13 b)(hcp:G.fns icp=some (sA ist))(eV:G.fns ist=some nL)(hri:G.fns iri=some (sW iti io))(ht:G.fns iti=some (lY iz ie irr))(hz:G.fns iz=some (jF iw))(he:G.fns ie=some (oK ie iw ipo))(hw:G.fns iw=some gE)(hpo:G.fns ipo=some pD)(hrr:G.fns irr=some xY)(hio:G.fns io=some oJ)(hma:G.fns ima=some xR)(hha:G.fns fY=some (rT iph inh))(hn:G.fns inh=some sH)(hpa:G.fns iph=some oV)(htd:G.fns itd=some (EX fY ima))(hbl:G.fns ibl=some (LG ifk imk))(hfk:G.fns ifk=some B2)(hmk:G.fns imk=some CG)(hft:G.fns ift=some AD)(B:b.Ok)(hs:fW b.says<=5000)(gT:(cZ b.says []).length<=5000){l:Nat}{bD:List (List Bool)}(hl:st l=some (.lst (bD.map aY)))(hp:∀ bs∈bD,bs.length=b.names.length)(dO:bD.length<=1000)(hQ:∀ aA,Ext st aA->Q (.tup [lZ ((ay bD.length).map fun t=>bK b.ps fun s=>hv b.names bD s t),lZ ((ay bD.length).map fun t=>bK b.ms fun s=>hv b.names bD s t)]) aA):aH G (k+15) i [b.d,.ref l] st Q E:=by
 have hL:bE=16777216:=rfl;rw[aW h];simp only[CH,start];refine⟨rfl,?_⟩;refine RY hch hb hcp eV hri ht hz he hw hpo hrr hio B hs gT hl hp dO fun r aX p l1 l2 l3 R x3 T3=>?_;lk;rw[dB T3.ins qX];refine⟨hcod.imp fun P e=>x3 _ _ e,?_⟩;intro ca hca;have xn:=Ext.new (o:=.fn ibl [.ref r]) hca;refine Gy (k:=k+11) htd hma hha hn hpa (T3.tab.keep xn) gT (xn _ _ (x3 _ _ hl)) hp dO aN (fun t=>D.tup [.bl (bK b.ps fun s=>hv b.names bD s t),.bl (bK b.ms fun s=>hv b.names bD s t)]) (fun t q aA K E' ht' x4 hq hK=>?_) fun u st4' hu x4' hu4'=>?_;·rw[aW hbl];simp only[LG,start];refine⟨rfl,?_⟩;have T4:=T3.keep (Y2 hca x4);simp only[cg,av,bb,gg];lk;rw[iM T4.ins (AY (by decide +kernel) (by decide +kernel) (by decide +kernel) (by decide +kernel))];refine⟨True.intro,?_⟩;refine RB (k:=k+11) hfk T4 B hq fun cW x5=>?_;have T5:=T4.keep x5;k_ne;rw[iM T5.ins (AY (by decide +kernel) (by decide +kernel) (by decide +kernel) (by decide +kernel))];refine⟨True.intro,?_⟩;refine QM (k:=k+11) hmk T5 B (x5 _ _ hq) fun fM x6=>?_;exact hK fM (x5.trans x6)
 ·have hu4:=Dp hu hu4';have x4:=Es hca x4';generalize del st4' ca=cG at hu4 x4;k_ne;lk;rw[aE hu4];have hlr:((ay bD.length).map fun t=>D.tup [.bl (bK b.ps fun s=>hv b.names bD s t),.bl (bK b.ms fun s=>hv b.names bD s t)]).length<=1000:=by simp only[ab,dm];exact dO
  refine dX (fun t:Nat=>D.tup [.bl (bK b.ps fun s=>hv b.names bD s t),.bl (bK b.ms fun s=>hv b.names bD s t)]) (fun t=>D.bl (bK b.ps fun s=>hv b.names bD s t)) (ay bD.length) [] cG (fun aV y a ha=>?_) (fun t ht' cW K y5 hK=>?_) (by simp only[az,dm];omega) fun cW x5=>?_;·simp only[ah]at ha;subst ha;rw[hu4,y _ _ hu4]
  ·k_ne;exact hK cW .refl
  rw[av];refine bS (by simp only[ab,dm];omega) fun v fM x6 hv0 hv6=>?_;refine L5 (k:=k+13) hft (bs:=(ay bD.length).map fun t=>bK b.ps fun s=>hv b.names bD s t) (by rw[hv6,md];rfl) ?_;k_ne;have u6:=x6 _ _ (x5 _ _ hu4);rw[aE u6];refine dX (fun t:Nat=>D.tup [.bl (bK b.ps fun s=>hv b.names bD s t),.bl (bK b.ms fun s=>hv b.names bD s t)]) (fun t=>D.bl (bK b.ms fun s=>hv b.names bD s t)) (ay bD.length) [] fM (fun aV y a ha=>?_) (fun t ht' cW K y5 hK=>?_) (by simp only[az,dm];omega) fun kF x7=>?_;·simp only[ah]at ha;subst ha;rw[u6,y _ _ u6]
  ·k_ne;exact hK cW .refl
  rw[av];refine bS (by simp only[ab,dm];omega) fun w eB x8 hw hw8=>?_;refine L5 (k:=k+13) hft (bs:=(ay bD.length).map fun t=>bK b.ms fun s=>hv b.names bD s t) (by rw[hw8,md];rfl) ?_;exact hQ eB (x3.trans (x4.trans (x5.trans (x6.trans (x7.trans x8)))))
end
structure yU (b:Bk)(m aZ:List Bool)(met:List (List Bool))(a:jY):Prop where
 len:a.1.length=b.gs.length
 kp:bK b.ms (b.vm m (aZ++a.1))=true
 lo:a.2.1=rX b.ws (b.vm m (aZ++a.1))to:met[a.2.2]? = some (b.sP m (aZ++a.1))
theorem E5 {α:Type}{l l':List α}(h:l <+: l'){i:Nat}{x:α}(e:l[i]? = some x):l'[i]? = some x:=by
 obtain⟨r,rfl⟩:=h;have hi:i<l.length:=by refine nh fun z=>?_;rw[cu z]at e;cases e
 rw[bu hi,e]
theorem yU.more {b:Bk}{m aZ:List Bool}{met met':List (List Bool)}{a:jY}(h:yU b m aZ met a)(p:met <+: met'):yU b m aZ met' a:=⟨h.len,h.kp,h.lo,E5 p h.to⟩
theorem QR (met:List (List Bool))(m:List Bool):met <+: jP met m:=by
 unfold jP;split;·exact qj _
 ·exact List.prefix_append _ _
theorem Fy (met:List (List Bool))(m:List Bool):(jP met m)[(jP met m).idxOf m]? = some m:=by have h:=j7 (xK met m);rw[ai h,List.getElem_idxOf h]
set_option tactic.hygienic true in
theorem UC {b:Bk}{m aZ fr:List Bool}(hf:fr.length=b.gs.length){x:List jY×List (List Bool)}(h:∀ a∈x.1,yU b m aZ x.2 a):(∀ a∈(cB b m aZ x fr).1,yU b m aZ (cB b m aZ x fr).2 a)/\x.2 <+: (cB b m aZ x fr).2:=by
 unfold cB;split
 ·rename_i hk;refine⟨fun a ha=>?_,QR _ _⟩;rcases List.mem_append.mp ha with ha|ha;·exact(h a ha).more (QR _ _)
  ·simp only[ah]at ha;subst ha;exact⟨hf,hk,rfl,Fy _ _⟩
 ·exact⟨h,qj _⟩
theorem NR {b:Bk}{m aZ:List Bool}:∀(l:List (List Bool))(x:List jY×List (List Bool)),(∀ fr∈l,fr.length=b.gs.length)->(∀ a∈x.1,yU b m aZ x.2 a)->(∀ a∈(l.foldl (cB b m aZ) x).1,yU b m aZ (l.foldl (cB b m aZ) x).2 a)/\x.2 <+: (l.foldl (cB b m aZ) x).2|[],_,_,h=>⟨h,qj _⟩|fr::l,x,hl,h=>by have h1:=UC (hl fr (by simp)) h;have h2:=NR l (cB b m aZ x fr) (fun y hy=>hl y (by simp [hy])) h1.1;exact⟨h2.1,h1.2.trans h2.2⟩
structure JL (b:Bk)(m:List Bool)(met:List (List Bool))(v:Mv):Prop where
 len:v.1.length=b.fs.length
 kp:bK b.ps (b.vm m (v.1++ao b.gs.length false))=true
 an:∀ a∈v.2,yU b m v.1 met a
theorem JL.more {b:Bk}{m:List Bool}{met met':List (List Bool)}{v:Mv}(h:JL b m met v)(p:met <+: met'):JL b m met' v:=⟨h.len,h.kp,fun a ha=>(h.an a ha).more p⟩
theorem W0 {b:Bk}{m aZ:List Bool}(met:List (List Bool)):(∀ a∈(gW b m aZ met).1,yU b m aZ (gW b m aZ met).2 a)/\met <+: (gW b m aZ met).2 :=NR (cK b.gs.length) ([],met) (fun fr h=>lT _ _ h) (by simp)
theorem OJ {b:Bk}{m:List Bool}:∀(l:List (List Bool))(x:List Mv×List (List Bool)),(∀ aZ∈l,aZ∈lO b m)->(∀ v∈x.1,JL b m x.2 v)->(∀ v∈(l.foldl (cI b m) x).1,JL b m (l.foldl (cI b m) x).2 v)/\x.2 <+: (l.foldl (cI b m) x).2
 |[],_,_,h=>⟨h,qj _⟩|aZ::l,x,hl,h=>by
  have hf:=hl aZ (by simp);have ha:=W0 (b:=b) (m:=m) (aZ:=aZ) x.2;have h1:∀ v∈(cI b m x aZ).1,JL b m (cI b m x aZ).2 v:=fun v hv=>by
   simp only[cI]at hv ⊢;rcases List.mem_append.mp hv with hv|hv;·exact(h v hv).more ha.2
   ·simp only[ah]at hv;subst hv;exact⟨JM hf,(List.mem_filter.mp hf).2,ha.1⟩
  have h2:=OJ l (cI b m x aZ) (fun y hy=>hl y (by simp [hy])) h1;exact⟨h2.1,ha.2.trans h2.2⟩
theorem Cw {b:Bk}{m:List Bool}(met:List (List Bool)):(∀ v∈(jH b m met).1,JL b m (jH b m met).2 v)/\met <+: (jH b m met).2:=OJ _ ([],met) (fun _ h=>h) (by simp)
set_option tactic.hygienic true in
theorem RI (b:Bk):∀ j,(∀(k:Nat)(n:Node),(aU b j).2[k]? = some n->(aU b j).1[k]? = some n.1)/\(∀ n∈(aU b j).2,∀ v∈n.2,JL b n.1 (aU b j).1 v)/\(aU b j).1[0]? = some (b.mem [])
 |0=>⟨fun k n h=>by simp [aU]at h,fun n h=>by simp [aU]at h,by show[b.aK.map eY][0]? = _;simp only[fh,Yu];unfold Bk.mem;refine nu fun s _=>?_;simp [iQ]⟩|j+1=>by
  obtain⟨h1,h2,h3⟩:=RI b j;simp only[aU,oG];split
  ·rename_i cN;have hm:=Cw (b:=b) (m:=((aU b j).1[(aU b j).2.length]?).getD []) (aU b j).1;refine⟨fun k n hk=>?_,fun n hn v hv=>?_,E5 hm.2 h3⟩
   ·rcases Nat.lt_trichotomy k (aU b j).2.length with hk'|hk'|hk';·rw[bu hk']at hk;exact E5 hm.2 (h1 k n hk)
    ·subst hk';rw[cw (aw _),Nat.sub_self]at hk;simp only[fh,Yu]at hk;subst hk;refine E5 hm.2 ?_;simp [ai cN]
    ·rw[cu (by simp;omega)]at hk;cases hk
   ·rcases List.mem_append.mp hn with hn|hn;·exact(h2 n hn v hv).more hm.2
    ·simp only[ah]at hn;subst hn;exact hm.1 v hv
  ·exact⟨h1,h2,h3⟩
structure P8 (b:Bk)(gm:List Node):Prop where
 ok:S7 gm
 pos:0<gm.length
 z:(cR gm 0).1=b.mem []mv:∀ k,k<gm.length->∀ v∈(cR gm k).2,v.1.length=b.fs.length/\bK b.ps (b.vm (cR gm k).1 (v.1++ao b.gs.length false))=true
 an:∀ k,k<gm.length->∀ v∈(cR gm k).2,∀ a∈v.2,a.1.length=b.gs.length/\bK b.ms (b.vm (cR gm k).1 (v.1++a.1))=true/\a.2.1=rX b.ws (b.vm (cR gm k).1 (v.1++a.1))/\a.2.2<gm.length/\(cR gm a.2.2).1=b.sP (cR gm k).1 (v.1++a.1)
theorem Hj {b:Bk}(B:b.Ok)(gT:b.aK.length<=4):P8 b (kP b):=by
 have h1:=(uD b 17).ED gT;have h2:=qT b gT 17;have h3:=uZ b gT 17;obtain⟨p1,p2,p3⟩:=RI b 17;have e:(aU b 17).2.length=(aU b 17).1.length:=by omega
 have bO:=Ep B gT;have at1:∀ k,k<(kP b).length->(aU b 17).1[k]? = some (cR (kP b) k).1:=fun k hk=>p1 k _ (BH hk);have hpos:0<(kP b).length:=by show 0<(aU b 17).2.length;rw[e];refine nh fun z=>?_;rw[cu z]at p3;cases p3
 refine⟨bO,hpos,?_,fun k hk v hv=>?_,fun k hk v hv a ha=>?_⟩;·have:=at1 0 hpos;rw[p3]at this;exact(c7 this).symm
 ·have:=p2 _ (kX hk) v hv;exact⟨this.len,this.kp⟩
 ·have q:=(p2 _ (kX hk) v hv).an a ha;have cN:=(bO.an _ (kX hk) v hv).2 a ha;refine⟨q.len,q.kp,q.lo,cN,?_⟩;have:=at1 _ cN;rw[q.to]at this;exact(c7 this).symm
theorem sE {names:List (List Nat)}{gs:List (List Nat)}{aK:List Sy}{m x y:List Bool}(h:∀ n,n∈names->n∉gs->x[names.idxOf n]? = y[names.idxOf n]?):∀ s:Sy,over names s->eS gs s=false->vm names aK m x s=vm names aK m y s
 |.yes,_,_=>rfl|.no,_,_=>rfl|.cU n,ho,hb=>by simp only[vm];rw[h n ho];intro hn;simp only[eS]at hb;rw[mj]at hb;exact hb n hn (by simp)|.one w s,ho,hb=>by cases w with|before=>simp only[vm,p1,if_true,fR]|not=>simp only[eS]at hb;simp only[vm,sE h s ho hb]|once=>simp only[eS]at hb;simp only[vm,sE h s ho hb]|sofar=>simp only[eS]at hb;simp only[vm,sE h s ho hb]
 |.two w s t,ho,hb=>by simp only[eS,Bool.or_eq_false_iff]at hb;simp only[vm,sE h s ho.1 hb.1,sE h t ho.2 hb.2]
theorem FN {b:Bk}(B:b.Ok){m aZ fr fr':List Bool}(hf:aZ.length=b.fs.length):bK b.ps (b.vm m (aZ++fr))=bK b.ps (b.vm m (aZ++fr')):=by
 unfold bK;have e:∀ s∈b.ps,b.vm m (aZ++fr) s=b.vm m (aZ++fr') s:=fun s hs=>by
  refine sE (gs:=b.gs) (fun n hn hng=>?_) s (B.p2 s hs).1 (B.p3 s hs);have hnf:n∈b.fs:=by
   rcases List.mem_append.mp hn with z|z;·exact z
   ·exact absurd z hng
  have hi:b.names.idxOf n<aZ.length:=by
   rw[hf];have e1:b.names.idxOf n=b.fs.idxOf n:=by unfold Bk.names;rw[List.idxOf_append,if_pos hnf]
   rw[e1];exact j7 hnf
  rw[bu hi,bu hi]
 rw[Zn,f6,f6];exact⟨fun h s hs=>by rw[<-e s hs];exact h s hs,fun h s hs=>by rw[e s hs];exact h s hs⟩
structure Wk (b:Bk)(gm:List Node)(pl:List (List Bool))(nd:Nat):Prop where
 lt:nd<gm.length
 mem:(cR gm nd).1=b.mem pl
 len:∀ bs∈pl,bs.length=b.names.length
 ps:∀ t,t<pl.length->bK b.ps (fun s=>hv b.names pl s t)=true
 ms:∀ t,t<pl.length->bK b.ms (fun s=>hv b.names pl s t)=true
theorem tV {b:Bk}{ss:List Sy}{pl:List (List Bool)}{x:List Bool}{t:Nat}(h:t<pl.length):bK ss (fun s=>hv b.names (pl++[x]) s t)=bK ss (fun s=>hv b.names pl s t):=by have:(fun s=>hv b.names (pl++[x]) s t)=fun s=>hv b.names pl s t:=funext fun s=>hU s t h;rw[this]
theorem Wk.zero {b:Bk}{gm:List Node}(W:P8 b gm):Wk b gm [] 0:=⟨W.pos,W.z,by simp,fun t h=>by simp at h,fun t h=>by simp at h⟩
theorem Wk.step {b:Bk}(B:b.Ok){gm:List Node}(W:P8 b gm){pl:List (List Bool)}{nd:Nat}(k:Wk b gm pl nd){v:Mv}(hv':v∈(cR gm nd).2){a:jY}(ha:a∈v.2): Wk b gm (pl++[v.1++a.1]) a.2.2/\a.2.1=rX b.ws (fun s=>hv b.names (pl++[v.1++a.1]) s pl.length):=by
 obtain⟨m1,m2⟩:=W.mv nd k.lt v hv';obtain⟨a1,a2,a3,a4,a5⟩:=W.an nd k.lt v hv' a ha;rw[k.mem]at m2 a2 a3 a5;have e1:(pl++[v.1++a.1]).length-1=pl.length:=by simp
 have hps:∀ s∈b.ps,s∈b.says:=fun s hs=>by simp [Bk.says,hs]
 have hms:∀ s∈b.ms,s∈b.says:=fun s hs=>by simp [Bk.says,hs]
 refine⟨⟨a4,by rw[a5,Dg],fun bs hbs=>?_,fun t ht=>?_,fun t ht=>?_⟩,?_⟩
 ·rcases List.mem_append.mp hbs with z|z;·exact k.len bs z
  ·simp only[ah]at z;subst z;simp [Bk.names,m1,a1]
 ·by_cases z:t<pl.length;·rw[tV z];exact k.ps t z
  ·have:t=pl.length:=by simp at ht;omega
   subst this;have h:=EW b hps pl (v.1++a.1);rw[e1]at h;show(b.ps.all fun s=>hv b.names (pl++[v.1++a.1]) s pl.length)=true;rw[h,FN B m1 (fr':=ao b.gs.length false)];exact m2
 ·by_cases z:t<pl.length;·rw[tV z];exact k.ms t z
  ·have:t=pl.length:=by simp at ht;omega
   subst this;have h:=EW b hms pl (v.1++a.1);rw[e1]at h;show(b.ms.all fun s=>hv b.names (pl++[v.1++a.1]) s pl.length)=true;rw[h];exact a2
 ·have h:=Gi b pl (v.1++a.1);rw[e1]at h;rw[a3,h]
theorem yR {b:Bk}{ss:List Sy}{pl:List (List Bool)}(h:∀ t,t<pl.length->bK ss (fun s=>hv b.names pl s t)=true):lZ ((ay pl.length).map fun t=>bK ss fun s=>hv b.names pl s t)=.non:=by
 unfold lZ;rw[if_neg];intro z;have z:false∈(ay pl.length).map fun t=>bK ss fun s=>hv b.names pl s t:=by simpa using z
 obtain⟨t,ht,e⟩:=List.mem_map.mp z;rw[h t (by simpa using ht)]at e;cases e
theorem mod_lt {d:Int}{n:Nat}(h:0<n):∃ j:Nat,d % (n:Int)=(j:Int)/\j<n:=by
 refine⟨(d % (n:Int)).toNat,?_,?_⟩;·have:=oh d (b:=(n:Int)) (by omega);omega
 ·have h1:=oq d (b:=(n:Int)) (by omega);have h2:=oh d (b:=(n:Int)) (by omega);omega
theorem Cr (gm:List Node)(k:Nat):bV (rk gm 0) k=none:=by
 by_cases hk:k<gm.length;·simp [bV,rk,hk]
 ·exact nK (by rw[jZ];omega)
theorem NF (gm:List Node):∀(t k r:Nat),bV (rk gm t) k=some r->1<=r
 |0,k,r,h=>by rw[Cr]at h;cases h|t+1,k,r,h=>by
  by_cases hk:k<gm.length
  ·rw[rk,mC _ _ _ hk]at h;split at h;·cases h;omega
   ·exact NF gm t k r h
  ·rw[nK (by rw[jZ];omega)]at h;cases h
theorem W9 (gm:List Node):∀ t,(∀ s,s<t->∃ k,k<gm.length/\gS gm (rk gm s) k=true)->t<=yD gm (rk gm t)|0,_=>dt _|t+1,h=>by have ih:=W9 gm t fun s hs=>h s (by omega);obtain⟨k,hk,hn⟩:=h t (by omega);have:=JH gm (t+1) hk hn;show t+1<=yD gm (C3 gm (t+1) (rk gm t));omega
theorem Ia (gm:List Node):∀ k,k<gm.length->gS gm (rk gm gm.length) k=false:=by
 by_cases h:∃ t,t<=gm.length/\∀ k,k<gm.length->gS gm (rk gm t) k=false;·obtain⟨t,ht,hk⟩:=h;have:=ML gm hk (gm.length-t);rw[show t+(gm.length-t)=gm.length by omega]at this;rw[this];exact hk
 ·exfalso;have:=W9 gm (gm.length+1) fun s hs=>by refine uh fun z=>h ⟨s,by omega,fun k hk=>?_⟩;cases hn:gS gm (rk gm s) k with|false=>rfl|true=>exact absurd ⟨k,hk,hn⟩ z
  have:=B8 gm (rk gm (gm.length+1));omega
theorem UD {gm:List Node}{k:Nat}(hk:k<gm.length)(hn:bV (rk gm gm.length) k=none){v:Mv}(hv:v∈(cR gm k).2):∃ a∈v.2,bV (rk gm gm.length) a.2.2=none:=by have h:=Ia gm k hk;rw[DO hk,hn]at h;simp only[ub,jm,mj,f6]at h;refine uh fun z=>h v hv fun a ha=>?_;cases hr:bV (rk gm gm.length) a.2.2 with|some x=>rfl|none=>exact absurd ⟨a,ha,hr⟩ z
theorem RJ:∀ n,(cK n).Nodup
 |0=>by simp [cK]|n+1=>by
  have ih:=RJ n;unfold List.Nodup at ih ⊢;simp only[cK];rw[List.pairwise_flatMap];refine⟨fun r _=>?_,ih.imp fun{a b} eD=>?_⟩;·simp
  ·intro x hx y hy z;subst z;simp only[bw,bj,or_false]at hx hy;rcases hx with hx|hx<;>rcases hy with hy|hy<;>rw[hx]at hy<;>exact eD (List.append_inj_left' hy rfl)
theorem OR {b:Bk}{m:List Bool}:∀(l:List (List Bool))(x:List Mv×List (List Bool)),(l.foldl (cI b m) x).1.map (·.1)=x.1.map (·.1)++l|[],x=>by simp|f::l,x=>by rw[jd,OR l];simp [cI]
theorem RD {b:Bk}{m aZ:List Bool}:∀(l:List (List Bool))(x:List jY×List (List Bool)),(l.foldl (cB b m aZ) x).1.map (·.1)=x.1.map (·.1)++l.filter (rY b m aZ)|[],x=>by simp|f::l,x=>by rw[jd,RD l];cases h:rY b m aZ f with|true =>have h':bK b.ms (b.vm m (aZ++f))=true:=h;rw[oy h];simp [cB,h']|false =>have h':bK b.ms (b.vm m (aZ++f))=false:=h;rw[oz (by rw[h];decide)];simp [cB,h']
theorem RF {b:Bk}{m:List Bool}:∀(l:List (List Bool))(x:List Mv×List (List Bool)),(∀ v∈x.1,v.2.map (·.1)=(cK b.gs.length).filter (rY b m v.1))->∀ v∈(l.foldl (cI b m) x).1,v.2.map (·.1)=(cK b.gs.length).filter (rY b m v.1)
 |[],x,h=>h|f::l,x,h=>by
  rw[jd];refine RF l _ fun v hv=>?_;simp only[cI,kj,ah]at hv;rcases hv with hv|hv;·exact h v hv
  ·subst hv;have:=RD (b:=b) (m:=m) (aZ:=f) (cK b.gs.length) ([],x.2);simpa [gW]using this
structure GH (b:Bk)(n:Node):Prop where
 foes:n.2.map (·.1)=lO b n.1
 tJ:∀ v∈n.2,v.2.map (·.1)=(cK b.gs.length).filter (rY b n.1 v.1)
theorem N8 (b:Bk):∀ j,∀ n∈(aU b j).2,GH b n
 |0=>by intro n hn;simp [aU]at hn|j+1=>by
  intro n hn;have ih:=N8 b j;simp only[aU,oG]at hn;split at hn
  ·simp only[kj,ah]at hn;rcases hn with hn|hn;·exact ih n hn
   ·subst hn;refine⟨?_,?_⟩;·simpa [jH]using OR (b:=b) (lO b (((aU b j).1[(aU b j).2.length]?).getD [])) ([],(aU b j).1)
    ·exact RF _ ([],(aU b j).1) (by simp)
  ·exact ih n hn
theorem Fl {b:Bk}{k:Nat}(hk:k<(kP b).length):GH b (cR (kP b) k):=N8 b 17 _ (kX hk)
theorem GH.nodup {b:Bk}{n:Node}(h:GH b n):(n.2.map (·.1)).Nodup:=by rw[h.foes];exact(RJ _).filter _
theorem DE {α β:Type}[DecidableEq α]:∀{l:List (α×β)},(l.map (·.1)).Nodup->∀{v:α×β},v∈l->l.filter (fun w=>decide (w.1=v.1))=[v]
 |[],_,_,h=>by cases h|w::r,nd,v,h=>by
  rw[bb,Zp]at nd;rcases List.mem_cons.mp h with rfl|h;·rw[oy (by simp)];congr 1;rw[List.filter_eq_nil_iff];intro x hx z;exact nd.1 (List.mem_map.mpr ⟨x,hx,by simpa using z⟩)
  ·rw[oz (fun z=>nd.1 (List.mem_map.mpr ⟨v,h,(by simpa using z:w.1=v.1).symm⟩))];exact DE nd.2 h
theorem RT {b:Bk}{n:Node}(h:GH b n){v:Mv}(hv:v∈n.2)(he:v.2=[]){fr:List Bool}(hf:fr∈cK b.gs.length):rY b n.1 v.1 fr=false:=by have e:=h.tJ v hv;rw[he,gg]at e;cases hk:rY b n.1 v.1 fr with|false=>rfl|true =>have:fr∈(cK b.gs.length).filter (rY b n.1 v.1):=List.mem_filter.mpr ⟨hf,hk⟩;rw[<-e]at this;cases this
noncomputable def BM (ise ibr:Nat):Fn:=⟨3,4,[.jA (.nm 3) none [(.call ise [(.bi .len [(.ix (.v 0) (.c (.int 1)))])])] [.iff (.cmp .ne (.call ibr [(.v 0),(.bin .add (.v 1) (.lst [(.bin .add (.v 2) (.v 3))]))]) (.tup [(.c .non),(.bi .len [(.v 1)])])) [.ret (.c (.bl false))] []],.ret (.c (.bl true))]⟩
theorem QC:∀ n,(ao n true++[false]).idxOf false=n|0=>rfl|n+1=>by rw[i9,cg,j3,QC n];rfl
theorem Ai {b:Bk}(B:b.Ok){gm:List Node}(W:P8 b gm)(N:∀ k,k<gm.length->GH b (cR gm k)){pl:List (List Bool)}{nd:Nat}(k:Wk b gm pl nd){v:Mv}(hv':v∈(cR gm nd).2)(he:v.2=[]){fr:List Bool}(hf:fr∈cK b.gs.length): lZ ((ay (pl++[v.1++fr]).length).map fun t=>bK b.ps fun s=>hv b.names (pl++[v.1++fr]) s t)=.non/\lZ ((ay (pl++[v.1++fr]).length).map fun t=>bK b.ms fun s=>hv b.names (pl++[v.1++fr]) s t)=.int (pl.length:Nat):=by
 obtain⟨m1,m2⟩:=W.mv nd k.lt v hv';have hk:=RT (N nd k.lt) hv' he hf;unfold rY at hk;rw[k.mem]at m2 hk;have e1:(pl++[v.1++fr]).length-1=pl.length:=by simp
 have hps:∀ s∈b.ps,s∈b.says:=fun s hs=>by simp [Bk.says,hs]
 have hms:∀ s∈b.ms,s∈b.says:=fun s hs=>by simp [Bk.says,hs]
 have hlast:bK b.ms (fun s=>hv b.names (pl++[v.1++fr]) s pl.length)=false:=by have h:=EW b hms pl (v.1++fr);rw[e1]at h;show(b.ms.all fun s=>hv b.names (pl++[v.1++fr]) s pl.length)=false;rw[h];exact hk
 refine⟨yR fun t ht=>?_,?_⟩
 ·by_cases z:t<pl.length;·rw[tV z];exact k.ps t z
  ·have:t=pl.length:=by simp at ht;omega
   subst this;have h:=EW b hps pl (v.1++fr);rw[e1]at h;show(b.ps.all fun s=>hv b.names (pl++[v.1++fr]) s pl.length)=true;rw[h,FN B m1 (fr':=ao b.gs.length false)];exact m2
 ·have e:(ay (pl++[v.1++fr]).length).map (fun t=>bK b.ms fun s=>hv b.names (pl++[v.1++fr]) s t)=ao pl.length true++[false]:=by
   rw[bq,xb,ki,dw,List.map_singleton,hlast];congr 1;refine vz (by simp) fun i h1 h2=>?_;have hi:i<pl.length:=by simpa using h2
   simp only[List.getElem_map,List.getElem_range,List.getElem_replicate];rw[tV hi];exact k.ms i hi
  rw[e];unfold lZ;rw[if_pos (by simp),QC]
section
variable {G:Prog}{k i ise ibr:Nat}{st:aB}{Q:VK}{E:XK}{b:Bk}{κ:CK}
def Ah (G:Prog)(ibr:Nat)(b:Bk)(κ:CK):Prop:=∀(k:Nat)(st:aB)(Q:VK)(E:XK)(l:Nat)(bD:List (List Bool)),(∃ P,st P=some (.cod κ))->st l=some (.lst (bD.map aY))->(∀ bs∈bD,bs.length=b.names.length)->bD.length<=1000 -> (∀ aA,Ext st aA->Q (.tup [lZ ((ay bD.length).map fun t=>bK b.ps fun s=>hv b.names bD s t),lZ ((ay bD.length).map fun t=>bK b.ms fun s=>hv b.names bD s t)]) aA)->aH G (k+15) ibr [b.d,.ref l] st Q E
theorem WK (h:G.fns i=some (BM ise ibr))(hse:G.fns ise=some zX)(hbr:Ah G ibr b κ)(hcod:∃ P,st P=some (.cod κ))(B:b.Ok){gm:List Node}(W:P8 b gm)(N:∀ k,k<gm.length->GH b (cR gm k)){pl:List (List Bool)}{nd l:Nat}(w:Wk b gm pl nd)(dO:pl.length<=999){v:Mv}(hv':v∈(cR gm nd).2)(he:v.2=[])(hl:st l=some (.lst (pl.map aY))) (hQ:∀ aA,Ext st aA->Q (.bl true) aA):aH G (k+16) i [b.d,.ref l,aY v.1] st Q E:=by
 have hL:bE=16777216:=rfl;have f2:=B.f2;have g2:=B.g2;have hd:b.d=.tup [.tup (b.fs.map .str),.tup (b.gs.map .str),.tup (b.ps.map toD),.tup (b.ms.map toD),.tup (b.ws.map fun w=>.tup [.int w.1,toD w.2])]:=rfl;have m1:=(W.mv nd w.lt v hv').1;rw[aW h];simp only[BM,start];refine⟨rfl,?_⟩;rw[hd];lk;rw[ab];refine Ab (k:=k+14) hse (by omega) fun s aC hs1 x1 hs11=>?_;k_ne;rw[aE hs11,<-hd];refine hJ aY (I:=fun rest σ aA=>∃ dn o3,cK b.gs.length=dn++rest/\σ=[some b.d,some (.ref l),some (aY v.1),o3]/\Ext aC aA) (fun rest σ aA hI=>?_) (fun fr rest σ aA M hI hM=>?_) (fun σ aA hI=>?_) _ _ _ ⟨[],none,rfl,rfl,.refl⟩;·obtain⟨dn,o3,e1,e2,x2⟩:=hI;intro a ha;simp only[ah]at ha;subst ha;rw[x2 _ _ hs11,hs11]
 ·obtain⟨dn,o3,e1,e2,x2⟩:=hI;subst e2;have hfr:fr∈cK b.gs.length:=by rw[e1];simp
  have hfl:fr.length=b.gs.length:=lT _ _ hfr;have l2:=x2 _ _ (x1 _ _ hl);lk;rw[xM];refine⟨by omega,?_⟩;refine bS (by show 1<=bE;decide) fun q aX x3 hq hq3=>?_;k_ne;rw[aE (x3 _ _ l2),aE hq3];have el:pl.map aY++[aY (v.1++fr)]=(pl++[v.1++fr]).map aY:=by simp
  rw[el];refine bS (by simp only[ab,bq,bf,az];omega) fun lo cG x4 hlo hlo4=>?_;have hlen:∀ bs∈pl++[v.1++fr],bs.length=b.names.length:=fun bs hbs=>by
   rcases List.mem_append.mp hbs with z|z;·exact w.len bs z
   ·simp only[ah]at z;subst z;simp [Bk.names,m1,hfl]
  refine hbr k cG _ _ lo _ (hcod.imp fun P e=>x4 _ _ (x3 _ _ (x2 _ _ (x1 _ _ e)))) hlo4 hlen (by simp;omega) fun cW x5=>?_;obtain⟨q1,q2⟩:=Ai B W N w hv' he hfr;rw[q1,q2];have l5:=x5 _ _ (x4 _ _ (x3 _ _ l2));k_ne;rw[eI l5];k_ne;rw[ab];refine⟨⟨rfl,by show 1<=iC;decide⟩,⟨rfl,by show 1<=iC;decide⟩,?_⟩;have ee:bW cW (D.tup [D.non,D.int (pl.length:Nat)]) (D.tup [D.non,D.int (pl.length:Nat)])=true:=by simp [bW,kD]
  rw[ee];simp only[e8,ak,if_false,aI];exact hM _ _ ⟨dn++[fr],_,by simp [e1],rfl,x2.trans (x3.trans (x4.trans x5))⟩
 ·obtain⟨dn,o3,e1,e2,x2⟩:=hI;subst e2;lk;exact hQ _ (x1.trans x2)
end
noncomputable def B1 (iln ibs iab:Nat):Fn:=⟨3,12,[.asg (.nm 3) (.call iln [(.v 0)]),.asg (.nm 4) (.call ibs [(.v 0)]),.asg (.nm 5) (.c (.int 0)),.asg (.nm 6) (.lst []),.jA (.nm 7) (some .range) [(.ix (.v 3) (.c (.int 0)))] [.asg (.nm 8) (.ix (.v 4) (.v 5)),.asg (.nm 9) (.comp 1 [8] [0] true none [(.ix (.ix (.v 1) (.v 5)) (.c (.int 1)))] [(.cmp .eq (.ix (.v 0) (.c (.int 0))) (.v 1))] (.ix (.v 0) (.c (.int 1)))),.iff (.cmp .eq (.v 9) (.lst [])) [.ret (.c (.bl false))] [],.iff (.cmp .eq (.ix (.v 9) (.c (.int 0))) (.tup [])) [.ret (.call iab [(.v 0),(.v 6),(.v 8)])] [],.asg (.tp [10,11,5]) (.ix (.ix (.v 9) (.c (.int 0))) (.bin .mod (.bin .fdiv (.bin .add (.v 2) (.bin .mul (.c (.int 7919)) (.v 7))) (.c (.int 11))) (.bi .len [(.ix (.v 9) (.c (.int 0)))]))),.ex (.cM .append (.v 6) [(.bin .add (.v 8) (.v 10))])],.ret (.c (.bl false))]⟩
section
variable {G:Prog}{k i iln ibs iab p:Nat}{st:aB}{Q:VK}{E:XK}{b:Bk}{κ:CK}{gm:List Node}
theorem G2 {α:Type}(p:α->Bool)(g:α->D):∀ l:List α,(l.filterMap fun w=>if p w=true then some (g w)else none)=(l.filter p).map g|[]=>rfl|w::l=>by cases h:p w with|true=>rw[oy h,bb,List.filterMap_cons_some (b:=g w) (by rw[if_pos h]),G2 p g l]|false=>rw[oz (by rw[h];decide),List.filterMap_cons_none (by rw[if_neg (by rw[h];decide)]),G2 p g l]
theorem Lh {u:Nat}(hu:st u=some (.lst (HV gm))){j:Nat}(hj:j<gm.length):mY (.ref u) (.int (j:Nat)) st Q=Q (A8 (rk gm gm.length) (cR gm j).2 (bV (rk gm gm.length) j)) st:=by rw[dN hu,dG (by simp [HV];exact hj)];simp only[HV,bg];rw[yu hj];rfl
theorem X2 (h:G.fns i=some (B1 iln ibs iab))(LN:∀{st:aB}{Q:VK}{E:XK},(∀ q aA,st q=none->Ext st aA->aA q=some (.lst ((rk gm gm.length).map rD))->Q (.ref q) aA)->aH G (k+16) iln [b.d] st Q E)(BS:∀{st:aB}{Q:VK}{E:XK},(∀ q aA,st q=none->Ext st aA->aA q=some (.lst (HV gm))->Q (.ref q) aA)->aH G (k+16) ibs [b.d] st Q E)(AB:∀{st:aB}{Q:VK}{E:XK}{pl:List (List Bool)}{nd l:Nat}{v:Mv},(∃ P,st P=some (.cod κ))->Wk b gm pl nd->pl.length<=999->v∈(cR gm nd).2->v.2=[]->st l=some (.lst (pl.map aY))->(∀ aA,Ext st aA->Q (.bl true) aA)->aH G (k+16) iab [b.d,.ref l,aY v.1] st Q E)(hcod:∃ P,st P=some (.cod κ))(B:b.Ok)(W:P8 b gm)(N:∀ k,k<gm.length->GH b (cR gm k))(hp:st p=some (.lst (gm.map fQ))){r0:Nat}(hr0:bV (rk gm gm.length) 0=some r0){seed:Int}(hsd:0<=seed/\seed<1000000000)(hQ:∀ aA,Ext st aA->Q (.bl true) aA):aH G (k+17) i [b.d,.ref p,.int seed] st Q E:=by
 have hL:bE=16777216:=rfl;have g1:=W.ok.ED;have hr:=A1 gm _ _ _ hr0;generalize hbd:b.d=bd at LN BS AB ⊢;rw[aW h];simp only[B1,start];refine⟨rfl,?_⟩;lk;refine LN fun q aC hq x1 hq1=>?_;k_ne;lk;refine BS fun u aF hu x2 hu2=>?_;k_ne;lk;lk;refine bS (by simp) fun l aX x3 hl hl3=>?_;k_ne;have q3:=x3 _ _ (x2 _ _ hq1);have u3:=x3 _ _ hu2;have p3:=x3 _ _ (x2 _ _ (x1 _ _ hp));have lq:q≠l:=fun z=>by rw[<-z,x2 _ _ hq1]at hl;cases hl
 have lu:u≠l:=fun z=>by rw[<-z,hu2]at hl;cases hl
 have lp:p≠l:=fun z=>by rw[<-z,x2 _ _ (x1 _ _ hp)]at hl;cases hl
 lk;rw[show(0:Int)=((0:Nat):Int)from rfl,CB q3 (by rw[jZ];exact W.pos),hr0];simp only[rD];k_ne;refine⟨by unfold gF;omega,?_⟩;rw[show((r0:Nat):Int).toNat=r0 by omega,qK];refine hJ (fun j:Nat=>D.int (j:Nat)) (I:=fun rest σ aA=>∃ t pl nd r os,rest=qx t (r0-t)/\t<=r0/\pl.length<=t/\os.length=5/\σ=[some bd,some (.ref p),some (.int seed),some (.ref q),some (.ref u),some (.int (nd:Nat)),some (.ref l)]++os/\bL [l] aX aA/\Wk b gm pl nd/\bV (rk gm gm.length) nd=some r/\r+t<=r0/\aA l=some (.lst (pl.map aY))) (fun rest σ aA h=>fun a ha=>by cases ha) (fun x rest σ aA M h hM=>?_) (fun σ aA h=>?_) _ _ _ ⟨0,[],0,r0,[none,none,none,none,none],by rw[yh];rfl,dt _,aw _,rfl,rfl,.refl,Wk.zero W,hr0,aw _,hl3⟩
 ·obtain⟨t,pl,nd,r,os,e1,e2,e3,e4,e5,k6,wk,hr1,hrt,l6⟩:=h;have nS:=NF gm _ _ _ hr1;have htl:t<r0:=by omega
  rw[show r0-t=(r0-(t+1))+1 by omega,vw]at e1;injection e1 with e1 e1';subst e1;match os,e4 with
  |[o7,o8,o9,rA,rS],_ =>
  subst e5;have p6:=k6 _ _ (by simp [lp]) p3;have u6:=k6 _ _ (by simp [lu]) u3;simp only[cg,av];lk;rw[Lh u6 wk.lt,hr1];obtain⟨v,vr,hfv⟩:∃ v vr,(cR gm nd).2.filter (eJ (rk gm gm.length) r)=v::vr:=by obtain⟨m,hm,hlm⟩:=UN gm hr1;cases hf:(cR gm nd).2.filter (eJ (rk gm gm.length) r)with|nil=>exact absurd (List.mem_filter.mpr ⟨hm,hlm⟩) (by rw[hf];simp)|cons v vr=>exact⟨v,vr,rfl⟩
  have hvf:v∈(cR gm nd).2/\eJ (rk gm gm.length) r v=true:=List.mem_filter.mp (by rw[hfv];simp);have hbk:A8 (rk gm gm.length) (cR gm nd).2 (some r)=aY v.1:=by simp [A8,hfv]
  rw[hbk];k_ne;lk;rw[Bz p6 wk.lt];simp only[fQ];k_ne;have hmn:=W.ok.mv _ (kX wk.lt);refine lX jJ (fun w=>if decide (w.1=v.1)=true then some (.tup (w.2.map fO))else none) (cR gm nd).2 [] aA (fun _ _ _ ha=>by cases ha) (fun w hw kF K y7 hK=>?_) (by simp only[az];omega) fun kF x7=>?_
  ·have hK':=hK kF .refl;simp only[jJ]at hK' ⊢;k_ne;refine⟨ID _,ID _,?_⟩;rw[P9];k_ne;by_cases hwv:w.1=v.1;·rw[if_pos (by simp [hwv])]at hK';simpa [hwv]using hK'
   ·rw[if_neg (by simp [hwv])]at hK';simpa [hwv]using hK'
  have hfil:(cR gm nd).2.filterMap (fun w=>if decide (w.1=v.1)=true then some (D.tup (w.2.map fO))else none)=[D.tup (v.2.map fO)]:=by rw[G2 (fun w:Mv=>decide (w.1=v.1)) fun w=>D.tup (w.2.map fO),DE (N nd wk.lt).nodup hvf.1];rfl
  rw[av,hfil];refine bS (by show 1<=bE;decide) fun f eB x8 hf hf8=>?_;k_ne;lk;refine bS (by simp) fun z rR x9 hz9 hz99=>?_;have f9:=x9 _ _ hf8;have pv:=qO fO DK v.2;have pf:cD [D.tup (v.2.map fO)]=true/\cX [D.tup (v.2.map fO)]<=3:=by simp only[cD,bQ,cX,cT];exact⟨by rw[pv.1];rfl,by omega⟩
  refine⟨tT f9 pf (by decide),tT hz99 (n:=0) ⟨rfl,aw _⟩ (by decide),?_⟩;rw[eq_empty f9 hz99];simp only[uw,ak,if_false,aI];lk;rw[dN f9,dG (by simp)];simp only[fh,bB];have ee:bW rR (.tup (v.2.map fO)) (.tup [])=v.2.isEmpty:=by rw[cY];cases v.2 with|nil=>rfl|cons a l=>rfl
  k_ne;refine⟨⟨pV _ (by simp only[bQ];exact pv.1),by simp only[cT];have:iC=80:=rfl;omega⟩,⟨rfl,by show 1<=iC;decide⟩,?_⟩;rw[ee];have x69:=x7.trans (x8.trans x9);have l9:=x69 _ _ l6;cases hve:v.2.isEmpty with
  |true =>
   simp only[if_true];have hv0:v.2=[]:=by simpa using hve
   lk;refine AB (v:=v) (hcod.imp fun P e=>?_) wk (by omega) hvf.1 hv0 l9 fun O1 x10=>?_;·have e3:=x3 _ _ (x2 _ _ (x1 _ _ e));refine x69 _ _ (k6 _ _ (fun z=>?_) e3);simp only[ah]at z;rw[z,hl3]at e3;cases e3
   ·refine hQ _ fun a o e=>?_;have e2:=x2 _ _ (x1 _ _ e);refine x10 _ _ (x69 _ _ (k6 _ _ (fun z=>?_) (x3 _ _ e2)));simp only[ah]at z;rw[z,hl]at e2;cases e2|false =>
   simp only[ak,if_false,aI];have hvpos:0<v.2.length:=by cases hv2:v.2 with|nil=>rw[hv2]at hve;cases hve|cons _ _=>simp
   lk;rw[dN f9,dG (by simp)];simp only[fh,bB];k_ne;refine⟨.inl (by unfold pC;omega),⟨by omega,by omega⟩,?_⟩;rw[dN f9,dG (by simp)];simp only[fh,bB];k_ne;rw[ab];refine⟨by omega,?_⟩;obtain⟨j2,ej2,hj2⟩:=mod_lt (d:=(seed+7919*(x:Int)) / 11) hvpos;rw[ej2,dG (by simpa using hj2),bg,ai hj2,jf,bB];generalize haj:v.2[j2]=a;have ham:a∈v.2:=by rw[<-haj];exact qi hj2
   simp only[fO];k_ne;obtain⟨wk',el⟩:=wk.step B W hvf.1 ham;have hra:∃ r',bV (rk gm gm.length) a.2.2=some r'/\r'<r:=by have h1:=hvf.2;simp only[eJ,f6]at h1;have h2:=h1 a ham;cases hg:bV (rk gm gm.length) a.2.2 with|none=>rw[hg]at h2;cases h2|some r'=>rw[hg]at h2;exact⟨r',rfl,by simpa using h2⟩
   obtain⟨r',hr',cN⟩:=hra;lk;rw[aE l9];refine⟨True.intro,?_⟩;have hvl:=(W.mv nd wk.lt v hvf.1).1;have hal:=(W.an nd wk.lt v hvf.1 a ham).1;have f2:=B.f2;have g2:=B.g2;rw[xM];refine⟨by omega,?_⟩;rw[aE l9];refine⟨by simp only[ab];omega,?_⟩;simp only[aI];exact hM _ _ ⟨x+1,pl++[v.1++a.1],a.2.2,r',[_,_,_,_,_],e1',by omega,by simp;omega,rfl,rfl,(k6.trans x69.keep).trans (bL.put (by simp)),wk',hr',by omega,by rw[aN];simp⟩
 ·obtain⟨t,pl,nd,r,os,e1,e2,e3,e4,e5,k6,wk,hr1,hrt,l6⟩:=h;have nS:=NF gm _ _ _ hr1;have hlen:=congrArg Zk e1;simp at hlen;omega
end
noncomputable def NM (ibo iga im iln ifo ibr:Nat):Fn:=⟨1,15,[.asg (.nm 1) (.call ibo [(.v 0),(.c (.int 1)),(.c (.int 3)),(.c (.int 3))]),.asg (.nm 2) (.call iga [(.v 1)]),.asg (.nm 3) (.call iln [(.v 1)]),.asg (.nm 4) (.call im [(.v 0),(.c (.int 0)),(.bin .pow (.c (.int 10)) (.c (.int 9)))]),.iff (.cmp .isnot (.ix (.v 3) (.c (.int 0))) (.c .non)) [.ret (.call ifo [(.v 1),(.v 2),(.v 4)])] [],.asg (.nm 5) (.c (.int 0)),.asg (.nm 6) (.lst []),.jA (.nm 7) (some .range) [(.c (.int 20))] [.asg (.nm 8) (.ix (.ix (.v 2) (.v 5)) (.c (.int 1))),.iff (.cmp .ne (.v 8) (.tup [])) [.asg (.nm 9) (.bin .mod (.bin .mul (.bin .add (.bin .add (.v 4) (.bin .mul (.bin .mul (.c (.int 104729)) (.v 7)) (.v 7))) (.bin .mul (.c (.int 7919)) (.v 7))) (.c (.int 48271))) (.c (.int 2147483647))),.asg (.tp [10,11]) (.ix (.v 8) (.bin .mod (.bin .fdiv (.v 9) (.c (.int 7))) (.bi .len [(.v 8)]))),.asg (.nm 12) (.comp 1 [3] [0] true none [(.v 11)] [(.cmp .is_ (.ix (.v 1) (.ix (.v 0) (.c (.int 2)))) (.c .non))] (.v 0)),.iff (.cmp .eq (.v 12) (.lst [])) [.ret (.c (.bl false))] [],.asg (.tp [13,14,5]) (.ix (.v 12) (.bin .mod (.bin .fdiv (.v 9) (.c (.int 61))) (.bi .len [(.v 12)]))),.ex (.cM .append (.v 6) [(.bin .add (.v 10) (.v 13))])] []],.ret (.cmp .eq (.call ibr [(.v 1),(.v 6)]) (.tup [(.c .non),(.c .non)]))]⟩
section
variable {G:Prog}{k il ibo iga im iln ifo ibr ise iab ibs ilt ilb ibm inm ic dR is ipr ibk ich icp ist ie iw ipo iz irr iti io iri ima fY iph inh ilo ifk imk itd ibl ift ini ifs ian jB ino:Nat}{st:aB}{E:XK}{ns:List Int}
theorem Sr {κ:CK}(hcod:∃ P,st P=some (.cod κ))(h:G.fns il=some (NM ibo iga im iln ifo ibr))(hbo:G.fns ibo=some (CL inm dR is ipr))(jT:G.fns inm=some (zJ dR))(hpr:G.fns ipr=some (BO is dR))(hs:G.fns is=some (nW dR is))(hn:G.fns dR=some (rZ im))(hm:G.fns im=some (oU ic))(hc:G.fns ic=some qA)(hga:G.fns iga=some (K5 ich iri ini ifs ian))(hb:∀ b:Bk,b.Ok->fW b.says<bE->(∀ x∈b.says,aQ x<=60)->(cZ b.says []).length<=4->GA G ibk 13 b)(hch:G.fns ich=some (nJ ibk))(hcp:G.fns icp=some (sA ist))(eV:G.fns ist=some nL)(hri:G.fns iri=some (sW iti io))(ht:G.fns iti=some (lY iz ie irr))(hz:G.fns iz=some (jF iw))(he:G.fns ie=some (oK ie iw ipo))(hw:G.fns iw=some gE)(hpo:G.fns ipo=some pD)(hrr:G.fns irr=some xY)(hio:G.fns io=some oJ)(hni:G.fns ini=some FW)(hfs:G.fns ifs=some (E8 jB ifk fY))(han:G.fns ian=some (LY jB fY imk ino ima ilo))(hset:G.fns jB=some xV)(hno:G.fns ino=some B3)(hma:G.fns ima=some xR)(hha:G.fns fY=some (rT iph inh))(hnh:G.fns inh=some sH)(hph:G.fns iph=some oV)(htd:G.fns itd=some (EX fY ima))(hlo:G.fns ilo=some BY)(hbr:G.fns ibr=some (CH ich icp iri itd ibl ift κ))(hbl:G.fns ibl=some (LG ifk imk))(hfk:G.fns ifk=some B2)(hmk:G.fns imk=some CG)(hft:G.fns ift=some AD)(hln:G.fns iln=some (GW iga ilt))(hbs:G.fns ibs=some (RW iga ilt ibm))(cN:G.fns ilt=some (zR ilb))(hlb:G.fns ilb=some tH)(hbm:G.fns ibm=some (M7 ilb))(hfo:G.fns ifo=some (B1 iln ibs iab))(eD:G.fns iab=some (BM ise ibr))(hse:G.fns ise=some zX):aH G (k+18) il [.bR (ns.map .int)] st (fun d _=>d=.bl true) E:=by
 have hL:bE=16777216:=rfl;rw[aW h];simp only[NM,start];refine⟨rfl,?_⟩;lk;refine Fv (k:=k+10) hbo jT hpr hs hn hm hc (by decide) (by decide) (by decide) (by decide) fun b aC DR x1=>?_;obtain⟨F1,F2,F3,F4⟩:=XU DR (by decide);have hB:=hb b DR.ok (by omega) F2 F3;have WW:=Hj DR.ok F3;have NN:∀ k,k<(kP b).length->GH b (cR (kP b) k):=fun k hk=>Fl hk;have G1:∀{k:Nat}{st:aB}{Q:VK}{E:XK},(∀ p aA,st p=none->Ext st aA->aA p=some (.lst ((kP b).map fQ))->Q (.ref p) aA)->aH G (k+15) iga [b.d] st Q E:=fun hQ=>Hb hga hch hB hri ht hz he hw hpo hrr hio hni hfs han hset hfk hha hnh hph hmk hno hma hlo DR.ok (by omega) F3 hQ;generalize kP b=gm at WW NN G1;have g1:=WW.ok.ED;have BR:Ah G ibr b κ:=fun k st Q E l bD h0 h1 h2 h3 hQ=>WO (k:=k) hbr h0 hch hB hcp eV hri ht hz he hw hpo hrr hio hma hha hnh hph htd hbl hfk hmk hft DR.ok (by omega) (by omega) h1 h2 h3 hQ;have B0:=DR.ok;clear DR hB;have LN:∀{k:Nat}{st:aB}{Q:VK}{E:XK},(∀ q aA,st q=none->Ext st aA->aA q=some (.lst ((rk gm gm.length).map rD))->Q (.ref q) aA)->aH G (k+16) iln [b.d] st Q E:=fun{k st Q E} hQ=>by rw[aW hln];simp only[GW,start];refine⟨rfl,?_⟩;lk;refine G1 (k:=k) fun p4 cG hp4 x4 hp44=>?_;k_ne;exact NB (k:=k+13) cN hlb hp44 WW.ok fun q5 cW hq5 x5 hq55=>hQ q5 cW (lU x4 hq5) (x4.trans x5) hq55
 have BS:∀{k:Nat}{st:aB}{Q:VK}{E:XK},(∀ q aA,st q=none->Ext st aA->aA q=some (.lst (HV gm))->Q (.ref q) aA)->aH G (k+16) ibs [b.d] st Q E:=fun{k st Q E} hQ=>by rw[aW hbs];simp only[RW,start];refine⟨rfl,?_⟩;lk;refine G1 (k:=k) fun p4 cG hp4 x4 hp44=>?_;k_ne;exact WE (k:=k+13) cN hlb hbm hp44 WW.ok fun q5 cW hq5 x5 hq55=>hQ q5 cW (lU x4 hq5) (x4.trans x5) hq55
 have AB:∀{st:aB}{Q:VK}{E:XK}{pl:List (List Bool)}{nd l:Nat}{v:Mv},(∃ P,st P=some (.cod κ))->Wk b gm pl nd->pl.length<=999->v∈(cR gm nd).2->v.2=[]->st l=some (.lst (pl.map aY))->(∀ aA,Ext st aA->Q (.bl true) aA)->aH G (k+16) iab [b.d,.ref l,aY v.1] st Q E:=fun h0 h1 h2 h3 h4 h5 hQ=>WK eD hse BR h0 B0 WW NN h1 h2 h3 h4 h5 hQ;have FO:∀{st:aB}{Q:VK}{E:XK}{p r0:Nat}{seed:Int},(∃ P,st P=some (.cod κ))->st p=some (.lst (gm.map fQ))->bV (rk gm gm.length) 0=some r0->0<=seed/\seed<1000000000->(∀ aA,Ext st aA->Q (.bl true) aA)->aH G (k+17) ifo [b.d,.ref p,.int seed] st Q E:=fun h0 h1 h2 h3 hQ=>X2 hfo (LN (k:=k)) (BS (k:=k)) AB h0 B0 WW NN h1 h2 h3 hQ;unfold Ah at BR;generalize hbd:b.d=bd at G1 LN FO BR ⊢;clear AB BS;k_ne;lk;refine G1 (k:=k+2) fun p aF hp x2 nC=>?_;k_ne;lk;refine LN (k:=k+1) fun q aX hq x3 hq3=>?_;k_ne;lk;refine⟨by decide,?_⟩;refine OI (k:=k+15) hm hc (by decide) (by decide) fun cG x4=>?_;have hsd:0<=kB ns 0 (10 ^ Aaw 9)/\kB ns 0 (10 ^ Aaw 9)<1000000000:=⟨gR (by decide),gQ (by decide)⟩;generalize kB ns 0 (10 ^ Aaw 9)=seed at hsd;k_ne;have p4:=x4 _ _ (x3 _ _ nC);have q4:=x4 _ _ hq3;lk;rw[show(0:Int)=((0:Nat):Int)from rfl,CB q4 (by rw[jZ];exact WW.pos)];k_ne;rw[yF];have cod4:∃ P,cG P=some (.cod κ):=hcod.imp fun P e=>x4 _ _ (x3 _ _ (x2 _ _ (x1 _ _ e)));cases hr0:bV (rk gm gm.length) 0 with|some r0 =>simp only[Option.isNone_some,iq,if_true];lk;exact FO cod4 p4 hr0 hsd fun cW x5=>rfl|none =>
 simp only[ub,e8,ak,if_false,aI];clear FO LN G1;lk;lk;refine bS (by simp) fun l cW x5 hl hl5=>?_;k_ne;have p5:=x5 _ _ p4;have q5:=x5 _ _ q4;have lp:p≠l:=fun z=>by rw[<-z,p4]at hl;cases hl
 have lq:q≠l:=fun z=>by rw[<-z,q4]at hl;cases hl
 lk;refine⟨by unfold gF;omega,?_⟩;rw[show(20:Int).toNat=20 from rfl,qK];refine hJ (fun j:Nat=>D.int (j:Nat)) (I:=fun rest σ aA=>∃ t pl nd os,rest=qx t (20-t)/\t<=20/\pl.length<=t/\os.length=8/\σ=[some (.bR (ns.map .int)),some bd,some (.ref p),some (.ref q),some (.int seed),some (.int (nd:Nat)),some (.ref l)]++os/\bL [l] cW aA/\Wk b gm pl nd/\bV (rk gm gm.length) nd=none/\aA l=some (.lst (pl.map aY))) (fun rest σ aA h=>fun a ha=>by cases ha) (fun x rest σ aA M h hM=>?_) (fun σ aA h=>?_) _ _ _ ⟨0,[],0,[none,none,none,none,none,none,none,none],by rw[yh],dt _,aw _,rfl,rfl,.refl,Wk.zero WW,hr0,hl5⟩
 ·obtain⟨t,pl,nd,os,e1,e2,e3,e4,e5,k6,wk,hrn,l6⟩:=h;have htl:t<20:=by refine nh fun z=>?_;rw[show 20-t=0 by omega]at e1;cases e1
  rw[show 20-t=(20-(t+1))+1 by omega,vw]at e1;injection e1 with e1 e1';subst e1;match os,e4 with
  |[o7,o8,o9,rA,rS,RR,Ny,Yi],_ =>
  subst e5;have p6:=k6 _ _ (by simp [lp]) p5;have q6:=k6 _ _ (by simp [lq]) q5;simp only[cg,av];lk;rw[Bz p6 wk.lt];simp only[fQ];k_ne;have hmn:=WW.ok.mv _ (kX wk.lt);have pm:=qO jJ UR (cR gm nd).2;have ee:bW aA (.tup ((cR gm nd).2.map jJ)) (.tup [])=(cR gm nd).2.isEmpty:=by rw[cY];cases (cR gm nd).2 with|nil=>rfl|cons a l=>rfl
  lk;refine⟨⟨pV _ (by simp only[bQ];exact pm.1),by simp only[cT];have:iC=80:=rfl;omega⟩,⟨rfl,by show 1<=iC;decide⟩,?_⟩;rw[ee];cases hme:(cR gm nd).2.isEmpty with|true =>simp only[e8,ak,if_false,aI];exact hM _ _ ⟨x+1,pl,nd,[_,_,_,_,_,_,_,_],e1',by omega,by omega,rfl,rfl,k6,wk,hrn,l6⟩|false =>
   simp only[iq,if_true];have hmpos:0<(cR gm nd).2.length:=by cases h2:(cR gm nd).2 with|nil=>rw[h2]at hme;cases hme|cons _ _=>simp
   lk;refine⟨.inl (by unfold pC;omega),.inr (by unfold pC;omega),.inl (by unfold pC;omega),.inr (by unfold pC;omega),by decide,?_⟩;generalize (seed+104729*(x:Int)*(x:Int)+7919*(x:Int))*48271 % 2147483647=dr;lk;refine⟨by decide,?_⟩;simp only[ab];refine⟨by omega,?_⟩;obtain⟨j,ej,hj⟩:=mod_lt (d:=dr / 7) hmpos;rw[ej,dG (by simpa using hj),bg,ai hj,jf,bB];generalize hvj:(cR gm nd).2[j]=v;have hvm:v∈(cR gm nd).2:=by rw[<-hvj];exact qi hj
   simp only[jJ];k_ne;lk;have hav:=WW.ok.an _ (kX wk.lt) v hvm;refine lX fO (fun a=>if(bV (rk gm gm.length) a.2.2).isNone=true then some (fO a)else none) v.2 [] aA (fun _ _ _ ha=>by cases ha) (fun a ha kF K y7 hK=>?_) (by have:=hav.1;simp only[az];omega) fun kF x7=>?_;·have hK':=hK kF .refl;simp only[fO]at hK' ⊢;k_ne;rw[CB (y7 _ _ q6) (by rw[jZ];exact hav.2 a ha)];k_ne;rw[yF];cases hg:(bV (rk gm gm.length) a.2.2).isNone with|true=>rw[hg]at hK';simpa using hK'|false=>rw[hg]at hK';simpa using hK'
   rw[av,RA];have hfl:=gr (fun a:jY=>(bV (rk gm gm.length) a.2.2).isNone) v.2;have hgd:0<(v.2.filter fun a=>(bV (rk gm gm.length) a.2.2).isNone).length:=by obtain⟨a,ha,hga⟩:=UD wk.lt hrn hvm;exact wx (List.mem_filter.mpr ⟨ha,by rw[hga];rfl⟩)
   generalize hmf:(v.2.filter fun a=>(bV (rk gm gm.length) a.2.2).isNone)=gd at hfl hgd;refine bS (by have:=hav.1;simp only[ab];omega) fun f eB x8 hf hf8=>?_;k_ne;lk;refine bS (by simp) fun z rR x9 hz9 hz99=>?_;have f9:=x9 _ _ hf8;have pg:=qO fO DK gd;refine⟨tT f9 pg (by decide),tT hz99 (n:=0) ⟨rfl,aw _⟩ (by decide),?_⟩;rw[eq_empty f9 hz99];have hie:(gd.map fO).isEmpty=false:=by cases h2:gd with|nil=>rw[h2]at hgd;cases hgd|cons _ _=>rfl
   rw[hie];simp only[ak,if_false,aI];have x69:=x7.trans (x8.trans x9);have l9:=x69 _ _ l6;lk;refine⟨by decide,?_⟩;rw[eI f9];simp only[ab];refine⟨by omega,?_⟩;obtain⟨j2,ej2,hj2⟩:=mod_lt (d:=dr / 61) hgd;rw[ej2,dN f9,dG (by simpa using hj2),bg,ai hj2,jf,bB];generalize haj:gd[j2]=a;have hag:a∈gd:=by rw[<-haj];exact qi hj2
   have ham:a∈v.2/\(bV (rk gm gm.length) a.2.2).isNone=true:=by rw[<-hmf]at hag;exact List.mem_filter.mp hag
   simp only[fO];k_ne;obtain⟨wk',el⟩:=wk.step B0 WW hvm ham.1;lk;rw[aE l9];refine⟨True.intro,?_⟩;have hvl:=(WW.mv nd wk.lt v hvm).1;have hal:=(WW.an nd wk.lt v hvm a ham.1).1;have f2:=B0.f2;have g2:=B0.g2;rw[xM];refine⟨by omega,?_⟩;rw[aE l9];refine⟨by simp only[ab];omega,?_⟩;simp only[aI];exact hM _ _ ⟨x+1,pl++[v.1++a.1],a.2.2,[_,_,_,_,_,_,_,_],e1',by omega,by simp;omega,rfl,rfl,(k6.trans x69.keep).trans (bL.put (by simp)),wk',by simpa using ham.2,by rw[aN];simp⟩
 ·obtain⟨t,pl,nd,os,e1,e2,e3,e4,e5,k6,wk,hrn,l6⟩:=h;match os,e4 with
  |[o7,o8,o9,rA,rS,RR,Ny,Yi],_ =>
  subst e5;simp only[cg,av];lk;refine BR (k+2) _ _ _ l pl (cod4.imp fun P e=>?_) l6 wk.len (by omega) fun eB x8=>?_;·have e5:=x5 _ _ e;refine k6 _ _ (fun z=>?_) e5;simp only[ah]at z;rw[z,hl5]at e5;cases e5
  rw[yR wk.ps,yR wk.ms];k_ne;refine⟨⟨rfl,by show 1<=iC;decide⟩,⟨rfl,by show 1<=iC;decide⟩,?_⟩;rfl
end
end L3
end
end
namespace L3
open PySem PySem.Spec PyProof.Rows L2
noncomputable def IV:D:=(.str (W "abcdefghijklmnopqrstuvwxyz"))
noncomputable def wN:D:=(.int 8)
noncomputable def FR:D:=(.tup [(.str (W "yes")),(.str (W "no")),(.str (W "not")),(.str (W "and")),(.str (W "or")),(.str (W "then")),(.str (W "same")),(.str (W "before")),(.str (W "once")),(.str (W "sofar")),(.str (W "since")),(.str (W "foe")),(.str (W "friend")),(.str (W "promise")),(.str (W "must")),(.str (W "wish"))])
noncomputable def JD:D:=(.int 8)
noncomputable def tK:D:=(.dP [(.str (W "yes")),(.str (W "no")),(.str (W "not")),(.str (W "before")),(.str (W "once")),(.str (W "sofar")),(.str (W "and")),(.str (W "or")),(.str (W "then")),(.str (W "same")),(.str (W "since"))] [(.int 0),(.int 0),(.int 1),(.int 1),(.int 1),(.int 1),(.int 2),(.int 2),(.int 2),(.int 2),(.int 2)])
noncomputable def oT:D:=(.tup [(.str (W "before")),(.str (W "once")),(.str (W "sofar")),(.str (W "since"))])
noncomputable def BC:D:=(.int 2)
noncomputable def tU:D:=(.int 3)
noncomputable def zT:D:=(.int 3)
noncomputable def zF:D:=(.int 5)
noncomputable def uM:D:=(.int 99)
noncomputable def yY:D:=(.int 4)
noncomputable abbrev zK:Nat:=0
noncomputable abbrev vL:Nat:=1
noncomputable abbrev mK:Nat:=2
noncomputable abbrev iR:Nat:=3
noncomputable abbrev pZ:Nat:=4
noncomputable abbrev pN:Nat:=5
noncomputable abbrev CV:Nat:=6
noncomputable abbrev rE:Nat:=7
noncomputable abbrev rM:Nat:=8
noncomputable abbrev wL:Nat:=9
noncomputable abbrev ES:Nat:=10
noncomputable abbrev KO:Nat:=11
noncomputable abbrev zZ:Nat:=12
noncomputable abbrev oZ:Nat:=13
noncomputable abbrev AU:Nat:=14
noncomputable abbrev zS:Nat:=15
noncomputable abbrev C7:Nat:=16
noncomputable abbrev AA:Nat:=17
noncomputable abbrev sI:Nat:=18
noncomputable abbrev rH:Nat:=19
noncomputable abbrev tD:Nat:=20
noncomputable abbrev mU:Nat:=21
noncomputable abbrev lN:Nat:=22
noncomputable abbrev kQ:Nat:=23
noncomputable abbrev nN:Nat:=24
noncomputable abbrev jU:Nat:=25
noncomputable abbrev iE:Nat:=26
noncomputable abbrev uQ:Nat:=27
noncomputable abbrev AN:Nat:=28
noncomputable abbrev vZ:Nat:=29
noncomputable abbrev vX:Nat:=30
noncomputable abbrev oY:Nat:=31
noncomputable abbrev pK:Nat:=32
noncomputable abbrev rJ:Nat:=33
noncomputable abbrev oQ:Nat:=34
noncomputable abbrev nU:Nat:=35
noncomputable abbrev wI:Nat:=36
noncomputable abbrev A2:Nat:=37
noncomputable abbrev FA:Nat:=38
noncomputable abbrev pQ:Nat:=39
noncomputable abbrev tO:Nat:=40
noncomputable abbrev AV:Nat:=41
noncomputable abbrev uG:Nat:=42
noncomputable abbrev sU:Nat:=43
noncomputable abbrev wV:Nat:=44
noncomputable abbrev tM:Nat:=45
noncomputable abbrev nB:Nat:=46
noncomputable abbrev AH:Nat:=47
noncomputable abbrev nD:Nat:=48
noncomputable abbrev wD:Nat:=49
noncomputable abbrev C6:Nat:=50
noncomputable abbrev uR:Nat:=51
noncomputable abbrev sJ:Nat:=52
noncomputable abbrev zE:Nat:=53
noncomputable abbrev Au:Nat:=54
noncomputable abbrev mW:Nat:=55
noncomputable def gI:CK:=⟨274,196,43,W "first_breaks.<locals>.<lambda>"⟩
noncomputable def VJ:Fn:=jC FR IV wN
noncomputable def PQ:Fn:=qU mK JD
noncomputable def A9:Fn:=nF zK mK tK
noncomputable def DT:Fn:=gE
noncomputable def PZ:Fn:=⟨1,4,[.asg (.nm 1) (.lst []),.asg (.nm 2) (.bit .list .rev [(.v 0)]),.whl (.v 2) [.asg (.nm 3) (.cM .pop (.v 2) []),.iff (.and_ (.cmp .in_ (.ix (.v 3) (.c (.int 0))) (.c oT)) (.cmp .lS (.v 3) (.v 1))) [.ex (.cM .append (.v 1) [(.v 3)])] [],.ex (.cM .extend (.v 2) [(.bit .list .rev [(.call iR [(.v 3)])])])],.ret (.v 1)]⟩
noncomputable def Z8:Fn:=lV
noncomputable def PX:Fn:=FD pN zK BC
noncomputable def K3:Fn:=vP pN vL
noncomputable def KU:Fn:=uF iR rM
noncomputable def HA:Fn:=CF rE rM tU
noncomputable def R5:Fn:=pM uM
noncomputable def WJ:Fn:=vU pN ES vL
noncomputable def OW:Fn:=xZ pN KO zF
noncomputable def MP:Fn:=oJ
noncomputable def VU:Fn:=CA pN CV wL rE zZ pZ oZ zT yY
noncomputable def VO:Fn:=nJ AU
noncomputable def PD:Fn:=sH
noncomputable def OH:Fn:=oV
noncomputable def DF:Fn:=lY pZ rH mU
noncomputable def KZ:Fn:=oK rH iR tD
noncomputable def DW:Fn:=⟨2,2,[.iff (.cmp .eq (.ix (.v 1) (.c (.int 0))) (.c (.str (W "lamp")))) [.ret (.cM .index (.fld (W "Table") (W "names") (.v 0)) [(.ix (.v 1) (.c (.int 1)))])] [],.iff (.cmp .in_ (.ix (.v 1) (.c (.int 0))) (.c oT)) [.ret (.cM .index (.fld (W "Table") (W "pieces") (.v 0)) [(.v 1)])] [],.ret (.c .non)]⟩
noncomputable def vB:Fn:=xY
noncomputable def EZ:Fn:=⟨3,8,[.asg (.nm 3) (.lst []),.jA (.tp [4,5,6]) none [(.fld (W "Table") (W "rows") (.v 0))] [.asg (.nm 7) (.comp 1 [3] [0] true none [(.v 6)] [] (.ix (.v 1) (.v 0))),.iff (.cmp .eq (.v 4) (.c (.str (W "lamp")))) [.ex (.cM .append (.v 3) [(.ix (.v 2) (.v 5))])] [.iff (.cmp .in_ (.v 4) (.c oT)) [.ex (.cM .append (.v 3) [(.call AA [(.v 4),(.ix (.v 1) (.v 5)),(.v 7)])])] [.ex (.cM .append (.v 3) [(.call C7 [(.v 4),(.v 7)])])]]],.ret (.v 3)]⟩
noncomputable def yP:Fn:=xR
noncomputable def DQ:Fn:=sW sI oZ
noncomputable def CQ:Fn:=B2
noncomputable def xB:Fn:=CG
noncomputable def EL:Fn:=BY
noncomputable def NO:Fn:=nL
noncomputable def HR:Fn:=sA AN
noncomputable def GZ:Fn:=EX lN kQ
noncomputable def yS:Fn:=AD
noncomputable def GN:Fn:=CH zS vZ nN vX mW oY gI
noncomputable def K1:Fn:=xV
noncomputable def yG:Fn:=FW
noncomputable def vS:Fn:=B3
noncomputable def HL:Fn:=E8 rJ jU lN
noncomputable def NQ:Fn:=LY rJ lN iE nU kQ uQ
noncomputable def Jf:Fn:=K5 zS nN oQ wI A2
noncomputable def IA:Fn:=tH
noncomputable def M3:Fn:=zR pQ
noncomputable def U9:Fn:=GW FA tO
noncomputable def ET:Fn:=M7 pQ
noncomputable def D3:Fn:=RW FA tO uG
noncomputable def GL:Fn:=⟨2,2,[.iff (.cmp .lt (.v 1) (.bi .len [(.v 0)])) [.ret (.ix (.v 0) (.v 1))] [],.iff (.cmp .eq (.v 0) (.lst [])) [.ret (.c (.int 0))] [],.ret (.bin .add (.bin .mul (.ix (.v 0) (.bin .mod (.v 1) (.bi .len [(.v 0)]))) (.c (.int 31))) (.v 1))]⟩
noncomputable def ME:Fn:=⟨3,4,[.asg (.nm 3) (.bin .mod (.bin .mul (.bin .add (.bin .add (.call wV [(.v 0),(.v 1)]) (.bin .mul (.c (.int 7919)) (.v 1))) (.c (.int 1))) (.c (.int 48271))) (.c (.int 2147483647))),.ret (.bin .mod (.bin .mod (.bin .add (.bin .add (.bin .mul (.v 3) (.v 3)) (.bin .mul (.c (.int 7)) (.v 3))) (.v 1)) (.c (.int 2147483629))) (.v 2))]⟩
noncomputable def O7:Fn:=rZ tM
noncomputable def LO:Fn:=zJ nB
noncomputable def K0:Fn:=nW nB nD
noncomputable def HQ:Fn:=BO nD nB
noncomputable def PC:Fn:=CL AH nB nD wD
noncomputable def EM:Fn:=zX
noncomputable def DJ:Fn:=BM uR pK
noncomputable def K2:Fn:=B1 AV sU sJ
noncomputable def Qp:Fn:=NM C6 FA tM AV zE pK
noncomputable def vH:Fn:=LG jU iE
noncomputable def Wn:Nat->Option Fn|0=>some VJ|1=>some PQ|2=>some A9|3=>some DT|4=>some PZ|5=>some Z8|6=>some PX|7=>some K3|8=>some KU|9=>some HA|10=>some R5|11=>some WJ|12=>some OW|13=>some MP|14=>some VU|15=>some VO|16=>some PD|17=>some OH|18=>some DF|19=>some KZ|20=>some DW|21=>some vB|22=>some EZ|23=>some yP|24=>some DQ|25=>some CQ|26=>some xB|27=>some EL|28=>some NO|29=>some HR|30=>some GZ|31=>some yS|32=>some GN|33=>some K1|34=>some yG|35=>some vS|36=>some HL|37=>some NQ|38=>some Jf|39=>some IA|40=>some M3|41=>some U9|42=>some ET|43=>some D3|44=>some GL|45=>some ME|46=>some O7|47=>some LO|48=>some K0|49=>some HQ|50=>some PC|51=>some EM|52=>some DJ|53=>some K2|54=>some Qp|55=>some vH|_=>none
noncomputable def Wr:Nat->Nat->Bool|0,0=>true|1,1=>true|1,0=>true|2,2=>true|2,1=>true|2,0=>true|3,3=>true|3,1=>true|3,0=>true|_,_=>false
noncomputable def G:Prog:=⟨Wn,Wr⟩
noncomputable def fD:Nat->Stmt|0=>bd 11|1=>bd 12|2=>bd 13|3=>bd 14|4=>bd 15|5=>bd 23|6=>bd 24|7=>bd 25|8=>bd 26|9=>bd 27|10=>bd 28|11=>bd 29|12=>bd 30|13=>bd 31|14=>bd 32|15=>bd 33|16=>bd 35|17=>bd 36|18=>lE (bd 37) 0|19=>lE (bd 37) 1|20=>lE (bd 37) 2|21=>lE (bd 37) 3|22=>lE (bd 37) 4|23=>lE (bd 37) 5|24=>lE (bd 38) 0|25=>lE (bd 38) 1|26=>lE (bd 38) 2|27=>lE (bd 38) 3|28=>bd 39|29=>bd 40|30=>bd 41|31=>bd 42|32=>bd 43|33=>bd 45|34=>lE (bd 46) 0|35=>lE (bd 46) 1|36=>bd 47|37=>bd 48|38=>bd 49|39=>bd 51|40=>bd 52|41=>bd 54|42=>bd 55|43=>bd 56|44=>bd 58|45=>bd 59|46=>bd 60|47=>bd 61|48=>bd 62|49=>bd 63|50=>bd 64|51=>bd 65|52=>bd 66|53=>bd 67|54=>bd 68|_=>.Pass ⟨0,0,0,0⟩
def rQ:Nat->Str|0 =>"is_name"|1 =>"is_saying"|2 =>"is_saying_within"|3 =>"sayings_within"|4 =>"pieces_in"|5 =>"is_row"|6 =>"are_lamps"|7 =>"are_sayings"|8 =>"stands_bare"|9 =>"are_promises"|10 =>"is_price"|11 =>"is_wish"|12 =>"are_wishes"|13 =>"sayings_of"|14 =>"is_book"|15 =>"checked"|16 =>"now_holds"|17 =>"past_holds"|18 =>"__init__"|19 =>"enter"|20 =>"place_of"|21 =>"remembered_row"|22 =>"held_at"|23 =>"memory_after"|24 =>"__init__"|25 =>"foe_keeps"|26 =>"friend_keeps"|27 =>"loss_at"|28 =>"is_setting"|29 =>"checked_play"|30 =>"told_by_turn"|31 =>"first_turn_without"|32 =>"first_breaks"|33 =>"settings_of"|34 =>"__init__"|35 =>"number_of"|36 =>"foe_settings"|37 =>"answers_to"|38 =>"game"|39 =>"loses_before"|40 =>"lost_turns"|41 =>"lost_in"|42 =>"breaking_move"|43 =>"breaking_moves"|44 =>"_law_cell_at"|45 =>"_law_mixed"|46 =>"_law_next"|47 =>"_law_names"|48 =>"_law_saying"|49 =>"_law_promise"|50 =>"_law_book"|51 =>"_law_settings"|52 =>"_law_all_break"|53 =>"_law_forced"|54 =>"law"|_ =>""
def gG:Nat->Str|0 =>"is_name"|1 =>"is_saying"|2 =>"is_saying_within"|3 =>"sayings_within"|4 =>"pieces_in"|5 =>"is_row"|6 =>"are_lamps"|7 =>"are_sayings"|8 =>"stands_bare"|9 =>"are_promises"|10 =>"is_price"|11 =>"is_wish"|12 =>"are_wishes"|13 =>"sayings_of"|14 =>"is_book"|15 =>"checked"|16 =>"now_holds"|17 =>"past_holds"|18 =>"Table.__init__"|19 =>"Table.enter"|20 =>"Table.place_of"|21 =>"Table.remembered_row"|22 =>"Table.held_at"|23 =>"Table.memory_after"|24 =>"Rules.__init__"|25 =>"Rules.foe_keeps"|26 =>"Rules.friend_keeps"|27 =>"Rules.loss_at"|28 =>"is_setting"|29 =>"checked_play"|30 =>"told_by_turn"|31 =>"first_turn_without"|32 =>"first_breaks"|33 =>"settings_of"|34 =>"Numbering.__init__"|35 =>"Numbering.number_of"|36 =>"foe_settings"|37 =>"answers_to"|38 =>"game"|39 =>"loses_before"|40 =>"lost_turns"|41 =>"lost_in"|42 =>"breaking_move"|43 =>"breaking_moves"|44 =>"_law_cell_at"|45 =>"_law_mixed"|46 =>"_law_next"|47 =>"_law_names"|48 =>"_law_saying"|49 =>"_law_promise"|50 =>"_law_book"|51 =>"_law_settings"|52 =>"_law_all_break"|53 =>"_law_forced"|54 =>"law"|_ =>""
def oN:Nat->At|0=>.top|1=>.top|2=>.top|3=>.top|4=>.top|5=>.top|6=>.top|7=>.top|8=>.top|9=>.top|10=>.top|11=>.top|12=>.top|13=>.top|14=>.top|15=>.top|16=>.top|17=>.top|18=>(.init (W "Table"))|19=>(.cM (W "Table"))|20=>(.cM (W "Table"))|21=>(.cM (W "Table"))|22=>(.cM (W "Table"))|23=>(.cM (W "Table"))|24=>(.init (W "Rules"))|25=>(.cM (W "Rules"))|26=>(.cM (W "Rules"))|27=>(.cM (W "Rules"))|28=>.top|29=>.top|30=>.top|31=>.top|32=>.top|33=>.top|34=>(.init (W "Numbering"))|35=>(.cM (W "Numbering"))|36=>.top|37=>.top|38=>.top|39=>.top|40=>.top|41=>.top|42=>.top|43=>.top|44=>.top|45=>.top|46=>.top|47=>.top|48=>.top|49=>.top|50=>.top|51=>.top|52=>.top|53=>.top|54=>.top|_=>.top
def oR:Nat->List Str|0=>["thing"]|1=>["names","thing"]|2=>["names","thing","deepest"]|3=>["saying"]|4=>["sayings"]|5=>["thing","fewest","most"]|6=>["foe","friend"]|7=>["names","things","most"]|8=>["names","saying"]|9=>["names","friend","things"]|10=>["thing"]|11=>["names","thing"]|12=>["names","things"]|13=>["promises","musts","wishes"]|14=>["thing"]|15=>["book"]|16=>["word","parts"]|17=>["word","remembered","parts"]|18=>["self","names","sayings"]|19=>["self","saying"]|20=>["self","saying"]|21=>["self","piece"]|22=>["self","memory","setting"]|23=>["self","held"]|24=>["self","book"]|25=>["self","held"]|26=>["self","held"]|27=>["self","held"]|28=>["thing","lamps"]|29=>["book","play"]|30=>["table","play","tell"]|31=>["kept"]|32=>["book","play"]|33=>["lamps"]|34=>["self","first"]|35=>["self","thing"]|36=>["book","rules","memory"]|37=>["book","rules","numbering","memory","foe"]|38=>["book"]|39=>["move","lost","turns"]|40=>["nodes"]|41=>["book"]|42=>["moves","lost","turns"]|43=>["book"]|44=>["_law_script","_law_k"]|45=>["_law_script","_law_k","_law_many"]|46=>["_law_script","_law_m","_law_many"]|47=>["_law_script","_law_m"]|48=>["_law_script","_law_m","_law_names_here","_law_deep","_law_left"]|49=>["_law_script","_law_m","_law_foe","_law_names_here","_law_left"]|50=>["_law_script","_law_at","_law_pieces","_law_musts"]|51=>["_law_many"]|52=>["_law_book_here","_law_play","_law_foe"]|53=>["_law_book_here","_law_nodes","_law_seed"]|54=>["_law_script"]|_=>[]
noncomputable def U8:Nat->Option Addr|32=>some 274|_=>none
section
variable {X:Cx}{C:bG}{sub:Nat->Nat->Bool}{elt iter:Expr}{ifs:List Expr}{xe:Ex}{aD lJ:List Ex}{pos p:Pos}{scope:Scope}{k:Option IK}{n:Str}{aL:List Nat}
noncomputable abbrev XN (X:Cx)(aL:List Nat):List Str:=aL.map fun i=>X.N.getD i ""
theorem C2 {cn:List Str}(h:SK scope.names X.env.scope.names X.N cn aL=true:=by kernel_rfl)(hk:scope.kind=.function:=by kernel_rfl):lF X scope cn aL:=Xr h rfl rfl hk
theorem qN {own cn:List Str}:∀ fp s H Ca,JQ (lQ X scope own cn fp s H Ca) C sub EF [] []:=fun _ _ _ _=>qn
theorem lA (m:bU C C)(hi:JI X C sub EF (.Name n p) iter k aD)(hts:∀ fp s H Ca,JQ (lQ X scope [n] (XN X aL) fp s H Ca) C sub EF ifs lJ)(he:∀ fp s H Ca,JE (lQ X scope [n] (XN X aL) fp s H Ca) C sub EF elt xe)(S:lF X scope (XN X aL) aL:=by exact C2)(hl:∀ fp s H Ca,(lQ X scope [n] (XN X aL) fp s H Ca).env.scope.names.lookup n=some .local:=by intros;kernel_rfl)(nd:decide (n::XN X aL).Nodup=true:=by kernel_rfl)(hc:X.calm=true:=by kernel_rfl)(hs:∀ x,gq iter X.env x=pure x:=by intro _;rfl):JE X C sub EF (.ListComp elt [⟨.Name n p,iter,ifs,0⟩] scope pos) (.comp 1 aL [0] true k aD lJ xe) :=Kv (own:=[n]) m S hi (fun _ _ _ _=>b1 (gn (of_decide_eq_true nd) rfl (hl ..))) hts he hc (fun _=>rfl) hs
end
structure Zt (K:aa)(mg:Str->Option ae):Prop where
 bb0:mg "isinstance" = none
 bb1:mg "str" = none
 bb2:mg "len" = none
 bb3:mg "all" = none
 bb4:mg "tuple" = none
 bb5:mg "list" = none
 bb6:mg "reversed" = none
 bb7:mg "set" = none
 bb8:mg "any" = none
 bb9:mg "int" = none
 bb10:mg "bool" = none
 bb11:mg "sum" = none
 bb12:mg "range" = none
 bb13:mg "enumerate" = none
 bb14:mg "zip" = none
 gg15:GC K mg "NO_NAMES" FR
 gg16:GC K mg "LONGEST_NAME" wN
 gg17:GC K mg "LETTERS" IV
 gg18:GC K mg "DEEPEST" JD
 gg19:GC K mg "SAYINGS_WITHIN" tK
 gg20:GC K mg "PAST_WORDS" oT
 gg21:GC K mg "MOST_LAMPS" BC
 gg22:GC K mg "MOST_PROMISES" tU
 gg23:GC K mg "HIGHEST_PRICE" uM
 gg24:GC K mg "MOST_WISHES" zF
 gg25:GC K mg "MOST_MUSTS" zT
 gg26:GC K mg "MOST_PIECES" yY
 cc27:tY K (W "Table")cc28:tY K (W "Rules")cc29:tY K (W "Numbering")aa30:qI K (W "Table") (W "names")aa31:qI K (W "Table") (W "pieces")aa32:qI K (W "Table") (W "rows")aa33:qI K (W "Table") (W "row_of")aa34:qI K (W "Table") (W "first_memory")aa35:qI K (W "Table") (W "remembered_rows")aa36:qI K (W "Rules") (W "table")aa37:qI K (W "Rules") (W "promise_rows")aa38:qI K (W "Rules") (W "must_rows")aa39:qI K (W "Rules") (W "priced_rows")aa40:qI K (W "Numbering") (W "met")aa41:qI K (W "Numbering") (W "numbers_met")
section
variable {P:b7}{w:c9}{K:aa}{mg:Str->Option ae}{base:Heap}
theorem B6 {k:Nat}(T:HH K mg 55 rQ gG oR fD oN)(IH:∀ i,i<55->fP P w K mg base dZ (2*k) (T.a i) (T.fd i) (oR i) (fZ K (aH G k) i)){X:Cx}(e1:X.prog=P)(e2:X.w=w)(e3:X.K=K)(e4:X.mg=mg)(e5:X.base=base)(hr:dM (2*k+1) X.A)(i:Nat)(h:mx i 55=true)(ha:oN i=.top):pB X (aH G k) (rQ i) i:=by subst e1 e2 e3 e4 e5;have h:i<55:=Nat.ble_eq.mp h;have q:=T.mg i h;rw[ha]at q;exact⟨2*k,T.a i,T.fd i,oR i,IH i h,hr.mono (by omega),q,(T.fn i h).kp,T.bi i h⟩
theorem BW {k:Nat}(T:HH K mg 55 rQ gG oR fD oN)(IH:∀ i,i<55->fP P w K mg base dZ (2*k) (T.a i) (T.fd i) (oR i) (fZ K (aH G k) i)){X:Cx}(e1:X.prog=P)(e2:X.w=w)(e3:X.K=K)(e4:X.mg=mg)(e5:X.base=base)(hr:dM (2*k+1) X.A)(i:Nat)(c:List Nat)(h:mx i 55=true)(ha:oN i=.cM c):qY X (aH G k) c (rQ i) i:=by subst e1 e2 e3 e4 e5;have h:i<55:=Nat.ble_eq.mp h;have q:=T.mg i h;rw[ha]at q;obtain⟨C0,q1,q2,q3⟩:=q;exact⟨2*k,T.a i,T.fd i,oR i,C0,IH i h,hr.mono (by omega),T.bi i h,q1,q2,q3⟩
theorem IB {k:Nat}(T:HH K mg 55 rQ gG oR fD oN)(IH:∀ i,i<55->fP P w K mg base dZ (2*k) (T.a i) (T.fd i) (oR i) (fZ K (aH G k) i)){X:Cx}(e1:X.prog=P)(e2:X.w=w)(e3:X.K=K)(e4:X.mg=mg)(e5:X.base=base)(hr:dM (2*k+1) X.A)(i:Nat)(c:List Nat)(h:mx i 55=true)(ha:oN i=.init c){n:Str}(hn:n=⟨c.toArray⟩:=by kernel_rfl):A7 X (aH G k) c n i:=by subst e1 e2 e3 e4 e5;have h:i<55:=Nat.ble_eq.mp h;have q:=T.mg i h;rw[ha]at q;obtain⟨C0,q1,q2,q3⟩:=q;exact⟨2*k,T.a i,T.fd i,oR i,C0,IH i h,hr,T.bi i h,q1,by rw[hn];exact q2,q3⟩
noncomputable abbrev TT (K:aa)(mg:Str->Option ae):=HH K mg 55 rQ gG oR fD oN
abbrev IT (P:b7)(w:c9)(base:Heap)(T:TT K mg)(k:Nat):Prop:=∀ i,i<55->fP P w K mg base dZ (2*k) (T.a i) (T.fd i) (oR i) (fZ K (aH G k) i)
abbrev OT (P:b7)(w:c9)(base:Heap)(T:TT K mg)(k i:Nat):Prop:=fP P w K mg base dZ (2*k+1+1) (T.a i) (T.fd i) (oR i) (fZ K (aH G (k+1)) i)
noncomputable def nt:Nat->List Str|0=>["thing"]|1=>["names","thing"]|2=>["names","thing","deepest"]|3=>["saying"]|4=>["sayings","pieces","ahead","saying"]|5=>["thing","fewest","most"]|6=>["foe","friend","names"]|7=>["names","things","most"]|8=>["names","saying"]|9=>["names","friend","things"]|10=>["thing"]|11=>["names","thing"]|12=>["names","things"]|13=>["promises","musts","wishes"]|14=>["thing","friend","names","promises","musts","wishes"]|15=>["book"]|16=>["word","parts"]|17=>["word","remembered","parts"]|18=>["self","names","sayings","saying"]|19=>["self","saying","part","parts"]|20=>["self","saying"]|21=>["self","piece"]|22=>["self","memory","setting","held","word","place","part_rows","parts"]|23=>["self","held"]|24=>["self","book"]|25=>["self","held"]|26=>["self","held"]|27=>["self","held"]|28=>["thing","lamps"]|29=>["book","play","lamps"]|30=>["table","play","tell","told","memory","setting","held"]|31=>["kept"]|32=>["book","play","rules","kept"]|33=>["lamps","settings","place","longer","setting"]|34=>["self","first"]|35=>["self","thing"]|36=>["book","rules","memory","friend"]|37=>["book","rules","numbering","memory","foe","answers","friend","held","node"]|38=>["book","rules","numbering","nodes","memory","moves","foe"]|39=>["move","lost","turns"]|40=>["nodes","lost","turns","found","number"]|41=>["book"]|42=>["moves","lost","turns"]|43=>["book","nodes","lost"]|44=>["_law_script","_law_k"]|45=>["_law_script","_law_k","_law_many","_law_drawn"]|46=>["_law_script","_law_m","_law_many"]|47=>["_law_script","_law_m","_law_some","_law_turn","_law_row","_law_foe","_law_friend"]|48=>["_law_script","_law_m","_law_names_here","_law_deep","_law_left","_law_way","_law_one"]|49=>["_law_script","_law_m","_law_foe","_law_names_here","_law_left","_law_one","_law_other"]|50=>["_law_script","_law_at","_law_pieces","_law_musts","_law_m","_law_foe","_law_friend","_law_names_here","_law_left","_law_wishes","_law_k","_law_price","_law_some","_law_known"]|51=>["_law_many","_law_rows","_law_turn","_law_more","_law_row"]|52=>["_law_book_here","_law_play","_law_foe","_law_friend"]|53=>["_law_book_here","_law_nodes","_law_seed","_law_ranks","_law_plan","_law_node","_law_play","_law_turn","_law_foe","_law_some","_law_friend","_law_loss"]|54=>["_law_script","_law_book_here","_law_nodes","_law_ranks","_law_seed","_law_node","_law_play","_law_turn","_law_moves","_law_drawn","_law_foe","_law_answers","_law_good","_law_friend","_law_loss"]|_=>[]
theorem Xw (i:Nat){k:Nat}{fn:Fn}(T:TT K mg)(IH:IT P w base T k)(hi:mx i 55=true)(S:nT (nt i) (oR i) (bA (fD i)))(hG:G.fns i=some fn)(hp:fn.np=(oR i).length)(hl:fn.nl=(nt i).length)(hb:∀(dC:ae)(A:cp)(outer:List Env)(s:ag)(H:Hp)(E:L2.XK)(hr:dM (2*k+1) (A.deeper (nk (gG i) (bA (fD i)) s.heap.objs.size (T.a i) dC)))(m:bU (aH G k) (aH G k))(u:(A.deeper (nk (gG i) (bA (fD i)) s.heap.objs.size (T.a i) dC)).units+180<yd)(c:∀ j,mx j 55=true->oN j=.top->pB (fH dZ P w K mg base (nt i) (gG i) (bA (fD i)) (T.a i) dC A outer s H E).jL (aH G k) (rQ j) j)(cm:∀ j c,mx j 55=true->oN j=.cM c->qY (fH dZ P w K mg base (nt i) (gG i) (bA (fD i)) (T.a i) dC A outer s H E).jL (aH G k) c (rQ j) j)(ck:∀ j c,mx j 55=true->oN j=.init c->∀{n:Str}(hn:n=⟨c.toArray⟩:=by kernel_rfl),A7 (fH dZ P w K mg base (nt i) (gG i) (bA (fD i)) (T.a i) dC A outer s H E).jL (aH G k) c n j)(nd:(nt i).Nodup),vO (fH dZ P w K mg base (nt i) (gG i) (bA (fD i)) (T.a i) dC A outer s H E).jL (aH G k) G.sub (fL (fD i)) fn.body):OT P w base T k i :=VN (fn:=fn) (T.fn i (Nat.ble_eq.mp hi)) S hG hp hl fun dC A outer s H E hr=>hb dC A outer s H E hr (kJ G (aw k)) (LC hr) (B6 (X:=(fH dZ P w K mg base (nt i) (gG i) (bA (fD i)) (T.a i) dC A outer s H E).jL) T IH rfl rfl rfl rfl rfl hr) (BW (X:=(fH dZ P w K mg base (nt i) (gG i) (bA (fD i)) (T.a i) dC A outer s H E).jL) T IH rfl rfl rfl rfl rfl hr) (@IB P w K mg base k T IH (fH dZ P w K mg base (nt i) (gG i) (bA (fD i)) (T.a i) dC A outer s H E).jL rfl rfl rfl rfl rfl hr) S.nd
abbrev Ie (P:b7)(w:c9)(K:aa)(mg:Str->Option ae)(base:Heap)(k:Nat):Prop:=∀ f Tx,LT f=some Tx->pX P w K mg base (2*k) (aH G k) f
theorem Vb (i:Nat){k:Nat}{fn:Fn}(T:TT K mg)(IH:IT P w base T k)(IL:Ie P w K mg base k)(hi:mx i 55=true)(S:nT (nt i) (oR i) (bA (fD i)))(hG:G.fns i=some fn)(hp:fn.np=(oR i).length)(hl:fn.nl=(nt i).length)(hb:∀(dC:ae)(A:cp)(outer:List Env)(s:ag)(H:Hp)(E:L2.XK)(hr:dM (2*k+1) (A.deeper (nk (gG i) (bA (fD i)) s.heap.objs.size (T.a i) dC)))(m:bU (aH G k) (aH G k))(u:(A.deeper (nk (gG i) (bA (fD i)) s.heap.objs.size (T.a i) dC)).units+180<yd)(c:∀ j,mx j 55=true->oN j=.top->pB (fH dZ P w K mg base (nt i) (gG i) (bA (fD i)) (T.a i) dC A outer s H E).jL (aH G k) (rQ j) j)(cm:∀ j c,mx j 55=true->oN j=.cM c->qY (fH dZ P w K mg base (nt i) (gG i) (bA (fD i)) (T.a i) dC A outer s H E).jL (aH G k) c (rQ j) j)(ck:∀ j c,mx j 55=true->oN j=.init c->∀{n:Str}(hn:n=⟨c.toArray⟩:=by kernel_rfl),A7 (fH dZ P w K mg base (nt i) (gG i) (bA (fD i)) (T.a i) dC A outer s H E).jL (aH G k) c n j)(nd:(nt i).Nodup)(L:W6 (fH dZ P w K mg base (nt i) (gG i) (bA (fD i)) (T.a i) dC A outer s H E).jL (aH G k)),vO (fH dZ P w K mg base (nt i) (gG i) (bA (fD i)) (T.a i) dC A outer s H E).jL (aH G k) G.sub (fL (fD i)) fn.body):OT P w base T k i :=VN (fn:=fn) (T.fn i (Nat.ble_eq.mp hi)) S hG hp hl fun dC A outer s H E hr=>hb dC A outer s H E hr (kJ G (aw k)) (LC hr) (B6 (X:=(fH dZ P w K mg base (nt i) (gG i) (bA (fD i)) (T.a i) dC A outer s H E).jL) T IH rfl rfl rfl rfl rfl hr) (BW (X:=(fH dZ P w K mg base (nt i) (gG i) (bA (fD i)) (T.a i) dC A outer s H E).jL) T IH rfl rfl rfl rfl rfl hr) (@IB P w K mg base k T IH (fH dZ P w K mg base (nt i) (gG i) (bA (fD i)) (T.a i) dC A outer s H E).jL rfl rfl rfl rfl rfl hr) S.nd ⟨2*k,IL,hr.mono (by omega)⟩
theorem Uk (i:Nat){k:Nat}{fn:Fn}(T:TT K mg)(IH:IT P w base T k){cc:Addr}(hcd:(T.fd i).code=.ref cc)(hi:mx i 55=true)(S:nT (nt i) (oR i) (bA (fD i)))(hG:G.fns i=some fn)(hp:fn.np=(oR i).length)(hl:fn.nl=(nt i).length)(hb:∀(A:cp)(outer:List Env)(s:ag)(H:Hp)(E:L2.XK)(hr:dM (2*k+1) (A.deeper (nk (gG i) (bA (fD i)) s.heap.objs.size (T.a i) (.ref cc))))(m:bU (aH G k) (aH G k))(u:(A.deeper (nk (gG i) (bA (fD i)) s.heap.objs.size (T.a i) (.ref cc))).units+180<yd)(c:∀ j,mx j 55=true->oN j=.top->pB (fH dZ P w K mg base (nt i) (gG i) (bA (fD i)) (T.a i) (.ref cc) A outer s H E).jL (aH G k) (rQ j) j)(cm:∀ j c,mx j 55=true->oN j=.cM c->qY (fH dZ P w K mg base (nt i) (gG i) (bA (fD i)) (T.a i) (.ref cc) A outer s H E).jL (aH G k) c (rQ j) j)(ck:∀ j c,mx j 55=true->oN j=.init c->∀{n:Str}(hn:n=⟨c.toArray⟩:=by kernel_rfl),A7 (fH dZ P w K mg base (nt i) (gG i) (bA (fD i)) (T.a i) (.ref cc) A outer s H E).jL (aH G k) c n j)(nd:(nt i).Nodup),vO (fH dZ P w K mg base (nt i) (gG i) (bA (fD i)) (T.a i) (.ref cc) A outer s H E).jL (aH G k) G.sub (fL (fD i)) fn.body):OT P w base T k i :=Hk (fn:=fn) (T.fn i (Nat.ble_eq.mp hi)) hcd S hG hp hl fun A outer s H E hr=>hb A outer s H E hr (kJ G (aw k)) (LC hr) (B6 (X:=(fH dZ P w K mg base (nt i) (gG i) (bA (fD i)) (T.a i) (.ref cc) A outer s H E).jL) T IH rfl rfl rfl rfl rfl hr) (BW (X:=(fH dZ P w K mg base (nt i) (gG i) (bA (fD i)) (T.a i) (.ref cc) A outer s H E).jL) T IH rfl rfl rfl rfl rfl hr) (@IB P w K mg base k T IH (fH dZ P w K mg base (nt i) (gG i) (bA (fD i)) (T.a i) (.ref cc) A outer s H E).jL rfl rfl rfl rfl rfl hr) S.nd
set_option hygiene false in
local macro_rules|`(tactic| kd_p)=>`(tactic| refine Xw _ T IH rfl ⟨rfl,rfl,rfl,by decide +kernel,rfl,by decide +kernel,by decide +kernel⟩ rfl rfl rfl fun dC A outer s H E hr m u c cm ck nd=>?_)
set_option hygiene false in
local macro_rules|`(tactic| walk_at"kL")=>`(tactic| refine Vb _ T IH IL rfl ⟨rfl,rfl,rfl,by decide +kernel,rfl,by decide +kernel,by decide +kernel⟩ rfl rfl rfl fun dC A outer s H E hr m u c cm ck nd L=>?_)
set_option hygiene false in
local macro_rules|`(tactic| walk_at"kC")=>`(tactic| refine Uk _ T IH (TC _ (by decide) _ rfl) rfl ⟨rfl,rfl,rfl,by decide +kernel,rfl,by decide +kernel,by decide +kernel⟩ rfl rfl rfl fun A outer s H E hr m u c cm ck nd=>?_)
section
variable {k:Nat}(T:TT K mg)(Z:Zt K mg)(IH:IT P w base T k)
include T Z IH
theorem Vm:OT P w base T k 0:=by kd_p;exact(cc (eO m (vT (zV m (tS (tp (FQ (t:=.str) VX Z.bb0 Z.bb1 (jv 0)))) (wG (eE (o:=.in_) u (jv 0) (jg Z.gg15))))) (cc (cC m jb) c0) c0) (cc (cC m (oP (Iu (o:=.le) (o':=.le) u ji (dW cL dS Z.bb2 (ja (jv 0) an)) (jg Z.gg16)) (oW (dW (iG hr.hd) nA Z.bb3 (ja (lA m (iv (jv 0)) qN (fun _ _ _ _=>(vQ (o:=.in_) u (jv 0) (jg Z.gg17)))) an))))) c0))
theorem Wu:OT P w base T k 1:=by kd_p;exact(cc (cC m (cE (c 2 rfl rfl) (ja (jv 0) (ja (jv 1) (ja (jg Z.gg18) an))))) c0)
theorem Uz:OT P w base T k 2:=by kd_p;exact(cc (eO m (vT (zV m (eE (o:=.lt) u (bN 2) ji) (zV m (tS (tp (FQ (t:=.tuple) gX Z.bb0 Z.bb4 (jv 1)))) (zV m (eE (o:=.lt) u (dW cL dS Z.bb2 (ja (jv 1) an)) ji) (wG (tS (tp (FQ (t:=.str) VX Z.bb0 Z.bb1 (bH (jv 1) ji))))))))) (cc (cC m jb) c0) c0) (cc (eO m (eE (o:=.eq) u (bH (jv 1) ji) js) (cc (cC m (oP (vQ (o:=.eq) u (dW cL dS Z.bb2 (ja (jv 1) an)) ji) (oP (cE (c 0 rfl rfl) (ja (bH (jv 1) ji) an)) (oW (vQ (o:=.in_) u (bH (jv 1) ji) (bN 0)))))) c0) c0) (cc (eO m (vT (zV m (eE (o:=.lS) u (bH (jv 1) ji) (jg Z.gg19)) (wG (eE (o:=.ne) u (dW cL dS Z.bb2 (ja (jv 1) an)) (cV (op:=.add) ji (bH (jg Z.gg19) (bH (jv 1) ji))))))) (cc (cC m jb) c0) c0) (cc (cC m (dW (iG hr.hd) nA Z.bb3 (ja (lA m (iv (P6 (jv 1) (os ji) on)) qN (fun _ _ _ _=>(cE ((c 2 rfl rfl).qQ) (ja (bN 1) (ja (jv 0) (ja (cV (op:=.sub) (bN 2) ji) an)))))) an))) c0))))
theorem Wt:OT P w base T k 3:=by kd_p;exact(cc (eO m (eE (o:=.eq) u (bH (jv 0) ji) js) (cc (cC m (jt m an)) c0) c0) (cc (cC m (P6 (jv 0) (os ji) on)) c0))
theorem Vr:OT P w base T k 4:=by kd_p;exact(cc (sn (i:=1) m nd (jl an)) (cc (sn (i:=2) m nd (Tr Z.bb5 Z.bb6 (ja (jv 0) an))) (cc (sw m (tp (jv 2)) (cc (sn (i:=3) m nd (Xu (jv 2) )) (cc (eO m (vT (Bt m (eE (o:=.in_) u (bH (jv 3) ji) (jg Z.gg20)) (wG (eE (o:=.lS) u (jv 3) (jv 1))))) (cc (sx m (tI (jv 1) (ja (jv 3) an))) c0) c0) (cc (sx m (Tp (jv 2) (ja (Tr Z.bb5 Z.bb6 (ja (cE (c 3 rfl rfl) (ja (jv 3) an)) an)) an))) c0)))) (cc (cC m (jv 1)) c0))))
theorem Uh:OT P w base T k 5:=by kd_p;exact(cc (cC m (oP (FQ (t:=.tuple) gX Z.bb0 Z.bb4 (jv 0)) (oW (Iu (o:=.le) (o':=.le) u (jv 1) (dW cL dS Z.bb2 (ja (jv 0) an)) (jv 2))))) c0)
theorem Ww:OT P w base T k 6:=by kd_p;exact(cc (eO m (vT (zV m (tS (tp (cE (c 5 rfl rfl) (ja (jv 0) (ja ji (ja (jg Z.gg21) an)))))) (wG (tS (tp (cE (c 5 rfl rfl) (ja (jv 1) (ja ji (ja (jg Z.gg21) an))))))))) (cc (cC m jb) c0) c0) (cc (sn (i:=2) m nd (cV (op:=.add) (jv 0) (jv 1))) (cc (cC m (oP (dW (iG hr.hd) nA Z.bb3 (ja (lA m (iv (jv 2)) qN (fun _ _ _ _=>(cE ((c 0 rfl rfl).qQ) (ja (jv 0) an)))) an)) (oW (vQ (o:=.eq) u (Xn Z.bb2 Z.bb7 (ja (jv 2) an)) (dW cL dS Z.bb2 (ja (jv 2) an)))))) c0)))
theorem Wa:OT P w base T k 7:=by kd_p;exact(cc (cC m (oP (cE (c 5 rfl rfl) (ja (jv 1) (ja ji (ja (jv 2) an)))) (oW (dW (iG hr.hd) nA Z.bb3 (ja (lA m (iv (jv 1)) qN (fun _ _ _ _=>(cE ((c 1 rfl rfl).qQ) (ja (bN 1) (ja (jv 0) an))))) an))))) c0)
theorem Vw:OT P w base T k 8:=by kd_p;exact(cc (eO m (eE (o:=.eq) u (bH (jv 1) ji) js) (cc (cC m jb) c0) c0) (cc (eO m (eE (o:=.eq) u (bH (jv 1) ji) js) (cc (cC m (vQ (o:=.in_) u (bH (jv 1) ji) (bN 0))) c0) c0) (cc (cC m (dW (BA hr.hd) LL Z.bb8 (ja (lA m (iv (cE (c 3 rfl rfl) (ja (jv 1) an))) qN (fun _ _ _ _=>(cE ((c 8 rfl rfl).qQ) (ja (bN 1) (ja (jv 0) an))))) an))) c0)))
theorem Wc:OT P w base T k 9:=by kd_p;exact(cc (cC m (oP (cE (c 7 rfl rfl) (ja (jv 0) (ja (jv 2) (ja (jg Z.gg22) an)))) (oW (Cd (dW (BA hr.hd) LL Z.bb8 (ja (lA m (iv (jv 2)) qN (fun _ _ _ _=>(cE ((c 8 rfl rfl).qQ) (ja (bN 1) (ja (jv 0) an))))) an)))))) c0)
theorem Rp:OT P w base T k 10:=by kd_p;exact(cc (cC m (oP (FQ (t:=.int) Nu Z.bb0 Z.bb9 (jv 0)) (oP (Cd (FQ (t:=.bool) RL Z.bb0 Z.bb10 (jv 0))) (oW (Iu (o:=.le) (o':=.le) u ji (jv 0) (jg Z.gg23)))))) c0)
theorem Sm:OT P w base T k 11:=by kd_p;exact(cc (cC m (oP (cE (c 5 rfl rfl) (ja (jv 1) (ja ji (ja ji an)))) (oP (cE (c 10 rfl rfl) (ja (bH (jv 1) ji) an)) (oW (cE (c 1 rfl rfl) (ja (jv 0) (ja (bH (jv 1) ji) an))))))) c0)
theorem Qu:OT P w base T k 12:=by kd_p;exact(cc (cC m (oP (cE (c 5 rfl rfl) (ja (jv 1) (ja ji (ja (jg Z.gg24) an)))) (oW (dW (iG hr.hd) nA Z.bb3 (ja (lA m (iv (jv 1)) qN (fun _ _ _ _=>(cE ((c 11 rfl rfl).qQ) (ja (bN 1) (ja (jv 0) an))))) an))))) c0)
theorem Ot:OT P w base T k 13:=by kd_p;exact(cc (cC m (cV (op:=.add) (cV (op:=.add) (sN FG BL Z.bb5 (ja (jv 0) an)) (sN FG BL Z.bb5 (ja (jv 1) an))) (lA m (iv (jv 2)) qN (fun _ _ _ _=>(bH (jv 0) ji))))) c0)
theorem Qq:OT P w base T k 14:=by kd_p;exact(cc (eO m (vT (zV m (tS (tp (cE (c 5 rfl rfl) (ja (jv 0) (ja ji (ja ji an)))))) (wG (tS (tp (cE (c 6 rfl rfl) (ja (bH (jv 0) ji) (ja (bH (jv 0) ji) an)))))))) (cc (cC m jb) c0) c0) (cc (sn (i:=1) m nd (bH (jv 0) ji)) (cc (sn (i:=2) m nd (cV (op:=.add) (bH (jv 0) ji) (jv 1))) (cc (sn (i:=3) m nd (bH (jv 0) ji)) (cc (sn (i:=4) m nd (bH (jv 0) ji)) (cc (sn (i:=5) m nd (bH (jv 0) ji)) (cc (eO m (vT (zV m (tS (tp (cE (c 9 rfl rfl) (ja (jv 2) (ja (jv 1) (ja (jv 3) an)))))) (wG (tS (tp (cE (c 7 rfl rfl) (ja (jv 2) (ja (jv 4) (ja (jg Z.gg25) an))))))))) (cc (cC m jb) c0) c0) (cc (cC m (oP (cE (c 12 rfl rfl) (ja (jv 2) (ja (jv 5) an))) (oW (vQ (o:=.le) u (dW cL dS Z.bb2 (ja (cE (c 4 rfl rfl) (ja (cE (c 13 rfl rfl) (ja (jv 3) (ja (jv 4) (ja (jv 5) an)))) an)) an)) (jg Z.gg26))))) c0))))))))
theorem Oh:OT P w base T k 15:=by kd_p;exact(cc (eO m (tS (tp (cE (c 14 rfl rfl) (ja (jv 0) an)))) (cc (Tt m) c0) c0) (cc (cC m (jv 0)) c0))
theorem Qb:OT P w base T k 16:=by kd_p;exact(cc (eO m (eE (o:=.eq) u (jv 0) js) (cc (cC m (Cd (bH (jv 1) ji))) c0) c0) (cc (eO m (eE (o:=.eq) u (jv 0) js) (cc (cC m (oP (bH (jv 1) ji) (oW (bH (jv 1) ji)))) c0) c0) (cc (eO m (eE (o:=.eq) u (jv 0) js) (cc (cC m (As (bH (jv 1) ji) (oW (bH (jv 1) ji)))) c0) c0) (cc (eO m (eE (o:=.eq) u (jv 0) js) (cc (cC m (As (bH (jv 1) ji) (oW (Cd (bH (jv 1) ji))))) c0) c0) (cc (eO m (eE (o:=.eq) u (jv 0) js) (cc (cC m (vQ (o:=.eq) u (bH (jv 1) ji) (bH (jv 1) ji))) c0) c0) (cc (cC m (vQ (o:=.eq) u (jv 0) js)) c0))))))
theorem Rv:OT P w base T k 17:=by kd_p;exact(cc (eO m (eE (o:=.eq) u (jv 0) js) (cc (cC m (jv 1)) c0) c0) (cc (eO m (eE (o:=.eq) u (jv 0) js) (cc (cC m (As (jv 1) (oW (bH (jv 2) ji)))) c0) c0) (cc (eO m (eE (o:=.eq) u (jv 0) js) (cc (cC m (oP (jv 1) (oW (bH (jv 2) ji)))) c0) c0) (cc (cC m (As (bH (jv 2) ji) (oW (oP (jv 1) (oW (bH (jv 2) ji)))))) c0))))
theorem Qy:OT P w base T k 18:=by kd_p;exact(cc (zG m (W "Table") Z.cc27 Z.aa30 (bN 0) (jv 1)) (cc (zG m (W "Table") Z.cc27 Z.aa31 (bN 0) (cE (c 4 rfl rfl) (ja (jv 2) an))) (cc (zG m (W "Table") Z.cc27 Z.aa32 (bN 0) (jl an)) (cc (zG m (W "Table") Z.cc27 Z.aa33 (bN 0) Ye) (cc (uN (i:=3) m nd (iv (jv 2)) (cc (sx m (tL (mm:=W "enter") (cm 19 (W "Table") rfl rfl) (bN 0) (ja (jv 3) an))) c0)) (cc (zG m (W "Table") Z.cc27 Z.aa34 (bN 0) (sN gK gX Z.bb4 (ja (lA m (iv (gH (W "Table") Z.cc27 Z.aa31 (bN 0))) qN (fun _ _ _ _=>(vQ (o:=.eq) u (bH (jv 0) ji) js))) an))) (cc (zG m (W "Table") Z.cc27 Z.aa35 (bN 0) (lA m (iv (gH (W "Table") Z.cc27 Z.aa31 (bN 0))) qN (fun _ _ _ _=>(tL (mm:=W "remembered_row") ((cm 21 (W "Table") rfl rfl).qQ) (bN 1) (ja (jv 0) an))))) c0)))))))
theorem Rz:OT P w base T k 19:=by kd_p;exact(cc (eO m (Xs u (jv 1) (gH (W "Table") Z.cc27 Z.aa33 (bN 0))) (cc Xo c0) c0) (cc (uN (i:=2) m nd (iv (cE (c 3 rfl rfl) (ja (jv 1) an))) (cc (sx m (tL (mm:=W "enter") (cm 19 (W "Table") rfl rfl) (bN 0) (ja (jv 2) an))) c0)) (cc (MM (i:=3) m nd (own:=["part"]) (cn:=["self"]) (aL:=[0]) (one:=true) C2 (iv (cE (c 3 rfl rfl) (ja (jv 1) an))) (fun _ _ _ _=>(b1 (gn (show(["part","self"]:List Str).Nodup by decide +kernel)))) (fun _ _ _ _=>qn) (fun _ _ _ _=>(N0 u (gH (W "Table") Z.cc27 Z.aa33 (bN 1)) (jv 0)))) (cc (Ua m u (gH (W "Table") Z.cc27 Z.aa33 (bN 0)) (jv 1) (dW cL dS Z.bb2 (ja (gH (W "Table") Z.cc27 Z.aa32 (bN 0)) an))) (cc (sx m (tI (gH (W "Table") Z.cc27 Z.aa32 (bN 0)) (ja (jt m (ja (bH (jv 1) ji) (ja (tL (mm:=W "place_of") (cm 20 (W "Table") rfl rfl) (bN 0) (ja (jv 1) an)) (ja (jv 3) an)))) an))) c0)))))
theorem Qt:OT P w base T k 20:=by kd_p;exact(cc (eO m (eE (o:=.eq) u (bH (jv 1) ji) js) (cc (cC m (Z7 m u (gH (W "Table") Z.cc27 Z.aa30 (jv 0)) (ja (bH (jv 1) ji) an))) c0) c0) (cc (eO m (eE (o:=.in_) u (bH (jv 1) ji) (jg Z.gg20)) (cc (cC m (Z7 m u (gH (W "Table") Z.cc27 Z.aa31 (jv 0)) (ja (jv 1) an))) c0) c0) (cc (cC m jn) c0)))
theorem Te:OT P w base T k 21:=by kd_p;exact(cc (eO m (eE (o:=.eq) u (bH (jv 1) ji) js) (cc (cC m (N0 u (gH (W "Table") Z.cc27 Z.aa33 (jv 0)) (bH (jv 1) ji))) c0) c0) (cc (cC m (N0 u (gH (W "Table") Z.cc27 Z.aa33 (jv 0)) (jv 1))) c0))
theorem Og:OT P w base T k 22:=by kd_p;exact(cc (vY (i:=3) m nd (jl an)) (cc (sf m (iv (gH (W "Table") Z.cc27 Z.aa32 (jv 0))) (gt (gc (gn (i:=4) nd) (gc (gn (i:=5) nd) (gc (gn (i:=6) nd) nn)))) (cc (MM (i:=7) m nd (own:=["row"]) (cn:=["held"]) (aL:=[3]) (one:=true) C2 (iv (jv 6)) (fun _ _ _ _=>(b1 (gn (show(["row","held"]:List Str).Nodup by decide +kernel)))) (fun _ _ _ _=>qn) (fun _ _ _ _=>(bH (bN 1) (jv 0)))) (cc (eO m (eE (o:=.eq) u (jv 4) js) (cc (sx m (tI (bN 3) (ja (bH (jv 2) (jv 5)) an))) c0) (cc (eO m (eE (o:=.in_) u (jv 4) (jg Z.gg20)) (cc (sx m (tI (bN 3) (ja (cE (c 17 rfl rfl) (ja (jv 4) (ja (bH (jv 1) (jv 5)) (ja (jv 7) an)))) an))) c0) (cc (sx m (tI (bN 3) (ja (cE (c 16 rfl rfl) (ja (jv 4) (ja (jv 7) an))) an))) c0)) c0)) c0))) (cc (cC m (bN 3)) c0)))
theorem Rh:OT P w base T k 23:=by kd_p;exact(cc (cC m (sN gK gX Z.bb4 (ja (lA m (iv (gH (W "Table") Z.cc27 Z.aa35 (jv 0))) qN (fun _ _ _ _=>(bH (bN 1) (jv 0)))) an))) c0)
theorem Rc:OT P w base T k 24:=by kd_p;exact(cc (zG m (W "Rules") Z.cc28 Z.aa36 (bN 0) (Ay (ck 18 (W "Table") rfl rfl) (ja (cV (op:=.add) (bH (jv 1) ji) (bH (jv 1) ji)) (ja (cE (c 13 rfl rfl) (ja (bH (jv 1) ji) (ja (bH (jv 1) ji) (ja (bH (jv 1) ji) an)))) an)))) (cc (zG m (W "Rules") Z.cc28 Z.aa37 (bN 0) (lA m (iv (bH (jv 1) ji)) qN (fun _ _ _ _=>(N0 u (gH (W "Table") Z.cc27 Z.aa33 (gH (W "Rules") Z.cc28 Z.aa36 (bN 1))) (jv 0))))) (cc (zG m (W "Rules") Z.cc28 Z.aa38 (bN 0) (lA m (iv (bH (jv 1) ji)) qN (fun _ _ _ _=>(N0 u (gH (W "Table") Z.cc27 Z.aa33 (gH (W "Rules") Z.cc28 Z.aa36 (bN 1))) (jv 0))))) (cc (zG m (W "Rules") Z.cc28 Z.aa39 (bN 0) (lA m (iv (bH (jv 1) ji)) qN (fun _ _ _ _=>(jt m (ja (bH (jv 0) ji) (ja (N0 u (gH (W "Table") Z.cc27 Z.aa33 (gH (W "Rules") Z.cc28 Z.aa36 (bN 1))) (bH (jv 0) ji)) an)))))) c0))))
theorem So:OT P w base T k 25:=by kd_p;exact(cc (cC m (dW (iG hr.hd) nA Z.bb3 (ja (lA m (iv (gH (W "Rules") Z.cc28 Z.aa37 (jv 0))) qN (fun _ _ _ _=>(bH (bN 1) (jv 0)))) an))) c0)
theorem Ol:OT P w base T k 26:=by kd_p;exact(cc (cC m (dW (iG hr.hd) nA Z.bb3 (ja (lA m (iv (gH (W "Rules") Z.cc28 Z.aa38 (jv 0))) qN (fun _ _ _ _=>(bH (bN 1) (jv 0)))) an))) c0)
theorem Rm:OT P w base T k 27:=by kd_p;exact(cc (cC m (dW (UW hr.hd) Ji Z.bb11 (ja (Kv m (own:=["price", "row"]) (cn:=["held"]) (aL:=[1]) (one:=false) C2 (iv (gH (W "Rules") Z.cc28 Z.aa39 (jv 0))) (fun _ _ _ _=>(bt (gc (gn (i:=0) (show(["price", "row","held"]:List Str).Nodup by decide +kernel)) (gc (gn (i:=1) (show(["price","row","held"]:List Str).Nodup by decide +kernel)) nn)))) (fun _ _ _ _=>(qc (tS (tp (bH (bN 2) (jv 1)))) qn)) (fun _ _ _ _=>(jv 0))) an))) c0)
theorem Ph:OT P w base T k 28:=by kd_p;exact(cc (cC m (oP (FQ (t:=.tuple) gX Z.bb0 Z.bb4 (jv 0)) (oP (vQ (o:=.eq) u (dW cL dS Z.bb2 (ja (jv 0) an)) (jv 1)) (oW (dW (iG hr.hd) nA Z.bb3 (ja (lA m (iv (jv 0)) qN (fun _ _ _ _=>(FQ (t:=.bool) RL Z.bb0 Z.bb10 (jv 0)))) an)))))) c0)
theorem Of:OT P w base T k 29:=by kd_p;exact(cc (vY (i:=2) m nd (cV (op:=.add) (dW cL dS Z.bb2 (ja (bH (jv 0) ji) an)) (dW cL dS Z.bb2 (ja (bH (jv 0) ji) an)))) (cc (eO m (vT (zV m (tS (tp (FQ (t:=.list) BL Z.bb0 Z.bb5 (jv 1)))) (wG (tS (tp (dW (iG hr.hd) nA Z.bb3 (ja (lA m (iv (jv 1)) qN (fun _ _ _ _=>(cE ((c 28 rfl rfl).qQ) (ja (jv 0) (ja (bN 1) an))))) an))))))) (cc (Tt m) c0) c0) (cc (cC m (jv 1)) c0)))
theorem Ov(IL:Ie P w K mg base k):OT P w base T k 30:=by walk_at"kL";exact(cc (sn (i:=3) m nd (jl an)) (cc (sn (i:=4) m nd (gH (W "Table") Z.cc27 Z.aa34 (jv 0))) (cc (uN (i:=5) m nd (iv (jv 1)) (cc (sn (i:=6) m nd (tL (mm:=W "held_at") (cm 22 (W "Table") rfl rfl) (jv 0) (ja (jv 4) (ja (jv 5) an)))) (cc (sx m (tI (jv 3) (ja (Ya 2 L (ja (jv 6) an)) an))) (cc (sn (i:=4) m nd (tL (mm:=W "memory_after") (cm 23 (W "Table") rfl rfl) (jv 0) (ja (jv 6) an))) c0)))) (cc (cC m (jv 3)) c0))))
theorem Qk:OT P w base T k 31:=by kd_p;exact(cc (eO m (eE (o:=.in_) u jb (jv 0)) (cc (cC m (Z7 m u (jv 0) (ja jb an))) c0) c0) (cc (cC m jn) c0))
theorem Sh(B:vJ mg base)(TC:∀ i,i<55->∀ c,U8 i=some c->(T.fd i).code=.ref c):OT P w base T k 32:=by walk_at"kC";exact(cc (sx m (cE (c 15 rfl rfl) (ja (jv 0) an))) (cc (sx m (cE (c 29 rfl rfl) (ja (jv 0) (ja (jv 1) an)))) (cc (vY (i:=2) m nd (Ay (ck 24 (W "Rules") rfl rfl) (ja (jv 0) an))) (cc (sn (i:=3) m nd (Xp eZ (c 30 rfl rfl) (gH (W "Rules") Z.cc28 Z.aa36 (bN 2)) (jv 1) B rfl rfl (fun _=>rfl))) (cc (cC m (jt m (ja (cE (c 31 rfl rfl) (ja (lA m (iv (jv 3)) qN (fun _ _ _ _=>(bH (jv 0) ji))) an)) (ja (cE (c 31 rfl rfl) (ja (lA m (iv (jv 3)) qN (fun _ _ _ _=>(bH (jv 0) ji))) an)) an)))) c0)))))
theorem Pk:OT P w base T k 33:=by kd_p;exact(cc (sn (i:=1) m nd (jl (ja (jt m an) an))) (cc (uN (i:=2) m nd (NA m Z.bb12 (ja (dW cL dS Z.bb2 (ja (jv 0) an)) an)) (cc (sn (i:=3) m nd (jl an)) (cc (uN (i:=4) m nd (iv (jv 1)) (cc (sx m (tI (jv 3) (ja (cV (op:=.add) (jv 4) (jt m (ja jb an))) an))) (cc (sx m (tI (jv 3) (ja (cV (op:=.add) (jv 4) (jt m (ja jb an))) an))) c0))) (cc (sn (i:=1) m nd (jv 3)) c0)))) (cc (cC m (jv 1)) c0)))
theorem Qn:OT P w base T k 34:=by kd_p;exact(cc (zG m (W "Numbering") Z.cc29 Z.aa40 (jv 0) (jl (ja (jv 1) an))) (cc (zG m (W "Numbering") Z.cc29 Z.aa41 (jv 0) (Xx u (jv 1) ji)) c0))
theorem Qj:OT P w base T k 35:=by kd_p;exact(cc (eO m (Yb u (jv 1) (gH (W "Numbering") Z.cc29 Z.aa41 (jv 0))) (cc (Ua m u (gH (W "Numbering") Z.cc29 Z.aa41 (jv 0)) (jv 1) (dW cL dS Z.bb2 (ja (gH (W "Numbering") Z.cc29 Z.aa40 (jv 0)) an))) (cc (sx m (tI (gH (W "Numbering") Z.cc29 Z.aa40 (jv 0)) (ja (jv 1) an))) c0)) c0) (cc (cC m (N0 u (gH (W "Numbering") Z.cc29 Z.aa41 (jv 0)) (jv 1))) c0))
theorem Pe:OT P w base T k 36:=by kd_p;exact(cc (vY (i:=3) m nd (bH (cE (c 33 rfl rfl) (ja (bH (jv 0) ji) an)) ji)) (cc (cC m (lA m (iv (cE (c 33 rfl rfl) (ja (bH (jv 0) ji) an))) (fun _ _ _ _=>(qc (tp (tL (mm:=W "foe_keeps") ((cm 25 (W "Rules") rfl rfl).qQ) (bN 1) (ja (tL (mm:=W "held_at") ((cm 22 (W "Table") rfl rfl).qQ) (gH (W "Rules") Z.cc28 Z.aa36 (bN 1)) (ja (bN 2) (ja (cV (op:=.add) (jv 0) (bN 3)) an))) an))) qn)) (fun _ _ _ _=>(jv 0)))) c0))
theorem Sk:OT P w base T k 37:=by kd_p;exact(cc (sn (i:=5) m nd (jl an)) (cc (uN (i:=6) m nd (iv (cE (c 33 rfl rfl) (ja (bH (jv 0) ji) an))) (cc (sn (i:=7) m nd (tL (mm:=W "held_at") (cm 22 (W "Table") rfl rfl) (gH (W "Rules") Z.cc28 Z.aa36 (jv 1)) (ja (jv 3) (ja (cV (op:=.add) (jv 4) (jv 6)) an)))) (cc (eO m (tp (tL (mm:=W "friend_keeps") (cm 26 (W "Rules") rfl rfl) (jv 1) (ja (jv 7) an))) (cc (sn (i:=8) m nd (tL (mm:=W "number_of") (cm 35 (W "Numbering") rfl rfl) (jv 2) (ja (tL (mm:=W "memory_after") (cm 23 (W "Table") rfl rfl) (gH (W "Rules") Z.cc28 Z.aa36 (jv 1)) (ja (jv 7) an)) an))) (cc (sx m (tI (jv 5) (ja (jt m (ja (jv 6) (ja (tL (mm:=W "loss_at") (cm 27 (W "Rules") rfl rfl) (jv 1) (ja (jv 7) an)) (ja (jv 8) an)))) an))) c0)) c0) c0))) (cc (cC m (sN gK gX Z.bb4 (ja (jv 5) an))) c0)))
theorem Ql:OT P w base T k 38:=by kd_p;exact(cc (sx m (cE (c 15 rfl rfl) (ja (jv 0) an))) (cc (sn (i:=1) m nd (Ay (ck 24 (W "Rules") rfl rfl) (ja (jv 0) an))) (cc (sn (i:=2) m nd (Ay (ck 34 (W "Numbering") rfl rfl) (ja (gH (W "Table") Z.cc27 Z.aa34 (gH (W "Rules") Z.cc28 Z.aa36 (jv 1))) an))) (cc (sn (i:=3) m nd (jl an)) (cc (sw m (eE (o:=.lt) u (dW cL dS Z.bb2 (ja (jv 3) an)) (dW cL dS Z.bb2 (ja (gH (W "Numbering") Z.cc29 Z.aa40 (jv 2)) an))) (cc (sn (i:=4) m nd (bH (gH (W "Numbering") Z.cc29 Z.aa40 (jv 2)) (dW cL dS Z.bb2 (ja (jv 3) an)))) (cc (sn (i:=5) m nd (jl an)) (cc (uN (i:=6) m nd (iv (cE (c 36 rfl rfl) (ja (jv 0) (ja (jv 1) (ja (jv 4) an))))) (cc (sx m (tI (jv 5) (ja (jt m (ja (jv 6) (ja (cE (c 37 rfl rfl) (ja (jv 0) (ja (jv 1) (ja (jv 2) (ja (jv 4) (ja (jv 6) an)))))) an))) an))) c0)) (cc (sx m (tI (jv 3) (ja (jt m (ja (jv 4) (ja (sN gK gX Z.bb4 (ja (jv 5) an)) an))) an))) c0))))) (cc (cC m (jv 3)) c0))))))
theorem Su:OT P w base T k 39:=by kd_p;exact(cc (cC m (dW (iG hr.hd) nA Z.bb3 (ja (lA m (iv (bH (jv 0) ji)) qN (fun _ _ _ _=>(oP (vQ (o:=.isnot) u (bH (bN 1) (bH (jv 0) ji)) jn) (oW (vQ (o:=.lt) u (bH (bN 1) (bH (jv 0) ji)) (bN 2)))))) an))) c0)
theorem Oi:OT P w base T k 40:=by kd_p;exact(cc (vY (i:=1) m nd (lA m (iv (jv 0)) qN (fun _ _ _ _=>jn))) (cc (vY (i:=2) m nd ji) (cc (sw m (tp jb) (cc (MM (i:=3) m nd (own:=["number","node"]) (cn:=["lost","turns"]) (aL:=[1,2]) (one:=false) C2 (Xl m Z.bb13 (ja (jv 0) an)) (fun _ _ _ _=>(bt (gc (gn (i:=0) (show(["number","node","lost","turns"]:List Str).Nodup by decide +kernel)) (gc (gn (i:=1) (show(["number","node","lost","turns"]:List Str).Nodup by decide +kernel)) nn)))) (fun _ _ _ _=>(qc (vT (Bt m (eE (o:=.is_) u (bH (bN 2) (jv 0)) jn) (wG (tp (dW (BA hr.hd) LL Z.bb8 (ja (lA m (iv (bH (jv 1) ji)) qN (fun _ _ _ _=>(cE ((c 39 rfl rfl).qQ.qQ) (ja (jv 0) (ja (bN 1) (ja (bN 2) an)))))) an)))))) qn)) (fun _ _ _ _=>(jv 0))) (cc (eO m (tS (tp (jv 3))) (cc (cC m (bN 1)) c0) c0) (cc (uN (i:=4) m nd (iv (jv 3)) (cc (sg m (bN 2) (gi (bN 1) (jv 4))) c0)) (cc (vY (i:=2) m nd (cV (op:=.add) (bN 2) ji)) c0))))) c0)))
theorem Oz:OT P w base T k 41:=by kd_p;exact(cc (cC m (cE (c 40 rfl rfl) (ja (cE (c 38 rfl rfl) (ja (jv 0) an)) an))) c0)
theorem Sw:OT P w base T k 42:=by kd_p;exact(cc (eO m (eE (o:=.is_) u (bN 2) jn) (cc (cC m jn) c0) c0) (cc (cC m (bH (lA m (iv (jv 0)) (fun _ _ _ _=>(qc (tp (cE ((c 39 rfl rfl).qQ) (ja (jv 0) (ja (bN 1) (ja (bN 2) an))))) qn)) (fun _ _ _ _=>(bH (jv 0) ji))) ji)) c0))
theorem Pa:OT P w base T k 43:=by kd_p;exact(cc (sn (i:=1) m nd (cE (c 38 rfl rfl) (ja (jv 0) an))) (cc (vY (i:=2) m nd (cE (c 40 rfl rfl) (ja (jv 1) an))) (cc (cC m (Kv m (own:=["node","turns"]) (cn:=["lost"]) (aL:=[2]) (one:=false) C2 (Xk m Z.bb14 (ja (jv 1) (ja (bN 2) an))) (fun _ _ _ _=>(bt (gc (gn (i:=0) (show(["node","turns","lost"]:List Str).Nodup by decide +kernel)) (gc (gn (i:=1) (show(["node","turns","lost"]:List Str).Nodup by decide +kernel)) nn)))) (fun _ _ _ _=>qn) (fun _ _ _ _=>(cE ((c 42 rfl rfl).qQ) (ja (bH (jv 0) ji) (ja (bN 2) (ja (jv 1) an))))))) c0)))
theorem Tn:OT P w base T k 44:=by kd_p;exact(cc (eO m (eE (o:=.lt) u (jv 1) (dW cL dS Z.bb2 (ja (jv 0) an))) (cc (cC m (bH (jv 0) (jv 1))) c0) c0) (cc (eO m (eE (o:=.eq) u (jv 0) (jl an)) (cc (cC m ji) c0) c0) (cc (cC m (cV (op:=.add) (cV (op:=.mul) (bH (jv 0) (cV (op:=.mod) (jv 1) (dW cL dS Z.bb2 (ja (jv 0) an)))) ji) (jv 1))) c0)))
theorem Pd:OT P w base T k 45:=by kd_p;exact(cc (sn (i:=3) m nd (cV (op:=.mod) (cV (op:=.mul) (cV (op:=.add) (cV (op:=.add) (cE (c 44 rfl rfl) (ja (jv 0) (ja (jv 1) an))) (cV (op:=.mul) ji (jv 1))) ji) ji) ji)) (cc (cC m (cV (op:=.mod) (cV (op:=.mod) (cV (op:=.add) (cV (op:=.add) (cV (op:=.mul) (jv 3) (jv 3)) (cV (op:=.mul) ji (jv 3))) (jv 1)) ji) (jv 2))) c0))
theorem Sn:OT P w base T k 46:=by kd_p;exact(cc (sg m (cV (op:=.add) (bH (jv 1) ji) ji) (gi (jv 1) ji)) (cc (cC m (cE (c 45 rfl rfl) (ja (jv 0) (ja (bH (jv 1) ji) (ja (jv 2) an))))) c0))
theorem Tf:OT P w base T k 47:=by kd_p;exact(cc (sn (i:=2) m nd (jl (ja js (ja js (ja js (ja js (ja js (ja js (ja js (ja js an)))))))))) (cc (sn (i:=3) m nd (cE (c 46 rfl rfl) (ja (jv 0) (ja (jv 1) (ja ji an))))) (cc (sn (i:=4) m nd (cV (op:=.add) (P6 (jv 2) (os (jv 3)) on) (P6 (jv 2) on (os (jv 3))))) (cc (sn (i:=5) m nd (cV (op:=.add) ji (cE (c 46 rfl rfl) (ja (jv 0) (ja (jv 1) (ja ji an)))))) (cc (sn (i:=6) m nd (cV (op:=.add) ji (cE (c 46 rfl rfl) (ja (jv 0) (ja (jv 1) (ja ji an)))))) (cc (cC m (jt m (ja (sN gK gX Z.bb4 (ja (P6 (jv 4) on (os (jv 5))) an)) (ja (sN gK gX Z.bb4 (ja (P6 (jv 4) (os (jv 5)) (os (cV (op:=.add) (jv 5) (jv 6)))) an)) an)))) c0))))))
theorem Sd:OT P w base T k 48:=by kd_p;exact(cc (sn (i:=5) m nd (cE (c 46 rfl rfl) (ja (jv 0) (ja (jv 1) (ja ji an))))) (cc (eO m (vT (zV m (eE (o:=.eq) u (jv 3) ji) (wG (eE (o:=.lt) u (jv 5) ji)))) (cc (cC m (jt m (ja js (ja (bH (jv 2) (cE (c 46 rfl rfl) (ja (jv 0) (ja (jv 1) (ja (dW cL dS Z.bb2 (ja (jv 2) an)) an))))) an)))) c0) c0) (cc (eO m (eE (o:=.eq) u (jv 5) ji) (cc (cC m (jt m (ja (bH (jl (ja js (ja js an))) (cE (c 46 rfl rfl) (ja (jv 0) (ja (jv 1) (ja ji an))))) an))) c0) c0) (cc (eO m (vT (Bt m (eE (o:=.gt) u (jv 5) ji) (wG (eE (o:=.gt) u (bH (jv 4) ji) ji)))) (cc (sg m (cV (op:=.sub) (bH (jv 4) ji) ji) (gi (jv 4) ji)) (cc (sn (i:=6) m nd (cE (c 48 rfl rfl) (ja (jv 0) (ja (jv 1) (ja (jv 2) (ja (cV (op:=.sub) (jv 3) ji) (ja (jv 4) an))))))) (cc (eO m (eE (o:=.eq) u (jv 5) ji) (cc (cC m (jt m (ja js (ja (jv 6) (ja (cE (c 48 rfl rfl) (ja (jv 0) (ja (jv 1) (ja (jv 2) (ja (cV (op:=.sub) (jv 3) ji) (ja (jv 4) an)))))) an))))) c0) c0) (cc (cC m (jt m (ja (bH (jl (ja js (ja js (ja js an)))) (cV (op:=.sub) (jv 5) ji)) (ja (jv 6) an)))) c0)))) c0) (cc (sn (i:=6) m nd (cE (c 48 rfl rfl) (ja (jv 0) (ja (jv 1) (ja (jv 2) (ja (cV (op:=.sub) (jv 3) ji) (ja (jv 4) an))))))) (cc (eO m (vT (zV m (eE (o:=.eq) u (jv 5) ji) (wG (eE (o:=.gt) u (jv 5) ji)))) (cc (cC m (jt m (ja js (ja (jv 6) an)))) c0) c0) (cc (cC m (jt m (ja (bH (jl (ja js (ja js (ja js (ja js an))))) (cV (op:=.sub) (jv 5) ji)) (ja (jv 6) (ja (cE (c 48 rfl rfl) (ja (jv 0) (ja (jv 1) (ja (jv 2) (ja (cV (op:=.sub) (jv 3) ji) (ja (jv 4) an)))))) an))))) c0)))))))
theorem Rn:OT P w base T k 49:=by kd_p;exact(cc (sn (i:=5) m nd (cE (c 48 rfl rfl) (ja (jv 0) (ja (jv 1) (ja (jv 2) (ja ji (ja (jl (ja ji an)) an))))))) (cc (eO m (vT (Bt m (eE (o:=.gt) u (bH (jv 4) ji) ji) (wG (eE (o:=.eq) u (cE (c 46 rfl rfl) (ja (jv 0) (ja (jv 1) (ja ji an)))) ji)))) (cc (sg m (cV (op:=.sub) (bH (jv 4) ji) ji) (gi (jv 4) ji)) (cc (sn (i:=6) m nd (cE (c 48 rfl rfl) (ja (jv 0) (ja (jv 1) (ja (jv 3) (ja ji (ja (jl (ja ji an)) an))))))) (cc (cC m (jt m (ja (bH (jl (ja js (ja js (ja js an)))) (cE (c 46 rfl rfl) (ja (jv 0) (ja (jv 1) (ja ji an))))) (ja (jt m (ja js (ja (jv 6) an))) (ja (jv 5) an))))) c0))) c0) (cc (cC m (jv 5)) c0)))
theorem Se:OT P w base T k 50:=by kd_p;exact(cc (vY (i:=4) m nd (jl (ja (jv 1) an))) (cc (sg m (cE (c 47 rfl rfl) (ja (bN 0) (ja (bN 4) an))) (gt (gc (Xj (i:=5) nd) (gc (gn (i:=6) nd) nn)))) (cc (vY (i:=7) m nd (cV (op:=.add) (bN 5) (jv 6))) (cc (vY (i:=8) m nd (jl (ja (cE (c 46 rfl rfl) (ja (bN 0) (ja (bN 4) (ja (cV (op:=.add) (jv 2) ji) an)))) an))) (cc (sn (i:=9) m nd (jl an)) (cc (uN (i:=10) m nd (NA m Z.bb12 (ja (cV (op:=.add) ji (cE (c 46 rfl rfl) (ja (bN 0) (ja (bN 4) (ja ji an))))) an)) (cc (sn (i:=11) m nd (cV (op:=.add) ji (cE (c 46 rfl rfl) (ja (bN 0) (ja (bN 4) (ja (bH (jl (ja ji (ja ji (ja ji an)))) (cE (c 46 rfl rfl) (ja (bN 0) (ja (bN 4) (ja ji an))))) an)))))) (cc (sx m (tI (jv 9) (ja (jt m (ja (jv 11) (ja (cE (c 48 rfl rfl) (ja (bN 0) (ja (bN 4) (ja (bN 7) (ja ji (ja (bN 8) an)))))) an))) an))) c0))) (cc (MM (i:=12) m nd (own:=["_law_k"]) (cn:=["_law_script","_law_m","_law_names_here","_law_left"]) (aL:=[0,4,7,8]) (one:=true) C2 (NA m Z.bb12 (ja (cE (c 46 rfl rfl) (ja (bN 0) (ja (bN 4) (ja (cV (op:=.add) (jv 3) ji) an)))) an)) (fun _ _ _ _=>(b1 (gn (show(["_law_k","_law_script","_law_m","_law_names_here","_law_left"]:List Str).Nodup by decide +kernel)))) (fun _ _ _ _=>qn) (fun _ _ _ _=>(cE ((c 48 rfl rfl).qQ) (ja (bN 1) (ja (bN 2) (ja (bN 3) (ja ji (ja (bN 4) an)))))))) (cc (MM (i:=13) m nd (own:=["_law_k"]) (cn:=["_law_script","_law_m","_law_foe","_law_names_here","_law_left"]) (aL:=[0,4,5,7,8]) (one:=true) C2 (NA m Z.bb12 (ja (cE (c 46 rfl rfl) (ja (bN 0) (ja (bN 4) (ja ji an)))) an)) (fun _ _ _ _=>(b1 (gn (show(["_law_k","_law_script","_law_m","_law_foe","_law_names_here","_law_left"]:List Str).Nodup by decide +kernel)))) (fun _ _ _ _=>qn) (fun _ _ _ _=>(cE ((c 49 rfl rfl).qQ) (ja (bN 1) (ja (bN 2) (ja (bN 3) (ja (bN 4) (ja (bN 5) an)))))))) (cc (cC m (jt m (ja (bN 5) (ja (jv 6) (ja (sN gK gX Z.bb4 (ja (jv 13) an)) (ja (sN gK gX Z.bb4 (ja (jv 12) an)) (ja (sN gK gX Z.bb4 (ja (jv 9) an)) an))))))) c0)))))))))
theorem Sg:OT P w base T k 51:=by kd_p;exact(cc (sn (i:=1) m nd (jl (ja (jt m an) an))) (cc (uN (i:=2) m nd (NA m Z.bb12 (ja (jv 0) an)) (cc (sn (i:=3) m nd (jl an)) (cc (uN (i:=4) m nd (iv (jv 1)) (cc (sx m (Tp (jv 3) (ja (jl (ja (cV (op:=.add) (jv 4) (jt m (ja jb an))) (ja (cV (op:=.add) (jv 4) (jt m (ja jb an))) an))) an))) c0)) (cc (sn (i:=1) m nd (jv 3)) c0)))) (cc (cC m (jv 1)) c0)))
theorem Sv:OT P w base T k 52:=by kd_p;exact(cc (uN (i:=3) m nd (iv (cE (c 51 rfl rfl) (ja (dW cL dS Z.bb2 (ja (bH (jv 0) ji) an)) an))) (cc (eO m (eE (o:=.ne) u (cE (c 32 rfl rfl) (ja (jv 0) (ja (cV (op:=.add) (jv 1) (jl (ja (cV (op:=.add) (jv 2) (jv 3)) an))) an))) (jt m (ja jn (ja (dW cL dS Z.bb2 (ja (jv 1) an)) an)))) (cc (cC m jb) c0) c0) c0)) (cc (cC m jb) c0))
theorem Ou:OT P w base T k 53:=by kd_p;exact(cc (sn (i:=3) m nd (cE (c 41 rfl rfl) (ja (jv 0) an))) (cc (sn (i:=4) m nd (cE (c 43 rfl rfl) (ja (jv 0) an))) (cc (sn (i:=5) m nd ji) (cc (sn (i:=6) m nd (jl an)) (cc (uN (i:=7) m nd (NA m Z.bb12 (ja (bH (jv 3) ji) an)) (cc (vY (i:=8) m nd (bH (jv 4) (jv 5))) (cc (MM (i:=9) m nd (own:=["_law_move"]) (cn:=["_law_foe"]) (aL:=[8]) (one:=true) C2 (iv (bH (bH (jv 1) (jv 5)) ji)) (fun _ _ _ _=>(b1 (gn (show(["_law_move","_law_foe"]:List Str).Nodup by decide +kernel)))) (fun _ _ _ _=>(qc (eE (o:=.eq) u (bH (jv 0) ji) (bN 1)) qn)) (fun _ _ _ _=>(bH (jv 0) ji))) (cc (eO m (eE (o:=.eq) u (jv 9) (jl an)) (cc (cC m jb) c0) c0) (cc (eO m (eE (o:=.eq) u (bH (jv 9) ji) (jt m an)) (cc (cC m (cE (c 52 rfl rfl) (ja (jv 0) (ja (jv 6) (ja (bN 8) an))))) c0) c0) (cc (sg m (bH (bH (jv 9) ji) (cV (op:=.mod) (cV (op:=.fdiv) (cV (op:=.add) (jv 2) (cV (op:=.mul) ji (jv 7))) ji) (dW cL dS Z.bb2 (ja (bH (jv 9) ji) an)))) (gt (gc (gn (i:=10) nd) (gc (gn (i:=11) nd) (gc (gn (i:=5) nd) nn))))) (cc (sx m (tI (jv 6) (ja (cV (op:=.add) (bN 8) (jv 10)) an))) c0))))))) (cc (cC m jb) c0))))))
theorem Ss:OT P w base T k 54:=by kd_p;exact(cc (sn (i:=1) m nd (cE (c 50 rfl rfl) (ja (jv 0) (ja ji (ja ji (ja ji an)))))) (cc (sn (i:=2) m nd (cE (c 38 rfl rfl) (ja (jv 1) an))) (cc (vY (i:=3) m nd (cE (c 41 rfl rfl) (ja (jv 1) an))) (cc (sn (i:=4) m nd (cE (c 45 rfl rfl) (ja (jv 0) (ja ji (ja (cV (op:=.pow) ji ji) an))))) (cc (eO m (eE (o:=.isnot) u (bH (bN 3) ji) jn) (cc (cC m (cE (c 53 rfl rfl) (ja (jv 1) (ja (jv 2) (ja (jv 4) an))))) c0) c0) (cc (sn (i:=5) m nd ji) (cc (sn (i:=6) m nd (jl an)) (cc (uN (i:=7) m nd (NA m Z.bb12 (ja ji an)) (cc (sn (i:=8) m nd (bH (bH (jv 2) (jv 5)) ji)) (cc (eO m (eE (o:=.ne) u (jv 8) (jt m an)) (cc (sn (i:=9) m nd (cV (op:=.mod) (cV (op:=.mul) (cV (op:=.add) (cV (op:=.add) (jv 4) (cV (op:=.mul) (cV (op:=.mul) ji (jv 7)) (jv 7))) (cV (op:=.mul) ji (jv 7))) ji) ji)) (cc (sg m (bH (jv 8) (cV (op:=.mod) (cV (op:=.fdiv) (jv 9) ji) (dW cL dS Z.bb2 (ja (jv 8) an)))) (gt (gc (gn (i:=10) nd) (gc (gn (i:=11) nd) nn)))) (cc (MM (i:=12) m nd (own:=["_law_answer"]) (cn:=["_law_ranks"]) (aL:=[3]) (one:=true) C2 (iv (jv 11)) (fun _ _ _ _=>(b1 (gn (show(["_law_answer","_law_ranks"]:List Str).Nodup by decide +kernel)))) (fun _ _ _ _=>(qc (eE (o:=.is_) u (bH (bN 1) (bH (jv 0) ji)) jn) qn)) (fun _ _ _ _=>(jv 0))) (cc (eO m (eE (o:=.eq) u (jv 12) (jl an)) (cc (cC m jb) c0) c0) (cc (sg m (bH (jv 12) (cV (op:=.mod) (cV (op:=.fdiv) (jv 9) ji) (dW cL dS Z.bb2 (ja (jv 12) an)))) (gt (gc (gn (i:=13) nd) (gc (gn (i:=14) nd) (gc (gn (i:=5) nd) nn))))) (cc (sx m (tI (jv 6) (ja (cV (op:=.add) (jv 10) (jv 13)) an))) c0)))))) c0) c0))) (cc (cC m (vQ (o:=.eq) u (cE (c 32 rfl rfl) (ja (jv 1) (ja (jv 6) an))) (jt m (ja jn (ja jn an))))) c0)))))))))
theorem Pg:pX P w K mg base (2*k+1+1) (aH G (k+1)) 55 :=Gu (T:=eZ) (n:=2) (x:=(.tup [(.mcl (W "Rules") (W "foe_keeps") jU (.v 0) [(.v 1)]),(.mcl (W "Rules") (W "friend_keeps") iE (.v 0) [(.v 1)])])) rfl Z5 rfl rfl (fun _ _ _ _ us hl=>match us,hl with|[_],_=>rfl) fun clos a c' A outer s H hr=>by have m:=kJ G (aw k);have u:=LC hr;have c:=B6 (X:=UM P w K mg base eZ clos a c' A outer s H) T IH rfl rfl rfl rfl rfl hr;have cm:=BW (X:=UM P w K mg base eZ clos a c' A outer s H) T IH rfl rfl rfl rfl rfl hr;exact(jt m (ja (tL (mm:=W "foe_keeps") (cm 25 (W "Rules") rfl rfl) (Tz 0) (ja (jv 1) an)) (ja (tL (mm:=W "friend_keeps") (cm 26 (W "Rules") rfl rfl) (Tz 0) (ja (jv 1) an)) an)))
theorem Wm:∀ f Tx,LT f=some Tx->pX P w K mg base (2*k+1+1) (aH G (k+1)) f:=by
 intro f Tx h;unfold LT at h;split at h;·exact Pg T Z IH
 ·cases h
end
theorem Yc {k:Nat}(T:TT K mg)(Z:Zt K mg)(B:vJ mg base)(TC:∀ i,i<55->∀ c,U8 i=some c->(T.fd i).code=.ref c)(IH:IT P w base T k)(IL:Ie P w K mg base k):∀ i,i<55->OT P w base T k i|0,_=>Vm T Z IH|1,_=>Wu T Z IH|2,_=>Uz T Z IH|3,_=>Wt T Z IH|4,_=>Vr T Z IH|5,_=>Uh T Z IH|6,_=>Ww T Z IH|7,_=>Wa T Z IH|8,_=>Vw T Z IH|9,_=>Wc T Z IH|10,_=>Rp T Z IH|11,_=>Sm T Z IH|12,_=>Qu T Z IH|13,_=>Ot T Z IH|14,_=>Qq T Z IH|15,_=>Oh T Z IH|16,_=>Qb T Z IH|17,_=>Rv T Z IH|18,_=>Qy T Z IH|19,_=>Rz T Z IH|20,_=>Qt T Z IH|21,_=>Te T Z IH|22,_=>Og T Z IH|23,_=>Rh T Z IH|24,_=>Rc T Z IH|25,_=>So T Z IH|26,_=>Ol T Z IH|27,_=>Rm T Z IH|28,_=>Ph T Z IH|29,_=>Of T Z IH|30,_=>Ov T Z IH IL|31,_=>Qk T Z IH|32,_=>Sh T Z IH B TC|33,_=>Pk T Z IH|34,_=>Qn T Z IH|35,_=>Qj T Z IH|36,_=>Pe T Z IH|37,_=>Sk T Z IH|38,_=>Ql T Z IH|39,_=>Su T Z IH|40,_=>Oi T Z IH|41,_=>Oz T Z IH|42,_=>Sw T Z IH|43,_=>Pa T Z IH|44,_=>Tn T Z IH|45,_=>Pd T Z IH|46,_=>Sn T Z IH|47,_=>Tf T Z IH|48,_=>Sd T Z IH|49,_=>Rn T Z IH|50,_=>Se T Z IH|51,_=>Sg T Z IH|52,_=>Sv T Z IH|53,_=>Ou T Z IH|54,_=>Ss T Z IH|n+55,h=>absurd h (by omega)
end
theorem ZE:∀(ns:List Int)(st:aB),ns.length<=63->(∀ p∈[(gI,272)],∃ P,st P=some (.cod p.1))->aH G 18 Au [.bR (ns.map .int)] st (fun d _=>d=.bl true) fun _ _=>False:=fun ns st _ hc =>Sr (k:=0) (G:=G) (κ:=gI) (il:=Au) (ibo:=C6) (iga:=FA) (im:=tM) (iln:=AV) (ifo:=zE) (ibr:=pK) (ise:=uR) (iab:=sJ) (ibs:=sU) (ilt:=tO) (ilb:=pQ) (ibm:=uG) (inm:=AH) (dR:=nB) (is:=nD) (ipr:=wD) (ic:=wV) (ibk:=AU) (ich:=zS) (icp:=vZ) (ist:=AN) (iri:=nN) (ini:=oQ) (ifs:=wI) (ian:=A2) (iti:=sI) (io:=oZ) (iz:=pZ) (ie:=rH) (irr:=mU) (iw:=iR) (ipo:=tD) (jB:=rJ) (ino:=nU) (ima:=kQ) (fY:=lN) (iph:=AA) (inh:=C7) (itd:=vX) (ilo:=uQ) (ibl:=mW) (ifk:=jU) (imk:=iE) (ift:=oY) (hc _ (dh ..)) rfl rfl rfl rfl rfl rfl rfl rfl rfl (fun b B hs hd hc k st Q E hQ=>TU (G:=G) (ir:=pN) (iT:=zK) (fN:=mK) (iy:=vL) (ia:=rE) (iap:=wL) (io:=oZ) (il:=CV) (iaw:=zZ) (ipi:=pZ) (ip:=ES) (iw:=KO) (ibk:=AU) (ih:=iR) (ib:=rM) rfl rfl rfl rfl rfl rfl rfl rfl rfl rfl rfl rfl rfl rfl rfl B hs hd hc hQ) rfl rfl rfl rfl rfl rfl rfl rfl rfl rfl rfl rfl rfl rfl rfl rfl rfl rfl rfl rfl rfl rfl rfl rfl rfl rfl rfl rfl rfl rfl rfl rfl rfl rfl rfl
theorem Yf {α:Type}{P:List α->Prop}(h:∀ a0,P [a0]):∀ us:List α,us.length=1->P us |[a0],_=>h a0
theorem ln2 {α:Type}{P:List α->Prop}(h:∀ a0 a1,P [a0,a1]):∀ us:List α,us.length=2->P us |[a0,a1],_=>h a0 a1
theorem Xi {α:Type}{P:List α->Prop}(h:∀ a0 a1 a2,P [a0,a1,a2]):∀ us:List α,us.length=3->P us |[a0,a1,a2],_=>h a0 a1 a2
theorem Xv {α:Type}{P:List α->Prop}(h:∀ a0 a1 a2 a3,P [a0,a1,a2,a3]):∀ us:List α,us.length=4->P us |[a0,a1,a2,a3],_=>h a0 a1 a2 a3
theorem Xt {α:Type}{P:List α->Prop}(h:∀ a0 a1 a2 a3 a4,P [a0,a1,a2,a3,a4]):∀ us:List α,us.length=5->P us |[a0,a1,a2,a3,a4],_=>h a0 a1 a2 a3 a4
local macro_rules|`(tactic| walk_at"q1")=>`(tactic| exact fun _ _ _ _ _ _=>Yf fun _=>rfl)
local macro_rules|`(tactic| walk_at"q2")=>`(tactic| exact fun _ _ _ _ _ _=>ln2 fun _ _=>rfl)
local macro_rules|`(tactic| walk_at"q3")=>`(tactic| exact fun _ _ _ _ _ _=>Xi fun _ _ _=>rfl)
local macro_rules|`(tactic| walk_at"q4")=>`(tactic| exact fun _ _ _ _ _ _=>Xv fun _ _ _ _=>rfl)
local macro_rules|`(tactic| walk_at"q5")=>`(tactic| exact fun _ _ _ _ _ _=>Xt fun _ _ _ _ _=>rfl)
theorem Ts:∀ i,i<55->G5 (rQ i) (gG i) (oR i) (fD i)|0,_=>by walk_at"q1"|1,_=>by walk_at"q2"|2,_=>by walk_at"q3"|3,_=>by walk_at"q1"|4,_=>by walk_at"q1"|5,_=>by walk_at"q3"|6,_=>by walk_at"q2"|7,_=>by walk_at"q3"|8,_=>by walk_at"q2"|9,_=>by walk_at"q3"|10,_=>by walk_at"q1"|11,_=>by walk_at"q2"|12,_=>by walk_at"q2"|13,_=>by walk_at"q3"|14,_=>by walk_at"q1"|15,_=>by walk_at"q1"|16,_=>by walk_at"q2"|17,_=>by walk_at"q3"|18,_=>by walk_at"q3"|19,_=>by walk_at"q2"|20,_=>by walk_at"q2"|21,_=>by walk_at"q2"|22,_=>by walk_at"q3"|23,_=>by walk_at"q2"|24,_=>by walk_at"q2"|25,_=>by walk_at"q2"|26,_=>by walk_at"q2"|27,_=>by walk_at"q2"|28,_=>by walk_at"q2"|29,_=>by walk_at"q2"|30,_=>by walk_at"q3"|31,_=>by walk_at"q1"|32,_=>by walk_at"q2"|33,_=>by walk_at"q1"|34,_=>by walk_at"q2"|35,_=>by walk_at"q2"|36,_=>by walk_at"q3"|37,_=>by walk_at"q5"|38,_=>by walk_at"q1"|39,_=>by walk_at"q3"|40,_=>by walk_at"q1"|41,_=>by walk_at"q1"|42,_=>by walk_at"q3"|43,_=>by walk_at"q1"|44,_=>by walk_at"q2"|45,_=>by walk_at"q3"|46,_=>by walk_at"q3"|47,_=>by walk_at"q2"|48,_=>by walk_at"q5"|49,_=>by walk_at"q5"|50,_=>by walk_at"q4"|51,_=>by walk_at"q1"|52,_=>by walk_at"q3"|53,_=>by walk_at"q3"|54,_=>by walk_at"q1"|n+55,h=>absurd h (by omega)
noncomputable abbrev FF (K:aa)(mg:Str->Option ae)(i:Nat):=wW K mg (rQ i) (gG i) (fD i) (oN i) (U8 i)
theorem Xg {K:aa}{mg:Str->Option ae}(F0:FF K mg 0)(F1:FF K mg 1)(F2:FF K mg 2)(F3:FF K mg 3)(F4:FF K mg 4)(F5:FF K mg 5)(F6:FF K mg 6)(F7:FF K mg 7)(F8:FF K mg 8)(F9:FF K mg 9)(F10:FF K mg 10)(F11:FF K mg 11)(F12:FF K mg 12)(F13:FF K mg 13)(F14:FF K mg 14)(F15:FF K mg 15)(F16:FF K mg 16)(F17:FF K mg 17)(F18:FF K mg 18)(F19:FF K mg 19)(F20:FF K mg 20)(F21:FF K mg 21)(F22:FF K mg 22)(F23:FF K mg 23)(F24:FF K mg 24)(F25:FF K mg 25)(F26:FF K mg 26)(F27:FF K mg 27)(F28:FF K mg 28)(F29:FF K mg 29)(F30:FF K mg 30)(F31:FF K mg 31)(F32:FF K mg 32)(F33:FF K mg 33)(F34:FF K mg 34)(F35:FF K mg 35)(F36:FF K mg 36)(F37:FF K mg 37)(F38:FF K mg 38)(F39:FF K mg 39)(F40:FF K mg 40)(F41:FF K mg 41)(F42:FF K mg 42)(F43:FF K mg 43)(F44:FF K mg 44)(F45:FF K mg 45)(F46:FF K mg 46)(F47:FF K mg 47)(F48:FF K mg 48)(F49:FF K mg 49)(F50:FF K mg 50)(F51:FF K mg 51)(F52:FF K mg 52)(F53:FF K mg 53)(F54:FF K mg 54):∀ i,i<55->wW K mg (rQ i) (gG i) (fD i) (oN i) (U8 i)|0,_=>F0|1,_=>F1|2,_=>F2|3,_=>F3|4,_=>F4|5,_=>F5|6,_=>F6|7,_=>F7|8,_=>F8|9,_=>F9|10,_=>F10|11,_=>F11|12,_=>F12|13,_=>F13|14,_=>F14|15,_=>F15|16,_=>F16|17,_=>F17|18,_=>F18|19,_=>F19|20,_=>F20|21,_=>F21|22,_=>F22|23,_=>F23|24,_=>F24|25,_=>F25|26,_=>F26|27,_=>F27|28,_=>F28|29,_=>F29|30,_=>F30|31,_=>F31|32,_=>F32|33,_=>F33|34,_=>F34|35,_=>F35|36,_=>F36|37,_=>F37|38,_=>F38|39,_=>F39|40,_=>F40|41,_=>F41|42,_=>F42|43,_=>F43|44,_=>F44|45,_=>F45|46,_=>F46|47,_=>F47|48,_=>F48|49,_=>F49|50,_=>F50|51,_=>F51|52,_=>F52|53,_=>F53|54,_=>F54|n+55,h=>absurd h (by omega)
theorem all_mk {P:b7}{w:c9}{K:aa}{mg:Str->Option ae}{fa:Addr}(hfa:mg "law" = some (.ref fa))(Z:Zt K mg)(F:∀ i,i<55->wW K mg (rQ i) (gG i) (fD i) (oN i) (U8 i)):∃ fd:h9,(∀(s:ag)(u:ae),z9 s fd ⟨[u],[]⟩ [("_law_script", u)])/\∀ base:Heap,K.In base->base.Ns cz mg->vJ mg base->fP P w K mg base dZ (2*18) fa fd ["_law_script"] (fZ K (aH G 18) 54):=by obtain⟨_,d,_⟩:=F 0 (by decide);obtain⟨T,TC⟩:=LV 55 Ts F d;have e:=hfa.symm.trans (show mg "law" = some (.ref (T.a 54))from T.mg 54 (by decide));cases e;exact⟨T.fd 54,R7 (T.fn 54 (by decide)) (Ts 54 (by decide)),fun base _ _ B=>(GV T (fun k IH IL=>⟨Yc T Z B TC IH IL,Wm T Z IH⟩) 18).1 54 (by decide)⟩
end L3
open PySem PySem.W PyProof.Rows
local macro_rules|`(tactic| walk_at"ft")=>`(tactic| (refine' L3.uW.Kn (L3.Po (by assumption) (by assumption) ?a ?l ?c ?k);(case a=>k_is);(case l=>k_is);(case c=>k_is);(case k=>k_is)))
local macro_rules|`(tactic| walk_at"fi")=>`(tactic| (refine' L3.uW.Kn (L3.Sa (by assumption) (by assumption) ?cl ?mk ?kp ?a ?fn ?l ?cc ?k);(case cl=>k_is);(case mk=>k_is);(case kp=>k_is);(case a=>k_is);(case fn=>k_is);(case l=>k_is);(case cc=>k_is);(case k=>k_is)))
local macro_rules|`(tactic| walk_at"fm")=>`(tactic| (refine' L3.uW.Kn (L3.Pn (by assumption) (by assumption) ?cl ?pg ?hd ?po ?sa ?a ?fn ?l ?cc ?k);(case cl=>k_is);(case pg=>k_is);(case hd=>k_is);(case po=>k_is);(case sa=>k_is);(case a=>k_is);(case fn=>k_is);(case l=>k_is);(case cc=>k_is);(case k=>k_is)))
local macro_rules|`(tactic| walk_at"fc")=>`(tactic| (refine' L3.Nb ?cl ?pg ?hd ?po ?sa;(case cl=>k_is);(case pg=>k_is);(case hd=>k_is);(case po=>k_is);(case sa=>k_is)))
local macro_rules|`(tactic| walk_at"fa")=>`(tactic| (refine' L3.Iw ?cl ?na;(case cl=>k_is);(case na=>k_is)))
local macro_rules|`(tactic| walk_at"fn")=>`(tactic| (refine' PySem.W.mg_none_of (by assumption) (by assumption) ?x;(case x=>k_is)))
local macro_rules|`(tactic| walk_at"fg")=>`(tactic| (refine' L3.Kb (by assumption) (by assumption) ?a;(case a=>k_is)))
namespace PySem.W.Fast
def tw16495568340166800218:=()
def tw10273267623718455445:=()
def tw5238334822606954480:=()
def tw1385790502211143545:=()
def tw17639850229409885595:=()
def tw5557766670019103828:=()
def tw15758205080161554721:=()
def tw11756597070920540332:=()
def tw175395934701247362:=()
def tw5828464045441641627:=()
def tw12363049350426337949:=()
def tw15327716062785303027:=()
def tw2126465676309693834:=()
def tw14697486561837620039:=()
def tw10910060012451647382:=()
def tw235896586238799904:=()
def tw7262724366919811015:=()
def tw16476069639856985523:=()
def tw7126554444428526598:=()
def tw18130785334224767134:=()
def tw2745977621073652703:=()
def tw3663935859251413664:=()
def tw10276584853462810226:=()
def tw9016635924415702838:=()
def tw9369857950556627589:=()
def tw12667077838995086053:=()
def tw6652952302833208113:=()
def tw12641633414860223326:=()
def tw18124162124869027385:=()
def tw12672752815329260023:=()
def tw2136505980051905884:=()
def tw6134704245394611656:=()
def tw17389052725204140494:=()
def tw9742087727126965488:=()
def tw12180216164877254227:=()
def tw1600929308004355499:=()
def tw11939425125137245181:=()
def tw2788268322711339422:=()
def tw11623899592039429935:=()
def tw16368905626400372224:=()
def tw319177424457503493:=()
def tw4459285644052857065:=()
def tw2056770089765652372:=()
def tw7437681745492378868:=()
def tw17371930811670228700:=()
def tw8335934572451997067:=()
def tw15550321908413068820:=()
def tw10981019854777032521:=()
def tw3839183024625654069:=()
def tw2669709679241817431:=()
def tw9049761458686055858:=()
def tw12538157085493868604:=()
def tw12792909156981935983:=()
def tw6453928971712329843:=()
def tw4728281610503730402:=()
def tw10253323012230702323:=()
def tw4471609316708822444:=()
def tw13569017676083225830:=()
def tw5174798575514397160:=()
def tw1500963712979499301:=()
def tw10292946638844027653:=()
def tw15427556851833579789:=()
def tw15466818863329569235:=()
def tw16943315077381682650:=()
def tw13808327102749701208:=()
def tw2892662211840828534:=()
def tw3187967670342749712:=()
def tw4993225556953327592:=()
def tw17997417444336495642:=()
def tw8710100398219253006:=()
def tw12079632640312985420:=()
def tw5620099780098690141:=()
def tw12681588641404099067:=()
def tw9886233839167049619:=()
def tw13402646244781037199:=()
def tw15502820241733323412:=()
def tw10129105674513802998:=()
def tw3301502009734815475:=()
def tw15806354836137731201:=()
def tw15347163130628892387:=()
def tw13974844263758172384:=()
def tw5378100922263955560:=()
def tw4944411681301024500:=()
def tw9581555506490294106:=()
def tw12361614492886159154:=()
def tw3600368908369854730:=()
def tw9459045674171568106:=()
def tw11487608902710591244:=()
def tw18276918811988907406:=()
def tw1468591521994410721:=()
def tw9398190109712653573:=()
def tw16922654396134425717:=()
def tw14856355617961205101:=()
def tw15209111041251415424:=()
def tw16805810245641669780:=()
def tw18342235832659023379:=()
def tw15151153537082028492:=()
def tw1471939900198520939:=()
def tw7927480314203830225:=()
def tw6997709222867220213:=()
def tw2542089864636726142:=()
def tw1556555746697303230:=()
def tw1310089324621929940:=()
def tw16968358873473896027:=()
def tw8985129181115647904:=()
def tw4713046092253962259:=()
def tw14951736945693939154:=()
def tw1441931565610246245:=()
def tw11010740765040287624:=()
def tw8233172496937321614:=()
def tw9296932898526469800:=()
def tw12504577051446667508:=()
end PySem.W.Fast
set_option maxRecDepth 100000 in
set_option maxHeartbeats 0 in
theorem PySem.Challenge.cw_leastloss_k11_whole_breaking_walked_holds : PySem.Challenge.rw_leastloss_k11_whole_breaking_walked.Holds := by
 w_on;o_law;k_head;(case hw=>w_witness2);k_fill;refine L3.Qw (tabs:=[(L3.gI,272)]) (l:=PySem.Challenge.rw_leastloss_k11_whole_breaking_walked) (x :="_law_script") (r:=2*18) (k:=18) (f:=54) (G:=L3.G) ⟨rfl,by decide,by decide⟩ L3.ZE (by decide) rfl rfl (fun w h Y=>PySem.W.km_in_of Y) (fun w h Y=>List.forall_mem_cons.mpr ⟨PySem.W.km_tabs_of Y 272 (by decide),fun _ h=>nomatch h⟩) ?t2 ?t3 ?F;case t2=>intro w;refine List.forall_mem_cons.mpr ⟨?_,fun _ h=>nomatch h⟩<;>kernel_rfl
 case t3=>intro w;refine List.forall_mem_cons.mpr ⟨?_,fun _ h=>nomatch h⟩<;>kernel_rfl
 case F =>
 intro w mg fa h KX G hmg;refine L3.all_mk hmg ?Z (L3.Xg ?F0 ?F1 ?F2 ?F3 ?F4 ?F5 ?F6 ?F7 ?F8 ?F9 ?F10 ?F11 ?F12 ?F13 ?F14 ?F15 ?F16 ?F17 ?F18 ?F19 ?F20 ?F21 ?F22 ?F23 ?F24 ?F25 ?F26 ?F27 ?F28 ?F29 ?F30 ?F31 ?F32 ?F33 ?F34 ?F35 ?F36 ?F37 ?F38 ?F39 ?F40 ?F41 ?F42 ?F43 ?F44 ?F45 ?F46 ?F47 ?F48 ?F49 ?F50 ?F51 ?F52 ?F53 ?F54);case Z =>
  refine⟨?bb0,?bb1,?bb2,?bb3,?bb4,?bb5,?bb6,?bb7,?bb8,?bb9,?bb10,?bb11,?bb12,?bb13,?bb14,?gg15,?gg16,?gg17,?gg18,?gg19,?gg20,?gg21,?gg22,?gg23,?gg24,?gg25,?gg26,?cc27,?cc28,?cc29,?aa30,?aa31,?aa32,?aa33,?aa34,?aa35,?aa36,?aa37,?aa38,?aa39,?aa40,?aa41⟩;case bb0=>walk_at"fn"
  case bb1=>walk_at"fn"
  case bb2=>walk_at"fn"
  case bb3=>walk_at"fn"
  case bb4=>walk_at"fn"
  case bb5=>walk_at"fn"
  case bb6=>walk_at"fn"
  case bb7=>walk_at"fn"
  case bb8=>walk_at"fn"
  case bb9=>walk_at"fn"
  case bb10=>walk_at"fn"
  case bb11=>walk_at"fn"
  case bb12=>walk_at"fn"
  case bb13=>walk_at"fn"
  case bb14=>walk_at"fn"
  case gg15=>refine' L3.XC KX G ?y10 ?y9 ?y11 ?y8;(case y10=>k_is);(case y9=>k_is);(case y11=>kernel_rfl);(case y8=>kernel_rfl)
  case gg16=>walk_at"fg"
  case gg17=>refine' L3.Jg KX G ?y12 ?y13;(case y12=>k_is);(case y13=>rfl)
  case gg18=>walk_at"fg"
  case gg19=>refine' L3.Kf KX G ?y2 ?y1 ?y3;(case y2=>k_is);(case y1=>k_is);(case y3=>kernel_rfl)
  case gg20=>refine' L3.XC KX G ?y7 ?y5 ?y4 ?y6;(case y7=>k_is);(case y5=>k_is);(case y4=>kernel_rfl);(case y6=>kernel_rfl)
  case gg21=>walk_at"fg"
  case gg22=>walk_at"fg"
  case gg23=>walk_at"fg"
  case gg24=>walk_at"fg"
  case gg25=>walk_at"fg"
  case gg26=>walk_at"fg"
  case cc27=>walk_at"fc"
  case cc28=>walk_at"fc"
  case cc29=>walk_at"fc"
  case aa30=>walk_at"fa"
  case aa31=>walk_at"fa"
  case aa32=>walk_at"fa"
  case aa33=>walk_at"fa"
  case aa34=>walk_at"fa"
  case aa35=>walk_at"fa"
  case aa36=>walk_at"fa"
  case aa37=>walk_at"fa"
  case aa38=>walk_at"fa"
  case aa39=>walk_at"fa"
  case aa40=>walk_at"fa"
  case aa41=>walk_at"fa"
 case F0=>walk_at"ft"
 case F1=>walk_at"ft"
 case F2=>walk_at"ft"
 case F3=>walk_at"ft"
 case F4=>walk_at"ft"
 case F5=>walk_at"ft"
 case F6=>walk_at"ft"
 case F7=>walk_at"ft"
 case F8=>walk_at"ft"
 case F9=>walk_at"ft"
 case F10=>walk_at"ft"
 case F11=>walk_at"ft"
 case F12=>walk_at"ft"
 case F13=>walk_at"ft"
 case F14=>walk_at"ft"
 case F15=>walk_at"ft"
 case F16=>walk_at"ft"
 case F17=>walk_at"ft"
 case F18=>walk_at"fi"
 case F19=>walk_at"fm"
 case F20=>walk_at"fm"
 case F21=>walk_at"fm"
 case F22=>walk_at"fm"
 case F23=>walk_at"fm"
 case F24=>walk_at"fi"
 case F25=>walk_at"fm"
 case F26=>walk_at"fm"
 case F27=>walk_at"fm"
 case F28=>walk_at"ft"
 case F29=>walk_at"ft"
 case F30=>walk_at"ft"
 case F31=>walk_at"ft"
 case F32=>refine' L3.Nd KX G ?a32 ?l32 ?c32 ?k32;(case a32=>k_is);(case l32=>k_is);(case c32=>k_is);(case k32=>k_is)
 case F33=>walk_at"ft"
 case F34=>walk_at"fi"
 case F35=>walk_at"fm"
 case F36=>walk_at"ft"
 case F37=>walk_at"ft"
 case F38=>walk_at"ft"
 case F39=>walk_at"ft"
 case F40=>walk_at"ft"
 case F41=>walk_at"ft"
 case F42=>walk_at"ft"
 case F43=>walk_at"ft"
 case F44=>walk_at"ft"
 case F45=>walk_at"ft"
 case F46=>walk_at"ft"
 case F47=>walk_at"ft"
 case F48=>walk_at"ft"
 case F49=>walk_at"ft"
 case F50=>walk_at"ft"
 case F51=>walk_at"ft"
 case F52=>walk_at"ft"
 case F53=>walk_at"ft"
 case F54=>walk_at"ft"
