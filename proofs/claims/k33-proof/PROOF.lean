import PyProof.Rows.All
import Wide.All
import OpenK.AllK
import Wide.FinOn
import Lean
import PyProof.EqAt
import PyProof.EqKinds
import PyProof.TupleCall
import KE.KIntText
import PySem.Challenge.RW_leastloss_k33_machine_texts
open List renaming length_map→aa, length_nil→aj, length_cons→ak, replicate→ao, length_append→aq, size_toArray→av, map_cons→az, nil_append→ba, range→bc, mem_singleton→bf, mem_cons→bh, not_mem_nil→bo, getElem?_eq_getElem→bw, set_cons_zero→cv, mem_of_getElem?→cw, mem_append_right→cz, lookup_cons→da, map_map→de, set_cons_succ→df, getElem?_append_left→dh, getElem?_map→di, map_append→dr, append_nil→d7, getElem?_append_right→ei, mem_cons_of_mem→ek, getElem?_set_ne→ey, drop_eq_getElem_cons→e9, mem_cons_self→fb, getElem?_set_self→fe, length_drop→fk, getElem?_replicate→fw, drop_eq_nil_of_le→f9, filterMap_cons→gb, replicate_succ→gf, flatten_cons→gg, length_dropLast→gy, all_cons→ik, length_range→i5, length→jk, length_take→jo, cons_append→jq, mem_append→j1, any_cons→j7, drop_zero→kc, contains_cons→kj, range_succ_eq_map→kl, all_map→km, take_of_length_le→kn, getElem?_eq_none→kx, reverse_cons→kz, mem_append_left→ll, map_nil→l6, foldl_cons→mv, getElem?_cons_zero→ng, getElem?_cons_succ→nh, any_map→nt, length_replicate→nu, dropLast_eq_take→nz, foldl→n4, take_length→n6, map→ot, length_flatten→pf, length_reverse→pq, zip_cons_cons→qq, takeWhile_cons_of_pos→qs, isSuffixOf_iff_suffix→qt, getElem?_eq_some_iff→qx, extract_eq_take_drop→qy, append_assoc→rk, isEmpty_cons→rl, any_eq_false→rz, sum_cons→sy, getElem_mem→ub, sum_replicate_nat→uq, takeWhile_sublist→u2, of_mem_zip→u4, length_set→u6, forIn_cons→va, getLast?_concat→v7, drop_succ_cons→wt, flatMap_append→w6, map_replicate→xq, nodup_append→yj, flatMap_cons→yk, contains_nil→ym, isEmpty_iff→yp, isEmpty_nil→yx, all_eq_true→yz, drop_left→Og, all_nil→Pp, set_set→Pr, mem_map→Pt, lookup→Qb
open PySem.W renaming Frag→ae, findIn→du, keepIn→dv, nsIn→fv, Looks→fz, kia_one→gr, fnOf→je, mroIn→jm, mg_of→j8, InstAt→kf, codeIn→lx, clsIn→mn, looks_findIn→ow, looks_mroIn→pj, methodObj→rb, hasDictIn→rf, plainOver→rg, kitx_bool→rm, plainGet→tu, isFn→ug, cellsFrom_some→uh, isClsIn→ve, typeIn→vz, excIn→xb, callWith_K→xi, kitx_int→yt, kitx_str→yu, makesIn→ze, OpenLaw→zg, kitOne→z9, WalkO→Oq, OpenLaw→Qq
open PySem renaming wpAny_bind→af, Shared→ah, starEach→ar, wpAny_pure→aw, Program→bq, mainGlobals→br, Expr→b7, Around→cg, World→cq, bootBuiltins→cu, wpAny_ite_split→cy, Spec→c5, backTo→dq, wpAny_field→dw, builtinLookup_eq_fast→dz, wpAny_mono→ee, assignEach→ff, foldedSetIterable→fq, wpAny_newObj_type→fu, FuncData→fx, attributeBase→gk, wpAny_Call_Name_kw→gw, sizeLine_eq→gx, wpAny_truthy_bool→g6, typeLookup_type→g8, binaryOp→h9, wpAny_call_entry→ig, wpAny_callSpecial?_slot→iq, wpAny_isNot_other→iu, mem_of_lookup→jc, wpAny_holding→jj, isSubtype_type→ju, wpAny_setField→jw, wpAny_passesOwn→jy, noteFrame→jz, wpAny_specialOf→j0, Keyword→j4, call_meets→j6, wpAny_is_other→kd, keywordEach→kg, wpAny_of_eq→kh, wpAny_execs_nil→kq, behindInMarks→kv, codeAny→ky, assign→lq, rawInt→lu, holding→lz, codeAny_mono→l5, wpAny_comprehension_free→mj, letOwnedTupleGo→mr, sliceBounds→mz, wpAny_isInstance→n9, swapsWithSole→oh, swappedStores→oi, backToKw→om, wpAny_updateSeq→oy, codeAny_builtin→oz, compareOp→qa, swapsWith→qb, PassesOwn→qd, typeLookup→qi, typeIs_str→qj, wpAny_pyIter_tuple→qo, compPost→qr, wpAny_binaryOp_repeat_ref→qw, wpAny_sequenceKey→rj, wpAny_loadPart_at→rp, wpAny_standAt→r0, pyNext→r6, IsPart→r8, wpAny_attempt→sk, wpAny_execs_cons→tq, NameKind→tv, noFill_tuple_add→tw, compEnvC→t4, checkBuiltinCall→t5, scanBound→t8, sysModules→ue, getItem→ui, wpAny_typeOf→uj, callerA→uo, wpAny_rule→uv, codeAny_compStart_list→uw, notedBy→uz, wpAny_isTrue_Compare1→vf, pyIter→vn, seqIndex_of→vo, wpAny_newFunctionEnv→vv, codeAny_call_builtin→vx, wpAny_nameGoes_keeps→v8, standAt→wc, BindsTo→we, leaving→wg, setFlight→wk, seq_tuple_add→w8, signature?_of→xa, isTrue→xg, typeOf→xk, typeIs_int→xo, GenState→xt, wpAny_assign_Name→xw, concat_meets→xx, seqIndex_neg→xy, slot_dict_getitem→yf, wpAny_pyIter_list→yh, lastMarks→yq, entryFor_of_tree→yv, isType→yw, cLine→zd, theTreesLotGoes→zh, codeAny_of_tree→zi, spliced→zk, ItemsOf→zm, builtinsNs→zo, wpAny_Name→zp, wpAny_call→zq, fitsIndex_both→zt, call→zu, PyData→zv, newFunctionEnv→zy, callType_codes→Ob, argsOk→Oc, firstArgMember→Od, intBits_le_64→Oi, evalPart_none→Ol, call_list_seq→Oo, compTurn_list→Ot, eval_ListComp→Ou, storeName→Ox, cellsFrom→Pa, updateSeq→Pc, isSubtype→Pd, Paired→Pf, truthy→Pg, setItem→Pj, Result→Pk, codeAny_loop→Po, bindArgs→Py, entryFor→Qd, Params→Qm, newExc→Qn, BoolOp→Qo, release→Qp, newList→Qt, splitId→Qu
open Bool renaming false_eq_true→ai, and_eq_true→ay, not_true→b5, and_false→b9, not_false→c9, and_self→dm, false_and→fj, eq_iff_iff→gq, true_and→g5, or_eq_true→i9, false_ne_true→ki, or_false→oj, and_true→tm, and_assoc→zx, or_self→Pu
open PySem.Heap renaming get?_push_of_some→au, lt_size→a9, get?_update_other→bg, get?_push_size→bp, get?_update_self→cj, SameBut→j2, size_push→ke, get?_none_of_le→vm, ExtBut→Qg
open Nat renaming le_refl→bb, ne_of_lt→bj, lt_of_lt_of_le→bu, le_trans→bz, zero_le→dj, pow_le_pow_right→e8, mul_le_mul→g7, lt_succ_self→ij, lt_irrefl→jh, lt_succ_of_lt→j5, blt→lj, ne_of_gt→p0, lt_trans→p8, zero_add→p9, lt_of_le_of_lt→qk, add_sub_cancel_left→tz, toDigits_of_lt_base→ua, le_max_right→uc, le_of_lt→uf, toDigits→uy, pow_succ→u1, strongRecOn→vc, le_max_left→vd, add_min_add_right→vh, digitChar→xf, succ_mul→yd, sub_zero→yg, le_of_not_lt→yo, min_eq_right→y9, min_eq_left→zj, le_succ→Qj, pow_pos→Ql, beq→Qv
open Option renaming map_eq_some_iff→cb, bind_some→dt, bind_eq_some_iff→gz, getD_some→l8, map_some→pe, getD_none→yn
open PySem.Obj renaming data_mapFields→cf, isFreed_of_fields→d5, mapFields→gm, mapSeq→jr, cls_mapFields→yi
open PySem.Str renaming length→c7, ofString→j3, join→v5, cps_append→Oe, empty→Oz
open PySem.Builtin.List renaming listTooLong→dy, listExtendWith→jf, listLengthHint→lh, listSameRef→sj, listItems→ux
open PySem.Builtin.Str renaming occurrences→ef, strSliceIndices→g4, partsBetween→tj, strKind→w5, strSub→xr, subAt→ye
open Option.some renaming inj→fh
open PySem.Value renaming none→fo, type→gv, ref→ku, builtin→sv, bool→ud, str→Ow
open Int renaming emod_lt_of_pos→fy, emod_nonneg→gu, toNat_natCast→i1, toNat_of_nonneg→pk, mul_le_mul→zw, toNat→Pe, ediv_one→Pl, le_refl→Qk
open PyProof.Rows renaming envOfC→gh, callWith_type1→gV, slot_tuple_getitem→g9, split_len→og, AllBare→px, subscriptTail_builtinR→uk, foldl_rep→wj, entry_tuple_getitem→wo, args_tuple_getitem→xj, IntsAre→zl, slicePart_none→zr, tupleItemsOf_→Oj, subscriptTail→Om, len_tuple→Oy, isTrue_plain→Ph, part_of→Qs
open PySem.Builtin.Tuple renaming tupleExact→gj, tupleItemsOf→ly, tupleTooMany→ql, tupleIsExact→qm
open Ne renaming symm→gp
open False renaming elim→i7
open PyProof.Rows.F renaming plain_set_update_loop→jd, entry_set_update_loop→mf
open PySem.Builtin.Slice renaming slicePlaces→jx, sliceAdjust→l9, sliceApplied→qh
open PySem.Txt renaming partition→j9, split→qe, slice→yr, mul→Pm, endswith→Pq
open PySem.F renaming slot_str_split→ko, args_tuple_add_2→mh, args_str_split_2→mq, entry_tuple_add→my, entry_str_split→nj, slot_tuple_add→nk, slot_str_partition→qv, plainAttrs_list→t2, slot_int_rmul→vg, args_list_extend_2→vp, plain_reversed_new→vw, excBase_ValueError→vy, entry_list_extend→wq, plain_extend_loop→wx, slot_list_extend→xm, slot_int_rmul→zf
open ForInStep renaming yield→kr
open Array renaming length_toList→me, toList_append→ph, getElem?_eq_getElem→qz, toList_extract→vt, toList→xv
open PySem.NameKind renaming free→mi, cell→w9
open True renaming intro→mx
open PySem.Calls renaming callWith_builtin→nq, evalArgs_plain→oo, Name_function_global→qf, spliced_cons→qg, spliced_nil→rh
open Function renaming comp_def→nr
open PySem.Around renaming in1_units→n5, under_plainId→ou
open PyProof.Rows.KTD renaming datumAt→oq, flatLooks→r9, tabLook→vq
open PySem.StrLaws renaming subAt_one→rq, glued_eq_join→vj, strSub_toList→vk
open PySem.AutoSeq1 renaming wpAny_loadPart'→sh
open PyProof.Rows.KTD.Dat renaming flat→ur
open PySem.PassesOwn renaming never→vb
open PySem.W.Looks renaming of_pure→vi
open Sum renaming inl→wa, inr→wb
open PySem.Heap.SameBut renaming update→wz
open PySem.EntryCells renaming newEntry→w4
open PySem.Paired renaming length→Oh
open PySem.Shared renaming TypeIs→Ov
open PySem.SeqAt.EqAt renaming same→Pb, of_refs→Pn
open PySem.Walks renaming tuple→Qa
open PySem.SeqAt renaming str_beq→Qr
set_option Elab.async false
set_option tactic.hygienic false
set_option genSizeOf false
set_option bootstrap.genMatcherCode false
set_option compiler.extract_closed false
set_option linter.all false
set_option maxRecDepth 100000
set_option maxHeartbeats 4000000
section
namespace L2
open PySem PySem.Spec PyProof.Rows
noncomputable abbrev Key:=Sum Int Str
noncomputable def T4:Key->Value->Bool
 |.inl k,v=>Value.isInt k v
 |.inr x,v=>Value.isStrOf x v
noncomputable def Mg (w:cq):Key->Int
 |.inl k=>hashInt k
 |.inr x=>hashStr w x
theorem fU:∀{k:Key}{v:Value},T4 k v=true->(∃ i t,k=wa i/\v=Value.int i t)∨(∃ x t,k=wb x/\v=Ow x t)
 |.inl i,v,h=>by
  obtain⟨t,e⟩:=Value.isInt_shape (k:=i) (v:=v) h
  exact .inl ⟨i,t,rfl,e⟩
 |.inr x,v,h=>by
  obtain⟨t,e⟩:=Value.isStrOf_shape (x:=x) (v:=v) h
  exact .inr ⟨x,t,rfl,e⟩
theorem Ar (a b:Int):decide ((wa a:Key)=wa b)=(a==b):=by
 by_cases e:a=b
 ·subst e;simp
 ·have h:¬(wa a:Key)=wa b:=fun q=>e (Sum.inl.inj q)
  rw[decide_eq_false h]
  exact(beq_eq_false_iff_ne.mpr e).symm
theorem YT (a b:Str):decide ((wb a:Key)=wb b)=decide (a=b):=by
 by_cases e:a=b
 ·subst e;simp
 ·have h:¬(wb a:Key)=wb b:=fun q=>e (Sum.inr.inj q)
  rw[decide_eq_false h,decide_eq_false e]
theorem Dq (a:Int)(b:Str):decide ((wa a:Key)=wb b)=false:=decide_eq_false (fun q=>nomatch q)
theorem Bd (a:Str)(b:Int):decide ((wb a:Key)=wa b)=false:=decide_eq_false (fun q=>nomatch q)
noncomputable def BN (prog:bq)(w:cq):PySem.KeyKind prog w Key where
 is:=T4
 hash:=Mg w
 inj:=fun v a b ha hb=>by
  rcases fU ha with⟨i,t,rfl,rfl⟩|⟨x,t,rfl,rfl⟩
  ·rcases fU hb with⟨j,u,rfl,e⟩|⟨y,u,rfl,e⟩
   ·injection e with e1 _;rw[e1]
   ·exact nomatch e
  ·rcases fU hb with⟨j,u,rfl,e⟩|⟨y,u,rfl,e⟩
   ·exact nomatch e
   ·injection e with e1 _;rw[e1]
 byValue:=fun k v h=>by
  rcases fU h with⟨i,t,rfl,rfl⟩|⟨x,t,rfl,rfl⟩<;>rfl
 pyHash:=fun hv h=>by
  rcases fU hv with⟨i,t,rfl,rfl⟩|⟨x,t,rfl,rfl⟩
  ·exact wpAny_pyHash_int h
  ·exact wpAny_pyHash_str h
 eqBool:=fun hu hv h=>by
  rcases fU hu with⟨i,t,rfl,rfl⟩|⟨x,t,rfl,rfl⟩
  ·rcases fU hv with⟨j,u,rfl,rfl⟩|⟨y,u,rfl,rfl⟩
   ·rw[Ar]at h;exact wpAny_eqBool_int h
   ·rw[Dq]at h;exact SeqAt.EqAt.int_str i t y u _ _ _ _ h
  ·rcases fU hv with⟨j,u,rfl,rfl⟩|⟨y,u,rfl,rfl⟩
   ·rw[Bd]at h;exact SeqAt.EqAt.str_int x t j u _ _ _ _ h
   ·rw[YT]at h;exact wpAny_eqBool_str h
 «strs»:=fun k x t v h=>by
  rcases fU h with⟨i,u,rfl,e⟩|⟨y,u,rfl,e⟩
  ·exact nomatch e
  ·injection e with e1 _
   subst e1
   cases v<;>rfl
end L2
namespace L2
open PySem PySem.Spec PyProof.Rows
inductive V where
 |non|bl (b:Bool)|int (i:Int)|str (x:Str)|byt (b:Array UInt8)|flt (b:UInt64)|ref (a:Addr)|ty (n:String)
 deriving DecidableEq
def RelV:V->Value->Prop
 |.non,u=>u=fo
 |.bl b,u=>u=ud b
 |.int i,u=>∃ t,u=Value.int i t
 |.str x,u=>∃ t,u=Ow x t
 |.byt b,u=>∃ t,u=Value.bytes b t
 |.flt b,u=>∃ t,u=Value.float b t
 |.ref a,u=>u=ku a
 |.ty n,u=>u=gv n
abbrev aR:List V->List Value->Prop:=Pf RelV
theorem aR.length {xs:List V}{us:List Value}(r:aR xs us):xs.length=us.length:=Oh r
theorem aR.get:∀{xs:List V}{us:List Value}{i:Nat}{x:V},aR xs us->xs[i]? = some x->∃ u,us[i]? = some u/\RelV x u
 |_,_,_,_,.nil,e=>by simp at e
 |_,_,0,_,.cons r _,e=>by simp at e;subst e;exact⟨_,rfl,r⟩
 |_,_,i+1,x,.cons _ t,e=>by
  obtain⟨u,h1,h2⟩:=aR.get (i:=i) (x:=x) t (by simpa using e)
  exact⟨u,by simpa using h1,h2⟩
theorem aR.set {x:V}{u:Value}(r:RelV x u):∀{xs:List V}{us:List Value}(i:Nat),aR xs us->aR (xs.set i x) (us.set i u)
 |_,_,_,.nil=>.nil
 |_,_,0,.cons _ t=>.cons r t
 |_,_,i+1,.cons q t=>.cons q (aR.set r i t)
theorem aR.append:∀{xs ys:List V}{us ws:List Value},aR xs us->aR ys ws->aR (xs++ys) (us++ws)
 |_,_,_,_,.nil,s=>s
 |_,_,_,_,.cons r t,s=>.cons r (aR.append t s)
theorem aR.take:∀{xs:List V}{us:List Value}(n:Nat),aR xs us->aR (xs.take n) (us.take n)
 |_,_,0,_=>.nil
 |_,_,_+1,.nil=>.nil
 |_,_,n+1,.cons r t=>.cons r (aR.take n t)
theorem aR.drop:∀{xs:List V}{us:List Value}(n:Nat),aR xs us->aR (xs.drop n) (us.drop n)
 |_,_,0,r=>r
 |_,_,_+1,.nil=>.nil
 |_,_,n+1,.cons _ t=>aR.drop n t
def Z8:Option V->Option Value->Prop
 |some v,some u=>RelV v u
 |none,none=>True
 |_,_=>False
def KV {κ:Type}:List (κ×V)->List (κ×Value)->Prop:=Pf fun(p:κ×V)(q:κ×Value)=>p.1=q.1/\RelV p.2 q.2
noncomputable def kV:Key->V
 |.inl i=>.int i
 |.inr x=>.str x
inductive HO where
 /-- a list -/
 |lst (xs:List V)
 /-- a tuple (never changes) -/
 |tup (xs:List V)
 /-- a dict whose keys are ints and texts; one whose keys are tuples of ints and texts (the empty one is both) -/
 |dK (gU:List (Key×V))|dT (gU:List (List Key×V))
 /-- a set of ints: aD members, aD size -/
 |set (S:Int->Bool)(n:Nat)
 /-- an instance of the class at C, aD dict at dx, aD attributes -/
 |ins (C dx:Addr)(fs:List (Str×V))
 /-- the dict of the instance at x -/
 |own (x:Addr)
 /-- the dict of an exception -/
 |xd (fs:List (Str×V))
 /-- a bound method, f of x -/
 |met (f x:Addr)
 /-- a range object lo, lo + 1, .. below hi -/
 |rng (lo hi:Int)
 /-- a thing that is known to the object (the script; a dict while a loop walks it): read, never written while it is so -/
 |frz (o:Obj)(u:HO)
 /-- a code object's table -/
 |tbl (ps:Array Value)
 /-- any other thing, by what is true of aD one object (a def of one's own: SetO a S n := HO.ext fun h => ..) -/
 |ext (φ:bq->cq->Heap->Prop)
noncomputable abbrev Hp:=Addr->Option HO
noncomputable def upd (H:Hp)(a:Addr)(o:HO):Hp:=fun b=>if b=a then some o else H b
theorem dH {H:Hp}{a:Addr}{o:HO}:upd H a o a=some o:=by unfold upd;rw[if_pos rfl]
theorem aZ {H:Hp}{a b:Addr}{o:HO}(h:b≠a):upd H a o b=H b:=by unfold upd;rw[if_neg h]
theorem LH {H:Hp}{a b:Addr}{o u:HO}(h:H a=some o)(h':H b=some u)(d:o≠u):a≠b:=by
 intro e;subst e;rw[h]at h';exact d (fh h')
theorem cJ {H:Hp}{a b:Addr}{o:HO}(h:H a=some o)(h':H b=none):a≠b:=by
 intro e;subst e;rw[h]at h';cases h'
def mK (h:Heap)(a:Addr)(aD:Array Value):Prop:=∃ o,h.get? a=some o/\o.cls=.type "tuple" /\ (∃ n,o.data=.seq aD n)/\o.dict=none
theorem mK.tup {h:Heap}{a:Addr}{aD:Array Value}:mK h a aD->IsTup h a aD:=fun⟨o,e,c,d,_⟩=>⟨o,e,c,d⟩
theorem mK.lt {h:Heap}{a:Addr}{aD:Array Value}(x:mK h a aD):a<h.objs.size:=x.tup.lt
theorem mK.new (h:Heap)(items:Array Value):mK (h.push { cls:=.type "tuple", data:=.seq items }) h.objs.size items:=⟨_,bp _ rfl,rfl,⟨_,rfl⟩,rfl⟩
section
variable (P:bq)(w:cq)
def fV (H:Hp)(h:Heap)(a:Addr):HO->Prop
 |.lst xs=>xs.length<=sizeLine/\∃(aD:List Value)(n:Nat),aR xs aD/\h.get? a=some { cls:=.type "list", data:=.seq aD.toArray n }
 |.tup xs=>xs.length<=sizeLine/\∃ aD:List Value,aR xs aD/\mK h a aD.toArray
 |.dK gU=>gU.length<=sizeLine/\(a==ue)=false/\∃ vs,KV gU vs/\h.DictOf (BN P w) a vs
 |.dT gU=>gU.length<=sizeLine/\(a==ue)=false/\∃ xs:List (List Key×Addr×Value),
  Pf (fun(p:List Key×V)(q:List Key×Addr×Value)=>p.1=q.1/\H q.2.1=some (.tup (p.1.map kV))/\RelV p.2 q.2.2) gU xs /\
  ∃ o es ep,h.get? a=some o/\o.ExactDict/\o.data=.dict es ep/\es.toList=xs.map (entryOfKey (tupleKind (BN P w)))/\(xs.map (·.1)).Nodup
 |.set S n=>h.SetOf (intKind P w) a S n
 |.ins C dx fs=>H dx=some (.own a)/\fs.length<=1000/\dx≠a/\h.get? a=some (PySem.W.instObj C dx) /\
  ∃ mA,h.Ns1 dx mA/\(∀ f,Z8 (fs.lookup f) (mA f))/\PySem.Within mA (fs.map (·.1))
 |.own _=>∃ o,h.get? a=some o
 |.xd fs=>∃ mA,h.Ns1 a mA/\∀ f,Z8 (fs.lookup f) (mA f)
 |.rng lo hi=>∃ t u v,h.get? a=some { cls:=.type "range", data:=.fields #[.int lo t,.int hi u,.int 1 v] }
 |.frz o u=>h.get? a=some o/\fV H h a u
 |.tbl ps=>h.get? a=some { cls:=.none,data:=.fields ps }
 |.met f x=>h.get? a=some (rb (.ref f) (.ref x))
 |.ext φ=>φ P w h/\(∃ o,h.get? a=some o)/\∀ h1 h2:Heap,φ P w h1->(∀ o,h1.get? a=some o->h2.get? a=some o)->φ P w h2
def dN (H:Hp)(h:Heap):Prop:=∀ a o,H a=some o->fV P w H h a o
end
section
variable {P:bq}{w:cq}{H H':Hp}{h h':Heap}{a:Addr}{o:HO}
theorem fV.lt (x:fV P w H h a o):a<h.objs.size:=by
 cases o with
 |lst xs=>obtain⟨_,_,_,_,e⟩:=x;exact a9 e
 |tup xs=>obtain⟨_,_,_,p⟩:=x;exact p.lt
 |dK gU=>obtain⟨_,_,_,_,o,_,_,e,_⟩:=x;exact a9 e
 |dT gU=>obtain⟨_,_,_,_,o,_,_,e,_⟩:=x;exact a9 e
 |set S n=>obtain⟨o,_,_,_,e,_⟩:=x;exact a9 e
 |ins C dx fs=>obtain⟨_,_,_,e,_⟩:=x;exact a9 e
 |own y=>obtain⟨_,e⟩:=x;exact a9 e
 |xd fs=>obtain⟨_,⟨_,_,_,e,_⟩,_⟩:=x;exact a9 e
 |rng lo hi=>obtain⟨_,_,_,e⟩:=x;exact a9 e
 |frz ob u=>obtain⟨e,_⟩:=x;exact a9 e
 |tbl ps=>exact a9 (show h.get? a=some _ from x)
 |met f y=>exact a9 (show h.get? a=some _ from x)
 |ext φ=>obtain⟨_,⟨_,e⟩,_⟩:=x;exact a9 e
theorem Paired.Ak {α β:Type}{F G:α->β->Prop}:∀{l₁:List α}{l₂:List β},Pf F l₁ l₂->(∀ a b,F a b->G a b)->Pf G l₁ l₂
 |_,_,.nil,_=>.nil
 |_,_,.cons r t,f=>.cons (f _ _ r) (Paired.Ak t f)
theorem fV.nX (x:fV P w H h a o)(k:∀ b u,(b=a∨H b=some (.own a))->h.get? b=some u->h'.get? b=some u)
 (ho:∀ b,H b=some (.own a)->H' b=some (.own a))(ht:∀ b xs,H b=some (.tup xs)->H' b=some (.tup xs)):fV P w H' h' a o:=by
 induction o with
 |lst xs=>obtain⟨z,aD,n,r,e⟩:=x;exact⟨z,aD,n,r,k _ _ (.inl rfl) e⟩
 |tup xs=>obtain⟨z,aD,r,ob,e,c⟩:=x;exact⟨z,aD,r,ob,k _ _ (.inl rfl) e,c⟩
 |dK gU=>obtain⟨z,y,vs,r,ob,es,ep,e,c⟩:=x;exact⟨z,y,vs,r,ob,es,ep,k _ _ (.inl rfl) e,c⟩
 |dT gU =>
 obtain⟨z,y,xs,r,ob,es,ep,e,c⟩:=x
 exact⟨z,y,xs,Paired.Ak r fun p q z=>⟨z.1,ht _ _ z.2.1,z.2.2⟩,ob,es,ep,k _ _ (.inl rfl) e,c⟩
 |set S n=>obtain⟨ob,es,ep,t,e,c⟩:=x;exact⟨ob,es,ep,t,k _ _ (.inl rfl) e,c⟩
 |ins C dx fs =>
 obtain⟨d,z,ne,e,mA,⟨od,es,ep,e2,c⟩,r⟩:=x
 exact⟨ho _ d,z,ne,k _ _ (.inl rfl) e,mA,⟨od,es,ep,k _ _ (.inr d) e2,c⟩,r⟩
 |own y=>obtain⟨ob,e⟩:=x;exact⟨ob,k _ _ (.inl rfl) e⟩
 |xd fs=>obtain⟨mA,⟨od,es,ep,e,c⟩,r⟩:=x;exact⟨mA,⟨od,es,ep,k _ _ (.inl rfl) e,c⟩,r⟩
 |rng lo hi=>obtain⟨t,u,v,e⟩:=x;exact⟨t,u,v,k _ _ (.inl rfl) e⟩
 |frz ob u ih=>obtain⟨e,q⟩:=x;exact⟨k _ _ (.inl rfl) e,ih q⟩
 |tbl ps =>
 have e:h.get? a=some { cls:=.none,data:=.fields ps }:=x
 show h'.get? a=some { cls:=.none,data:=.fields ps }
 exact k a _ (.inl rfl) e
 |met f y =>
 have e:h.get? a=some (rb (.ref f) (.ref y)):=x
 show h'.get? a=some (rb (.ref f) (.ref y))
 exact k a _ (.inl rfl) e
 |ext φ=>obtain⟨p,⟨o,e⟩,st⟩:=x;exact⟨st _ _ p fun o q=>k _ _ (.inl rfl) q,⟨o,k _ _ (.inl rfl) e⟩,st⟩
theorem dN.lt (x:dN P w H h)(e:H a=some o):a<h.objs.size:=(x a o e).lt
theorem dN.fresh (x:dN P w H h)(e:h.objs.size<=a):H a=none:=by
 cases q:H a with
 |none=>rfl
 |some u=>exact absurd (bu (x.lt q) e) (jh _)
theorem dN.kept (x:dN P w H h)(k:∀ b u,h.get? b=some u->h'.get? b=some u):dN P w H h':=fun a o e =>
 (x a o e).nX (fun b u _ q=>k b u q) (fun _ q=>q) fun _ _ q=>q
theorem dN.laid (x:dN P w H h)(k:∀ b u,h.get? b=some u->h'.get? b=some u)(hp:h.objs.size<=a)(new:fV P w (upd H a o) h' a o):dN P w (upd H a o) h':=fun b u e=>by
 have hn:=x.fresh hp
 by_cases hb:b=a
 ·subst hb;rw[dH]at e;cases e;exact new
 ·rw[aZ hb]at e
  exact(x b u e).nX (fun c v _ q=>k c v q) (fun c q=>by rw[aZ (cJ q hn)];exact q) fun c xs q=>by rw[aZ (cJ q hn)];exact q
end
def Rd (H:Hp)(a:Addr)(u:HO):Prop:=H a=some u∨∃ o,H a=some (.frz o u)
theorem Rd.ok {P:bq}{w:cq}{H:Hp}{h:Heap}{a:Addr}{u:HO}(r:Rd H a u)(x:dN P w H h):fV P w H h a u:=by
 rcases r with r|⟨o,r⟩
 ·exact x a u r
 ·obtain⟨_,q⟩:=x a _ r
  exact q
def UR:Option HO->Prop
 |some (.lst _)=>True
 |some (.dK _)=>True
 |some (.dT _)=>True
 |some (.set _ _)=>True
 |some (.ins _ _ _)=>True
 |some (.ext _)=>True
 |_=>False
section
variable {P:bq}{w:cq}{H:Hp}{h h':Heap}{x e:Addr}{o':HO}
theorem dN.write (ok:dN P w H h)(mu:UR (H x))(he:e=x∨H e=some (.own x))(k:∀ b u,b≠e->h.get? b=some u->h'.get? b=some u)(heo:∃ u,h'.get? e=some u)
  (new:fV P w (upd H x o') h' x o'):dN P w (upd H x o') h':=fun b u q=>by
 have nown:∀ c y,H c=some (.own y)->c≠x:=fun c y r z=>by subst z;rw[r]at mu;exact mu
 have ntup:∀ c xs,H c=some (.tup xs)->c≠x:=fun c xs r z=>by subst z;rw[r]at mu;exact mu
 by_cases hb:b=x
 ·subst hb;rw[dH]at q;cases q;exact new
 ·rw[aZ hb]at q
  by_cases hbe:b=e
  ·have q':H b=some (.own x):=by
    rcases he with z|z
    ·exact absurd (hbe.trans z) hb
    ·rw[hbe];exact z
   rw[q]at q';cases q'
   obtain⟨v,hv⟩:=heo
   exact⟨v,by rw[hbe];exact hv⟩
  ·refine(ok b u q).nX (fun c v hc r=>k c v ?_ r) (fun c r=>by rw[aZ (nown c b r)];exact r) fun c xs r=>by rw[aZ (ntup c xs r)];exact r
   rcases hc with rfl|hc
   ·exact hbe
   ·rintro rfl
    rcases he with z|z
    ·exact nown c b hc z
    ·rw[hc]at z;cases z;exact hb rfl
end
structure Un (fs ex:List Addr)(H H':Hp)(h h':Heap):Prop where
 keep:∀ b o,h.get? b=some o->H b=none->b∉fs->b∉ex->h'.get? b=some o
 slot:∀ b o,h.get? b=some o->H b=none->b∈fs->b∉ex->∃ sl,h'.get? b=some { o with slots:=sl }
 free:∀ b o,h.get? b=some o->H b=none->b∉ex->H' b=none
 there:∀ b o,h.get? b=some o->b∉ex->∃ o',h'.get? b=some o'
 iM:∀ b xs,H b=some (.tup xs)->H' b=some (.tup xs)
 iA:∀ b o u,H b=some (.frz o u)->H' b=some (.frz o u)
 iX:∀ b ps,H b=some (.tbl ps)->∃ more,H' b=some (.tbl (ps++more))
section
variable {fs fs' ex ex':List Addr}{H H1 H2:Hp}{h h1 h2 h':Heap}{a x e:Addr}{o:HO}
theorem Un.any (u:Un fs ex H H1 h h1){b:Addr}{ob:Obj}(q:h.get? b=some ob)(n:H b=none)(hx:b∉ex):∃ sl,h1.get? b=some { ob with slots:=sl }:=by
 by_cases hb:b∈fs
 ·exact u.slot b ob q n hb hx
 ·exact⟨ob.slots,u.keep b ob q n hb hx⟩
theorem Un.kept (k:∀ b u,h.get? b=some u->h'.get? b=some u):Un fs ex H H h h' :=
 ⟨fun b ob q _ _ _=>k b ob q,fun b ob q _ _ _=>⟨ob.slots,k b ob q⟩,fun _ _ _ n _=>n,fun b ob q _=>⟨ob,k b ob q⟩,fun _ _ q=>q,fun _ _ _ q=>q,fun _ ps q=>⟨#[],by rw[q];simp⟩⟩
theorem Un.refl:Un fs ex H H h h:=Un.kept fun _ _ q=>q
theorem Un.laid (k:∀ b u,h.get? b=some u->h'.get? b=some u)(hp:h.objs.size<=a)(hn:H a=none):Un fs ex H (upd H a o) h h' where
 keep:=fun b u q _ _ _=>k b u q
 slot:=fun b u q _ _ _=>⟨u.slots,k b u q⟩
 free:=fun b u q n _=>by rw[aZ (bj (bu (a9 q) hp))];exact n
 there:=fun b u q _=>⟨u,k b u q⟩
 iM:=fun b xs q=>by rw[aZ (cJ q hn)];exact q
 iA:=fun b u xs q=>by rw[aZ (cJ q hn)];exact q
 iX:=fun b ps q=>⟨#[],by rw[aZ (cJ q hn),q];simp⟩
theorem Un.write (mu:UR (H x))(he:e=x∨H e=some (.own x))(k:∀ b u,b≠e->h.get? b=some u->h'.get? b=some u)(heo:∃ u,h'.get? e=some u):Un fs ex H (upd H x o) h h':=by
 have hx:∀ b,H b=none->b≠x:=fun b n z=>by subst z;rw[n]at mu;exact mu
 have hb:∀ b,H b=none->b≠e:=fun b n z=>by
  subst z
  rcases he with r|r
  ·exact hx b n r
  ·rw[n]at r;cases r
 have hm:∀ b u,H b=some u->¬UR (some u)->b≠x:=fun b u q nm z=>by subst z;rw[q]at mu;exact nm mu
 refine⟨fun b u q n _ _=>k b u (hb b n) q,fun b u q n _ _=>⟨u.slots,k b u (hb b n) q⟩,fun b u q n _=>by rw[aZ (hx b n)];exact n,fun b u q _=>?_,
  fun b xs q=>by rw[aZ (hm b _ q fun z=>z)];exact q,fun b u xs q=>by rw[aZ (hm b _ q fun z=>z)];exact q,fun b ps q=>⟨#[],by rw[aZ (hm b _ q fun z=>z),q];simp⟩⟩
 by_cases hbe:b=e
 ·subst hbe;exact heo
 ·exact⟨u,k b u hbe q⟩
end
noncomputable def xS (h:Heap)(H:Hp):List Addr:=(bc h.objs.size).filter fun a=>(H a).isSome
noncomputable def sM (h:Heap)(H:Hp):Heap:=PySem.W.hideAll h (xS h H)
theorem OP (h:Heap)(H:Hp):(sM h H).objs.size=h.objs.size:=PySem.W.hideAll_size _ _
theorem RL {h:Heap}{H:Hp}{b:Addr}{o:Obj}(e:h.get? b=some o)(n:H b=none):(sM h H).get? b=some o :=
 PySem.W.hideAll_get _ e fun hm=>by
 have q:(H b).isSome=true:=(List.mem_filter.mp hm).2
 rw[n]at q;simp at q
theorem W0 {h:Heap}{H:Hp}{b:Addr}{o:Obj}(e:(sM h H).get? b=some o):h.get? b=some o/\H b=none:=by
 have e':h.get? b=some o:=PySem.W.of_hideAll (xS h H) e
 refine⟨e',?_⟩
 cases q:H b with
 |none=>rfl
 |some x =>
 have hm:b∈xS h H:=List.mem_filter.mpr ⟨List.mem_range.mpr (a9 e'),by simp [q]⟩
 have z:(sM h H).get? b=none:=PySem.W.hideAll_none (xS h H) hm
 rw[z]at e;cases e
noncomputable def X2 (g h:Heap)(L:Addr):List (Addr×Obj):=(bc h.objs.size).filterMap fun a=>if a=L∨(g.get? a).isSome=true then none else(h.get? a).map fun o=>(a,o)
noncomputable def rest (g h:Heap)(L d:Addr):List (Addr×Obj):=(X2 g h L).filter fun p=>decide (p.1≠d)
end L2
namespace L2
open PySem PySem.Spec PyProof.Rows
structure Mod (K:ae)(mg:Str->Option Value)(base:Heap):Prop where
 kin:K.In base
 glob:base.Ns br mg
 blt:∃ mb,base.Ns zo mb/\∀ x:Str,x ≠"__name__" -> mb x=cu x
 nolimit:base.NoLimit
structure Cx where
 prog:bq
 w:cq
 K:ae
 mg:Str->Option Value
 base:Heap
 A:cg
 N:List Str
 s₀:ah
 H₀:Hp
 env:Env
 outer:List Env
 stack:List Env
 ex:List Addr
 fn:Str->Bool
 calm:Bool
 pn:List (Addr×Obj)
 xe:Value->ah->Prop
noncomputable def eM (l:List Env):List Addr:=l.filterMap (·.frame)
noncomputable abbrev Cx.fs (X:Cx):List Addr:=eM X.outer
def TU (sc:Scope)(x:Str):Prop:=sc.names.lookup x=some .local∨sc.names.lookup x=some .cell∨sc.names.lookup x=some .free
def Loc (sc:Scope)(x:Str):Prop:=sc.names.lookup x=some .local∨sc.names.lookup x=some .cell
def Look (env:Env)(h:Heap)(m:Str->Option Value)(x:Str)(u:Value):Prop :=
 (env.kindOf x=some .local/\m x=some u)∨((env.kindOf x=some .cell∨env.kindOf x=some .free)/\∃ c,env.cells.lookup x=some c/\h.IsCell c (some u))
structure Cx.Ok (X:Cx):Prop where
 mod:Mod X.K X.mg X.base
 kind:X.env.scope.kind=.function
 glob:X.env.globals=br
 blt:X.env.builtins=zo
 above:X.s₀.heap.objs.size<=X.env.locals
 inj:∀ x y c,X.env.cells.lookup x=some c->X.env.cells.lookup y=some c->x=y
 has:∀ x,(X.env.kindOf x=some .cell∨X.env.kindOf x=some .free)->∃ c,X.env.cells.lookup x=some c
 cab:∀ x c,X.fn x=true->X.env.cells.lookup x=some c->X.s₀.heap.objs.size<=c
 hd:X.calm=true->X.A.handled=none
 frames:X.A.frames=some X.stack
 stk:X.stack=X.outer∨(X.stack=X.env::X.outer/\X.env.frame=some X.env.locals)
 exf:∀ b∈X.ex,b≠X.env.locals/\∀ x c,X.env.cells.lookup x=some c->c≠b
 bs:∀ b o,X.base.get? b=some o->X.s₀.heap.get? b=some o/\X.H₀ b=none
 bsz:X.base.objs.size<=X.s₀.heap.objs.size
 noex:∀ b o,X.base.get? b=some o->b∉X.ex
 exfs:∀ b∈X.ex,b∉X.fs
 kG:X.s₀.heap.FunFrames X.base X.outer
 frf:∀ b∈X.fs,X.H₀ b=none
structure Inv (X:Cx)(pz:List (Addr×Obj))(σ:List (Option V))(H:Hp)(s:ah):Prop where
 ok:X.Ok
 os:s.os=X.s₀.os
 bare:px s.gens
 base:Un X.fs X.ex X.H₀ H X.s₀.heap s.heap
 loc:∃ m,s.heap.Ns X.env.locals m/\∀(i:Nat)(x:Str)(v:V),X.N[i]? = some x->σ[i]? = some (some v)->TU X.env.scope x->∃ u,RelV v u/\Look X.env s.heap m x u
 cell:∀ x c,X.env.cells.lookup x=some c->∃ v,s.heap.IsCell c v
 free:H X.env.locals=none
 jG:∀ x c,X.env.cells.lookup x=some c->H c=none
 pin:∀ p∈X.pn++pz,s.heap.get? p.1=some p.2/\H p.1=none/\p.1≠X.env.locals/\p.1∉X.fs/\∀ v,p.2.data≠.cell v
 bJ:dN X.prog X.w H s.heap
 len:σ.length=X.N.length
section
variable {X:Cx}{pz:List (Addr×Obj)}{σ:List (Option V)}{H H':Hp}{s:ah}{h':Heap}
theorem Cx.Ok.Kc (ok:X.Ok){b:Addr}{o:Obj}(e:X.base.get? b=some o):b∉X.fs:=fun hb=>by
 have:=(ok.kG.mem hb).1
 rw[e]at this;cases this
theorem Inv.bs (I:Inv X pz σ H s):∀ b o,X.base.get? b=some o->s.heap.get? b=some o/\H b=none:=fun b o e =>
 ⟨I.base.keep b o (I.ok.bs b o e).1 (I.ok.bs b o e).2 (I.ok.Kc e) (I.ok.noex b o e),I.base.free b o (I.ok.bs b o e).1 (I.ok.bs b o e).2 (I.ok.noex b o e)⟩
theorem Inv.bk (I:Inv X pz σ H s):∀ b o,X.base.get? b=some o->s.heap.get? b=some o:=fun b o e=>(I.bs b o e).1
theorem Inv.mod (I:Inv X pz σ H s):Mod X.K X.mg X.base:=I.ok.mod
theorem Inv.jQ (I:Inv X pz σ H s):X.K.In s.heap:=I.ok.mod.kin.keeps I.bk
theorem Inv.fr (I:Inv X pz σ H s):∃ m,Fr X.base X.env.locals s.heap m :=
 let⟨m,hn,_⟩:=I.loc
 ⟨m,hn,I.bk,bz I.ok.bsz I.ok.above⟩
theorem Inv.lt (I:Inv X pz σ H s):X.env.locals<s.heap.objs.size:=let⟨_,hn,_⟩:=I.loc;hn.lt
theorem Inv.sz (I:Inv X pz σ H s):X.s₀.heap.objs.size<=s.heap.objs.size:=bz I.ok.above (uf I.lt)
theorem Inv.Q2 (I:Inv X pz σ H s){a:Addr}(h:s.heap.objs.size<=a):a∉X.fs:=fun hb=>by
 obtain⟨_,o,ho,_⟩:=I.ok.kG.mem hb
 exact absurd (bu (a9 ho) (bz I.sz h)) (jh _)
theorem Inv.xZ (I:Inv X pz σ H s):∀ x c,X.env.cells.lookup x=some c->c≠X.env.locals:=fun x c e z=>by
 obtain⟨v,o,ho,hd⟩:=I.cell x c e
 obtain⟨m,⟨o',es,ep,ho',hd',_⟩,_⟩:=I.loc
 rw[z,ho']at ho;cases ho;rw[hd']at hd;cases hd
theorem Inv.kG (I:Inv X pz σ H s):s.heap.FunFrames X.base X.outer:=by
 have all:∀(l:List Env),(∀ b∈eM l,b∈X.fs)->X.s₀.heap.FunFrames X.base l->s.heap.FunFrames X.base l:=by
  intro l
  induction l with
  |nil=>intro _ _;trivial
  |cons env r ih =>
   intro hs hl
   obtain⟨hk,⟨L,o,hf,hn,ho,hd⟩,hr⟩:=hl
   have hL:L∈X.fs:=hs L (by unfold eM;rw[gb,hf];exact fb)
   obtain⟨sl,e⟩:=I.base.slot L o ho (I.ok.frf L hL) hL fun z=>I.ok.exfs L z hL
   exact⟨hk,⟨L,_,hf,hn,e,hd⟩,ih (fun b hb=>hs b (by unfold eM;rw[gb,hf];exact ek _ hb)) hr⟩
 exact all X.outer (fun _ hb=>hb) I.ok.kG
theorem Inv.stack (I:Inv X pz σ H s):s.heap.FunFrames X.base X.stack:=by
 rcases I.ok.stk with e|⟨e,hf⟩
 ·rw[e];exact I.kG
 ·rw[e]
  obtain⟨m,hn,_⟩:=I.loc
  refine .cons (by rw[I.ok.kind];decide) hf hn ?_ I.kG
  exact vm (bz I.ok.bsz I.ok.above)
theorem Inv.G1 (I:Inv X pz σ H s):∀ b∈eM X.stack,b∈X.env.locals::X.fs:=fun b hb=>by
 rcases I.ok.stk with e|⟨e,hf⟩
 ·rw[e]at hb;exact ek _ hb
 ·rw[e]at hb
  unfold eM at hb
  rw[gb,hf]at hb
  exact hb
theorem Inv.mS (I:Inv X pz σ H s):∀ b∈eM X.stack,H b=none:=fun b hb=>by
 rcases List.mem_cons.mp (I.G1 b hb)with e|hb
 ·rw[e];exact I.free
 ·obtain⟨_,o,ho,_⟩:=I.ok.kG.mem hb
  exact I.base.free b o ho (I.ok.frf b hb) fun z=>I.ok.exfs b z hb
theorem Inv.step {g':Array xt}{t':Nat}{d':Drawn}{ch:List Addr}(I:Inv X pz σ H s)
  (hch:∀ b∈ch,(b∈X.ex∨X.s₀.heap.objs.size<=b)/\b≠X.env.locals/\(∀ x c,X.env.cells.lookup x=some c->c≠b)/\∀ p∈X.pn++pz,p.1≠b)
  (keep:∀ b o,b≠X.env.locals->b∉X.fs->b∉ch->s.heap.get? b=some o->H b=none->h'.get? b=some o)
  (slot:∀ b o,b≠X.env.locals->b∈X.fs->b∉ch->s.heap.get? b=some o->H b=none->∃ sl,h'.get? b=some { o with slots:=sl })(free:∀ b o,b∉ch->s.heap.get? b=some o->H b=none->H' b=none)
  (there:∀ b o,b∉ch->s.heap.get? b=some o->∃ o',h'.get? b=some o')
  (iM:∀ b xs,H b=some (.tup xs)->H' b=some (.tup xs))(iA:∀ b o u,H b=some (.frz o u)->H' b=some (.frz o u))(iX:∀ b ps,H b=some (.tbl ps)->∃ more,H' b=some (.tbl (ps++more)))
  (ns:∀ m,s.heap.Ns X.env.locals m->h'.Ns X.env.locals m)(bJ:dN X.prog X.w H' h')(hg:px g'):
  Inv X pz σ H' { s with heap:=h',gens:=g',drawn:=d',toks:=t' }:=by
 have neL:∀ b o,X.s₀.heap.get? b=some o->b≠X.env.locals:=fun b o e=>bj (bu (a9 e) I.ok.above)
 have neC:∀ b o,X.s₀.heap.get? b=some o->b∉X.ex->b∉ch:=fun b o e hx hb=>by
  rcases(hch b hb).1 with z|z
  ·exact hx z
  ·exact absurd (bu (a9 e) z) (jh _)
 have cellK:∀ x c,X.env.cells.lookup x=some c->∀ v,s.heap.IsCell c v->h'.IsCell c v:=fun x c e v ⟨o,ho,hd⟩=>by
  have nch:c∉ch:=fun z=>(hch c z).2.2.1 x c e rfl
  by_cases hc:c∈X.fs
  ·obtain⟨sl,q⟩:=slot c o (I.xZ x c e) hc nch ho (I.jG x c e)
   exact⟨_,q,hd⟩
  ·exact⟨o,keep c o (I.xZ x c e) hc nch ho (I.jG x c e),hd⟩
 refine⟨I.ok,I.os,hg,⟨fun b o e n hb hx=>?_,fun b o e n hb hx=>?_,fun b o e n hx=>?_,fun b o e hx=>?_,fun b xs e=>iM b xs (I.base.iM b xs e),fun b o xs e=>iA b o xs (I.base.iA b o xs e),fun b ps e=>?_⟩,?_,fun x c e=>?_,?_,fun x c e=>?_,fun p hp=>?_,bJ,I.len⟩
 ·exact keep b o (neL b o e) hb (neC b o e hx) (I.base.keep b o e n hb hx) (I.base.free b o e n hx)
 ·obtain⟨sl,e1⟩:=I.base.slot b o e n hb hx
  obtain⟨sl',e2⟩:=slot b _ (neL b o e) hb (neC b o e hx) e1 (I.base.free b o e n hx)
  exact⟨sl',e2⟩
 ·obtain⟨o',e1⟩:=I.base.there b o e hx
  exact free b o' (neC b o e hx) e1 (I.base.free b o e n hx)
 ·obtain⟨o',e1⟩:=I.base.there b o e hx
  exact there b o' (neC b o e hx) e1
 ·obtain⟨m1,e1⟩:=I.base.iX b ps e
  obtain⟨m2,e2⟩:=iX b _ e1
  exact⟨m1++m2,by rw[e2,Array.append_assoc]⟩
 ·obtain⟨m,hn,hl⟩:=I.loc
  refine⟨m,ns m hn,fun i x v e1 e2 e3=>?_⟩
  obtain⟨u,r,l⟩:=hl i x v e1 e2 e3
  refine⟨u,r,?_⟩
  rcases l with l|⟨k,c,e,z⟩
  ·exact .inl l
  ·exact .inr ⟨k,c,e,cellK x c e _ z⟩
 ·obtain⟨v,z⟩:=I.cell x c e
  exact⟨v,cellK x c e v z⟩
 ·obtain⟨m,⟨o,_,_,ho,_⟩,_⟩:=I.loc
  exact free _ o (fun z=>(hch _ z).2.1 rfl) ho I.free
 ·obtain⟨v,o,ho,hd⟩:=I.cell x c e
  exact free c o (fun z=>(hch c z).2.2.1 x c e rfl) ho (I.jG x c e)
 ·obtain⟨e,n,ne,nf,d⟩:=I.pin p hp
  have nch:p.1∉ch:=fun z=>(hch p.1 z).2.2.2 p hp rfl
  exact⟨keep p.1 p.2 ne nf nch e n,free p.1 p.2 nch e n,ne,nf,d⟩
theorem Inv.un {t':Nat}(I:Inv X pz σ H s)(u:Un X.fs [] H H' s.heap h')(bJ:dN X.prog X.w H' h'):Inv X pz σ H' { s with heap:=h',toks:=t' }:=by
 obtain⟨m,⟨o,es,ep,ho,r⟩,_⟩:=id I.loc
 obtain⟨sl,hL⟩:=u.any ho I.free (by simp)
 exact I.step (g':=s.gens) (d':=s.drawn) (ch:=[]) (fun _ z=>nomatch z) (fun b o _ hb _ e n=>u.keep b o e n hb (by simp)) (fun b o _ hb _ e n=>u.slot b o e n hb (by simp)) (fun b o _ e n=>u.free b o e n (by simp)) (fun b o _ e=>u.there b o e (by simp)) u.iM u.iA u.iX (fun m' hm=>by
 obtain⟨o',es',ep',ho',r'⟩:=hm
 rw[ho]at ho';cases ho'
 exact⟨_,es',ep',hL,r'⟩) bJ I.bare
theorem Inv.call {g':Array xt}{t':Nat}{d':Drawn}{ch:List Addr}(I:Inv X pz σ H s)(u:Un (eM X.stack) ch H H' s.heap h')(bJ:dN X.prog X.w H' h')(hg:px g')
 (hch:∀ b∈ch,(b∈X.ex∨X.s₀.heap.objs.size<=b)/\b≠X.env.locals/\(∀ x c,X.env.cells.lookup x=some c->c≠b)/\∀ p∈X.pn++pz,p.1≠b):
 Inv X pz σ H' { s with heap:=h',gens:=g',drawn:=d',toks:=t' }:=by
 obtain⟨m,⟨o,es,ep,ho,r⟩,_⟩:=id I.loc
 obtain⟨sl,hL⟩:=u.any ho I.free fun z=>(hch _ z).2.1 rfl
 exact I.step (ch:=ch) hch (fun b o hL hb hc e n=>u.keep b o e n (fun z=>(List.mem_cons.mp (I.G1 b z)).elim hL hb) hc) (fun b o _ _ hc e n=>u.any e n hc) (fun b o hc e n=>u.free b o e n hc) (fun b o hc e=>u.there b o e hc) u.iM u.iA u.iX (fun m' hm=>by
 obtain⟨o',es',ep',ho',r'⟩:=hm
 rw[ho]at ho';cases ho'
 exact⟨_,es',ep',hL,r'⟩) bJ hg
theorem Inv.turned {t':Nat}{it:Addr}(I:Inv X pz σ H s)(k:∀ b o,b≠it->s.heap.get? b=some o->h'.get? b=some o)(hn:H it=none)(hL:it≠X.env.locals)
  (h1:it∈X.ex∨X.s₀.heap.objs.size<=it)(h2:∀ x c,X.env.cells.lookup x=some c->c≠it)(h3:∀ p∈X.pn++pz,p.1≠it):Inv X pz σ H { s with heap:=h',toks:=t' }:=by
 have nit:∀ b u,H b=some u->b≠it:=fun b u e z=>by rw[z,hn]at e;cases e
 refine I.step (g':=s.gens) (d':=s.drawn) (ch:=[it]) (fun b hb=>?_) (fun b o _ _ hc e _=>k b o (fun z=>hc (by simp [z])) e) (fun b o _ _ hc e _=>⟨o.slots,k b o (fun z=>hc (by simp [z])) e⟩) (fun _ _ _ _ n=>n)
  (fun b o hc e=>⟨o,k b o (fun z=>hc (by simp [z])) e⟩) (fun _ _ e=>e) (fun _ _ _ e=>e) (fun b ps e=>⟨#[],by rw[e];simp⟩) (fun m hm=>?_) (fun b u e=>?_) I.bare
 ·have e:b=it:=by simpa using hb
  subst e
  exact⟨h1,hL,h2,h3⟩
 ·obtain⟨o,es,ep,ho,r⟩:=hm
  exact⟨o,es,ep,k _ o (gp hL) ho,r⟩
 ·refine(I.bJ b u e).nX (fun c v hc q=>k c v ?_ q) (fun _ q=>q) fun _ _ q=>q
  rcases hc with z|z
  ·rw[z];exact nit b u e
  ·exact nit c _ z
theorem Inv.tok (I:Inv X pz σ H s)(t:Nat):Inv X pz σ H { s with toks:=t }:=I.un (h':=s.heap) (t':=t) Un.refl I.bJ
theorem Inv.kept {t':Nat}(I:Inv X pz σ H s)(k:∀ b u,s.heap.get? b=some u->h'.get? b=some u):Inv X pz σ H { s with heap:=h',toks:=t' }:=I.un (Un.kept k) (I.bJ.kept k)
theorem Inv.laid {a:Addr}{o:HO}{t':Nat}(I:Inv X pz σ H s)(k:∀ b u,s.heap.get? b=some u->h'.get? b=some u)(hp:s.heap.objs.size<=a)(new:fV X.prog X.w (upd H a o) h' a o):
 Inv X pz σ (upd H a o) { s with heap:=h',toks:=t' }:=I.un (Un.laid k hp (I.bJ.fresh hp)) (I.bJ.laid k hp new)
theorem Inv.write {x e:Addr}{o:HO}{t':Nat}(I:Inv X pz σ H s)(mu:UR (H x))(he:e=x∨H e=some (.own x))(k:∀ b u,b≠e->s.heap.get? b=some u->h'.get? b=some u)(heo:∃ u,h'.get? e=some u)
 (new:fV X.prog X.w (upd H x o) h' x o):Inv X pz σ (upd H x o) { s with heap:=h',toks:=t' }:=I.un (Un.write mu he k heo) (I.bJ.write mu he k heo new)
theorem Inv.weak {σ':List (Option V)}(I:Inv X pz σ H s)(hl:σ'.length=σ.length)(w:∀(i:Nat) v,σ'[i]? = some (some v)->σ[i]? = some (some v)):Inv X pz σ' H s :=
 ⟨I.ok,I.os,I.bare,I.base,let⟨m,hn,hl'⟩:=I.loc;⟨m,hn,fun i x v e1 e2 e3=>hl' i x v e1 (w i v e2) e3⟩,I.cell,I.free,I.jG,I.pin,I.bJ,hl.trans I.len⟩
theorem Inv.JX {pz':List (Addr×Obj)}(I:Inv X pz σ H s)(h:∀ p∈pz',s.heap.get? p.1=some p.2/\H p.1=none/\p.1≠X.env.locals/\p.1∉X.fs/\∀ v,p.2.data≠.cell v):Inv X pz' σ H s :=
 ⟨I.ok,I.os,I.bare,I.base,I.loc,I.cell,I.free,I.jG,fun p hp=>(List.mem_append.mp hp).elim (fun z=>I.pin p (ll _ z)) (h p),I.bJ,I.len⟩
theorem FH {N:List Str}(hN:N.Nodup){i j:Nat}{x:Str}(a:N[i]? = some x)(b:N[j]? = some x):i=j:=by
 obtain⟨h1,e1⟩:=List.getElem?_eq_some_iff.mp a
 obtain⟨h2,e2⟩:=List.getElem?_eq_some_iff.mp b
 exact(List.getElem_inj hN).mp (e1.trans e2.symm)
theorem ED {M:Model}{A:cg}{E:Value->ah->Prop}{i:Nat}{x:Str}{v:V}{u:Value}{Q:Unit->ah->Prop}(I:Inv X pz σ H s)(hN:X.N.Nodup)(hi:X.N[i]? = some x)(hx:Loc X.env.scope x)(r:RelV v u)
  (h:∀ s',Inv X pz (σ.set i (some v)) H s'->(∃ a,j2 a s.heap s'.heap/\(a=X.env.locals∨X.env.cells.lookup x=some a))->Q () s')(hf:X.fn x=true∨X.env.scope.names.lookup x=some .local:=by first|exact .inl rfl|exact .inr rfl|assumption):wpAny M A (Ox X.env x u) Q E s:=by
 obtain⟨m,hn,hl⟩:=id I.loc
 have hcls:(X.env.scope.kind == .class||(X.env.scope.kind == .module&&X.env.locals != X.env.globals))=false:=by rw[I.ok.kind];rfl
 have hiσ:i<σ.length:=by rw[I.len];exact(List.getElem?_eq_some_iff.mp hi).1
 have xZ:=I.xZ
 have tracked:∀{a:Addr}{h':Heap},(∃ o,s.heap.get? a=some o/\H a=none)->j2 a s.heap h'->dN X.prog X.w H h':=fun{a h'} ha hs b ob e=>by
  obtain⟨_,_,hfree⟩:=ha
  refine(I.bJ b ob e).nX (fun c w' hc q=>(hs.2 c ?_).trans q) (fun _ q=>q) fun _ _ q=>q
  rintro rfl
  rcases hc with rfl|hc
  ·rw[hfree]at e;cases e
  ·rw[hfree]at hc;cases hc
 rcases hx with hk|hk
 ·refine wpAny_storeName_local hk hn (fun h' hn' hs=>?_) hcls
  obtain⟨oL,_,_,hoL,_⟩:=id hn
  refine h _ ⟨I.ok,I.os,I.bare,⟨fun b o e n hb hx=>?_,fun b o e n hb hx=>?_,I.base.free,fun b o e hx=>?_,I.base.iM,I.base.iA,I.base.iX⟩,⟨_,hn',fun j y v' e1 e2 e3=>?_⟩,fun y c e=>?_,I.free,I.jG,fun p hp=>?_,tracked ⟨oL,hoL,I.free⟩ hs,by simpa using I.len⟩ ⟨_,hs,.inl rfl⟩
  ·exact(hs.2 b (bj (bu (a9 e) I.ok.above))).trans (I.base.keep b o e n hb hx)
  ·obtain⟨sl,e1⟩:=I.base.slot b o e n hb hx
   exact⟨sl,(hs.2 b (bj (bu (a9 e) I.ok.above))).trans e1⟩
  ·obtain⟨o',e1⟩:=I.base.there b o e hx
   exact⟨o',(hs.2 b (bj (bu (a9 e) I.ok.above))).trans e1⟩
  ·by_cases hj:j=i
   ·subst hj
    rw[hi]at e1;cases e1
    rw[fe hiσ]at e2
    cases e2
    exact⟨u,r,.inl ⟨hk,by simp⟩⟩
   ·rw[ey (gp hj)]at e2
    obtain⟨u',r',q⟩:=hl j y v' e1 e2 e3
    refine⟨u',r',?_⟩
    rcases q with⟨k,e⟩|⟨k,c,e,z⟩
    ·refine .inl ⟨k,?_⟩
     have:y≠x:=fun e=>hj (FH hN e1 (e▸hi))
     simp [this,e]
    ·exact .inr ⟨k,c,e,z.sameBut hs (xZ y c e)⟩
  ·obtain⟨w',z⟩:=I.cell y c e
   exact⟨w',z.sameBut hs (xZ y c e)⟩
  ·obtain⟨e,n,ne,nf,d⟩:=I.pin p hp
   exact⟨(hs.2 p.1 ne).trans e,n,ne,nf,d⟩
 ·have hfn:X.fn x=true:=by
   rcases hf with z|z
   ·exact z
   ·rw[z]at hk;cases hk
  obtain⟨c,hc⟩:=I.ok.has x (.inl hk)
  obtain⟨w',z⟩:=I.cell x c hc
  refine wpAny_storeName_cell I.ok.kind hk hc z (fun h' hc' hs=>?_)
  obtain⟨oc,hoc,hocd⟩:=id z
  refine h { s with heap:=h' } ⟨I.ok,I.os,I.bare,⟨fun b o e n hb hx=>?_,fun b o e n hb hx=>?_,I.base.free,fun b o e hx=>?_,I.base.iM,I.base.iA,I.base.iX⟩,⟨m,hn.sameBut hs (gp (xZ x c hc)),fun j y v' e1 e2 e3=>?_⟩,fun y c' e=>?_,I.free,I.jG,fun p hp=>?_,tracked ⟨oc,hoc,I.jG x c hc⟩ hs,by simpa using I.len⟩ ⟨c,hs,.inr hc⟩
  ·exact(hs.2 b (bj (bu (a9 e) (I.ok.cab x c hfn hc)))).trans (I.base.keep b o e n hb hx)
  ·obtain⟨sl,e1⟩:=I.base.slot b o e n hb hx
   exact⟨sl,(hs.2 b (bj (bu (a9 e) (I.ok.cab x c hfn hc)))).trans e1⟩
  ·obtain⟨o',e1⟩:=I.base.there b o e hx
   exact⟨o',(hs.2 b (bj (bu (a9 e) (I.ok.cab x c hfn hc)))).trans e1⟩
  ·by_cases hj:j=i
   ·subst hj
    rw[hi]at e1;cases e1
    rw[fe hiσ]at e2
    cases e2
    exact⟨u,r,.inr ⟨.inl hk,c,hc,hc'⟩⟩
   ·rw[ey (gp hj)]at e2
    obtain⟨u',r',q⟩:=hl j y v' e1 e2 e3
    refine⟨u',r',?_⟩
    rcases q with q|⟨k,c',e,z'⟩
    ·exact .inl q
    ·refine .inr ⟨k,c',e,z'.sameBut hs ?_⟩
     rintro rfl
     exact hj (FH hN e1 (I.ok.inj _ _ _ e hc▸hi))
  ·by_cases hcc:c'=c
   ·subst hcc;exact⟨_,hc'⟩
   ·obtain⟨w2,z2⟩:=I.cell y c' e
    exact⟨w2,z2.sameBut hs hcc⟩
  ·obtain⟨e,n,ne,nf,d⟩:=I.pin p hp
   refine⟨(hs.2 p.1 ?_).trans e,n,ne,nf,d⟩
   intro q
   rw[q,hoc]at e
   have q':oc=p.2:=fh e
   exact d w' (by rw[<-q'];exact hocd)
theorem zK {M:Model}{A:cg}{E:Value->ah->Prop}{i:Nat}{x:Str}{v:V}{u:Value}{Q:Unit->ah->Prop}(I:Inv X pz σ H s)(hN:X.N.Nodup)(hi:X.N[i]? = some x)(hx:Loc X.env.scope x)(r:RelV v u)
 (h:∀ s',Inv X pz (σ.set i (some v)) H s'->Q () s')(hf:X.fn x=true∨X.env.scope.names.lookup x=some .local:=by first|exact .inl rfl|exact .inr rfl|assumption):wpAny M A (Ox X.env x u) Q E s :=
 ED I hN hi hx r (fun s' I' _=>h s' I') hf
theorem Inv.lT {s':ah}{ch:List Addr}(I:Inv X pz σ H s)(ho:s'.os=s.os)(u:Un (eM X.stack) ch H H' s.heap s'.heap)(bJ:dN X.prog X.w H' s'.heap)(hg:px s'.gens)
 (hch:∀ b∈ch,(b∈X.ex∨X.s₀.heap.objs.size<=b)/\b≠X.env.locals/\(∀ x c,X.env.cells.lookup x=some c->c≠b)/\∀ p∈X.pn++pz,p.1≠b):Inv X pz σ H' s':=by
 obtain⟨h',g',d',t',o'⟩:=s'
 have e:o'=s.os:=ho
 subst e
 exact I.call (g':=g') (t':=t') (d':=d') u bJ hg hch
end
abbrev XK:=Value->Option Addr->Hp->Prop
noncomputable abbrev St:=List (Option V)
abbrev VK:=V->Hp->Prop
abbrev TE:=St->Hp->VK->Prop
abbrev TT:=St->Hp->(Bool->Hp->Prop)->Prop
abbrev TA:=St->Hp->(List V->Hp->Prop)->Prop
structure Ends where
 nx:St->Hp->Prop
 rt:VK
 bk:St->Hp->Prop:=fun _ _=>False
 ct:St->Hp->Prop:=fun _ _=>False
abbrev TS:=Ends->St->Hp->Prop
inductive EP (X:Cx)(pz:List (Addr×Obj))(σ:St)(Q:VK)(u:Value)(s':ah):Prop
 |mk (v:V)(H':Hp)(i:Inv X pz σ H' s')(r:RelV v u)(q:Q v H')
inductive TP (X:Cx)(pz:List (Addr×Obj))(σ:St)(Q:Bool->Hp->Prop)(b:Bool)(s':ah):Prop
 |mk (H':Hp)(i:Inv X pz σ H' s')(q:Q b H')
inductive AP (X:Cx)(pz:List (Addr×Obj))(σ:St)(Q:List V->Hp->Prop)(us:List Value)(s':ah):Prop
 |mk (vs:List V)(H':Hp)(i:Inv X pz σ H' s')(r:aR vs us)(q:Q vs H')
def SP (X:Cx)(pz:List (Addr×Obj))(D:Ends)(f:Flow)(s':ah):Prop :=
 match f with
 |.next=>∃ σ' H',Inv X pz σ' H' s'/\D.nx σ' H'
 |.brk=>∃ σ' H',Inv X pz σ' H' s'/\D.bk σ' H'
 |.cont=>∃ σ' H',Inv X pz σ' H' s'/\D.ct σ' H'
 |.ret u=>∃ v σ' H',Inv X pz σ' H' s'/\RelV v u/\D.rt v H'
def PE (X:Cx)(e:b7)(t:TE):Prop :=
 ∀(pz:List (Addr×Obj))(s:ah)(σ:St)(H:Hp)(Q:VK),Inv X pz σ H s->t σ H Q->wpAny (model X.prog X.w) X.A (eval e X.env) (EP X pz σ Q) X.xe s
def PT (X:Cx)(e:b7)(t:TT):Prop :=
 ∀(pz:List (Addr×Obj))(s:ah)(σ:St)(H:Hp)(Q:Bool->Hp->Prop),Inv X pz σ H s->t σ H Q->wpAny (model X.prog X.w) X.A (xg e X.env (eval e X.env)) (TP X pz σ Q) X.xe s
def PW (X:Cx)(e:b7)(t:TT):Prop :=
 ∀(whole:Sem Value)(pz:List (Addr×Obj))(s:ah)(σ:St)(H:Hp)(Q:Bool->Hp->Prop),Inv X pz σ H s->t σ H Q->wpAny (model X.prog X.w) X.A (xg e X.env whole) (TP X pz σ Q) X.xe s
theorem PW.pt {X:Cx}{e:b7}{t:TT}(h:PW X e t):PT X e t:=h _
def PA (X:Cx)(es:List b7)(t:TA):Prop :=
 ∀(pos:Pos)(pz:List (Addr×Obj))(s:ah)(σ:St)(H:Hp)(Q:List V->Hp->Prop),Inv X pz σ H s->t σ H Q->wpAny (model X.prog X.w) X.A (zk (dq pos (ar es X.env))) (AP X pz σ Q) X.xe s
def PS (X:Cx)(st:Stmt)(t:TS):Prop :=
 ∀(pz:List (Addr×Obj))(s:ah)(σ:St)(H:Hp)(D:Ends),Inv X pz σ H s->t D σ H->wpAny (model X.prog X.w) X.A (exec st X.env) (SP X pz D) X.xe s
def iN (X:Cx)(st:List Stmt)(t:TS):Prop :=
 ∀(pz:List (Addr×Obj))(s:ah)(σ:St)(H:Hp)(D:Ends),Inv X pz σ H s->t D σ H->wpAny (model X.prog X.w) X.A (execs st X.env) (SP X pz D) X.xe s
theorem bA {α:Type}{t:Sem α}{Q Q':α->ah->Prop}{M:Model}{A:cg}{E:Value->ah->Prop}{s:ah}(h:wpAny M A t Q E s)(hQ:∀ a s,Q a s->Q' a s):wpAny M A t Q' E s:=ee h hQ fun _ _ x=>x
end L2
namespace L2
open PySem PySem.Spec PyProof.Rows
section
variable {X:Cx}
theorem bin {a b:b7}{ta tb:TE}(ha:PE X a ta)(hb:PE X b tb){pz:List (Addr×Obj)}{s:ah}{σ:St}{H:Hp}{R:V->V->Hp->Prop}(I:Inv X pz σ H s)(h:ta σ H fun x H1=>tb σ H1 fun y H2=>R x y H2)
 {α:Type}{Q:α->ah->Prop}{f:Value->Value->Sem α}
 (hf:∀ v u s2 x y H2,Inv X pz σ H2 s2->RelV x v->RelV y u->R x y H2->wpAny (model X.prog X.w) X.A (f v u) Q X.xe s2):
 wpAny (model X.prog X.w) X.A (eval a X.env) (fun v s₁=>wpAny (model X.prog X.w) X.A (eval b X.env) (fun u s₂=>wpAny (model X.prog X.w) X.A (f v u) Q X.xe s₂) X.xe s₁) X.xe s:=by
 refine bA (ha pz s σ H _ I h) fun v s1 ⟨x,H1,I1,r1,q1⟩=>?_
 refine bA (hb pz s1 σ H1 _ I1 q1) fun u s2 ⟨y,H2,I2,r2,q2⟩=>?_
 exact hf v u s2 x y H2 I2 r1 r2 q2
noncomputable def LI (i:Nat):TE:=fun σ H Q=>∃ v,σ[i]? = some (some v)/\Q v H
noncomputable def tC (v:V):TE:=fun _ H Q=>Q v H
theorem Cm {i:Nat}{x:Str}{pos:Pos}(hN:X.N[i]? = some x)(hv:TU X.env.scope x)(hd:(x==("__debug__" : Str))=false:=by decide)(hcd:(x==("__classdict__" : Str))=false:=by decide):PE X (.Name x pos) (LI i):=by
 intro pz s σ H Q I h
 obtain⟨v,e,h⟩:=h
 obtain⟨m,hn,hl⟩:=I.loc
 obtain⟨u,r,l⟩:=hl i x v hN e hv
 have fin:EP X pz σ Q u s:=⟨v,H,I,r,h⟩
 rcases l with⟨hk,hm⟩|⟨hk,c,hc,hcell⟩
 ·exact zp (wpAny_loadName_local I.ok.kind hk hn hm fin) hd
 ·rcases hk with hk|hk
  ·exact zp (wpAny_loadName_cell I.ok.kind hk hc hcell fin) hd
  ·exact zp (wpAny_loadName_free I.ok.kind hk hc hcell fin hcd) hd
theorem ZJ {i j pos}:PE X (.Constant (.int i) j pos) (tC (.int i)):=fun _ _ _ H _ I h=>wpAny_Constant_int ⟨.int i,H,I.tok _,⟨_,rfl⟩,h⟩
theorem Eu {b j pos}:PE X (.Constant (.bool b) j pos) (tC (.bl b)):=fun _ _ _ H _ I h=>Constant_bool ⟨.bl b,H,I,rfl,h⟩
theorem Aa {j pos}:PE X (.Constant .none j pos) (tC .non):=fun _ _ _ H _ I h=>Constant_none ⟨.non,H,I,rfl,h⟩
theorem NA {x j pos}:PE X (.Constant (.str x) j pos) (tC (.str x)):=fun _ _ _ H _ I h=>Calls.Constant_str ⟨.str x,H,I.tok _,⟨_,rfl⟩,h⟩
def Gl (X:Cx)(x:Str):Prop:=X.env.kindOf x=some .globalImplicit
theorem rH {E:Value->ah->Prop}{pz:List (Addr×Obj)}{s:ah}{σ:St}{H:Hp}{x:Str}{u:Value}{pos:Pos}{Q:Value->ah->Prop}(I:Inv X pz σ H s)(hg:Gl X x)(hm:X.mg x=some u)(h:Q u s)
 (hd:(x==("__debug__" : Str))=false:=by decide):wpAny (model X.prog X.w) X.A (eval (.Name x pos) X.env) Q E s :=
 qf I.ok.kind hg (Calls.loadGlobal_global (by rw[I.ok.glob];exact I.mod.glob.keeps I.bk) hm h) hd
theorem nC {E:Value->ah->Prop}{pz:List (Addr×Obj)}{s:ah}{σ:St}{H:Hp}{x:Str}{u:Value}{pos:Pos}{Q:Value->ah->Prop}(I:Inv X pz σ H s)(hg:Gl X x)(hm:X.mg x=none)(hv:cu x=some u)(h:Q u s)
 (hn:x ≠"__name__":=by decide)(hd:(x==("__debug__" : Str))=false:=by decide):wpAny (model X.prog X.w) X.A (eval (.Name x pos) X.env) Q E s:=by
 obtain⟨mb,h1,h2⟩:=I.mod.blt
 exact qf I.ok.kind hg (Calls.loadGlobal_builtin (by rw[I.ok.glob];exact I.mod.glob.keeps I.bk) hm (by rw[I.ok.blt];exact h1.keeps I.bk) ((h2 x hn).trans hv) h) hd
theorem B8 {x:Str}{v:V}{u:Value}{pos:Pos}(hg:Gl X x)(hm:X.mg x=some u)(r:RelV v u)(hd:(x==("__debug__" : Str))=false:=by decide):PE X (.Name x pos) (tC v) :=
 fun _ _ _ H _ I h=>rH I hg hm ⟨v,H,I,r,h⟩ hd
theorem J2 {x:Str}{v:V}{u:Value}{pos:Pos}(hg:Gl X x)(hm:X.mg x=none)(hv:cu x=some u)(r:RelV v u)(hn:x ≠"__name__":=by decide)(hd:(x==("__debug__" : Str))=false:=by decide):PE X (.Name x pos) (tC v) :=
 fun _ _ _ H _ I h=>nC I hg hm hv ⟨v,H,I,r,h⟩ hn hd
variable {a b:b7}{ta tb:TE}{pos:Pos}
def PC (X:Cx)(op:CmpOp)(a b:b7)(t:TE):Prop :=
 ∀(pz:List (Addr×Obj))(s:ah)(σ:St)(H:Hp)(Q:VK),Inv X pz σ H s->t σ H Q ->
 wpAny (model X.prog X.w) X.A (eval a X.env) (fun v s₁=>wpAny (model X.prog X.w) X.A (eval b X.env) (fun u s₂=>wpAny (model X.prog X.w) X.A (qa op v u) (EP X pz σ Q) X.xe s₂) X.xe s₁) X.xe s
theorem Q5 (b:b7){op:CmpOp}(h:op≠.In)(h2:op≠.NotIn):kv op b=false:=by
 have e1:(op==CmpOp.In)=false:=by cases op<;>first|rfl|exact absurd rfl h
 have e2:(op==CmpOp.NotIn)=false:=by cases op<;>first|rfl|exact absurd rfl h2
 cases b<;>simp [kv,e1,e2]
theorem RelV.RP {x:V}{v:Value}(r:RelV x v):(v==fo)=decide (x=.non):=by
 cases x with
 |non=>cases r;rfl
 |bl _=>cases r;rfl
 |int _=>obtain⟨t,rfl⟩:=r;rfl
 |str _=>obtain⟨t,rfl⟩:=r;rfl
 |byt _=>obtain⟨t,rfl⟩:=r;rfl
 |flt _=>obtain⟨t,rfl⟩:=r;rfl
 |ref _=>cases r;rfl
 |ty _=>cases r;rfl
noncomputable def tB (t:TE):TT:=fun σ H Q=>t σ H fun x H1=>∃ c,x=.bl c/\Q c H1
theorem Ng {op:CmpOp}{t:TE}(h:PC X op a b t)(h1:kv op b=false:=by first|exact Q5 _ (by decide) (by decide)|rfl):PT X (.Compare a [op] [b] pos) (tB t):=by
 intro pz s σ H Q I hw
 refine vf (bA (h pz s σ H _ I hw) fun v s1 h1=>bA h1 fun u s2 h2=>bA h2 fun c s3 ⟨x,H1,I1,r1,q1⟩=>?_) h1
 obtain⟨d,rfl,q⟩:=q1
 cases r1
 exact g6 ⟨H1,I1,q⟩
theorem GG {e:b7}{t:TE}(h:PE X e t)(he:∀ whole,xg e X.env whole=(do let v <-whole;wc e.pos;lz [v] (Pg v)):=by intro _;rfl):PT X e (tB t):=by
 intro pz s σ H Q I hw
 refine Ph (bA (h pz s σ H _ I hw) fun v s1 ⟨x,H1,I1,r1,q1⟩=>?_) (he _)
 obtain⟨d,rfl,q⟩:=q1
 cases r1
 exact g6 ⟨H1,I1,q⟩
variable {tA tB':TT}{rest:List b7}
noncomputable def Lj (t u:TT):TT:=fun σ H Q=>t σ H fun c H1=>if c=true then u σ H1 Q else Q false H1
noncomputable def Jw (t u:TT):TT:=fun σ H Q=>t σ H fun c H1=>if c=true then Q true H1 else u σ H1 Q
noncomputable def Eg (t:TT):TT:=fun σ H Q=>t σ H fun c H1=>Q (!c) H1
theorem X4 (ha:PT X a tA):PW X (.BoolOp .And [a] pos) tA:=by
 intro wh pz s σ H Q I h
 refine isTrue_and (bA (ha pz s σ H Q I h) fun c s1 e=>?_)
 cases c with
 |true=>exact isTrue_and_nil e
 |false=>exact e
theorem NI (ha:PT X a tA):PW X (.BoolOp .Or [a] pos) tA:=by
 intro wh pz s σ H Q I h
 refine isTrue_or (bA (ha pz s σ H Q I h) fun c s1 e=>?_)
 cases c with
 |false=>exact isTrue_or_nil e
 |true=>exact e
theorem Dg (ha:PT X a tA)(hb:PW X (.BoolOp .And (b::rest) pos) tB'):PW X (.BoolOp .And (a::b::rest) pos) (Lj tA tB'):=by
 intro wh pz s σ H Q I h
 refine isTrue_and (bA (ha pz s σ H _ I h) fun c s1 ⟨H1,I1,q1⟩=>?_)
 cases c with
 |true=>exact hb wh pz s1 σ H1 Q I1 q1
 |false=>exact⟨H1,I1,q1⟩
theorem LS (ha:PT X a tA)(hb:PW X (.BoolOp .Or (b::rest) pos) tB'):PW X (.BoolOp .Or (a::b::rest) pos) (Jw tA tB'):=by
 intro wh pz s σ H Q I h
 refine isTrue_or (bA (ha pz s σ H _ I h) fun c s1 ⟨H1,I1,q1⟩=>?_)
 cases c with
 |true=>exact⟨H1,I1,q1⟩
 |false=>exact hb wh pz s1 σ H1 Q I1 q1
theorem E3 (ha:PT X a tA):PT X (.UnaryOp .Not a pos) (Eg tA):=by
 intro pz s σ H Q I h
 exact isTrue_not (bA (ha pz s σ H (fun c H1=>Q (!c) H1) I h) fun c s1 ⟨H1,I1,q⟩=>⟨H1,I1,q⟩)
theorem Bf {op}{t:TE}(h:PE X a t):PE X (.BoolOp op [a] pos) t:=fun pz s σ H Q I hw=>BoolOp_one (h pz s σ H Q I hw)
noncomputable def Mv (t:TT)(ta tb:TE):TE:=fun σ H Q=>t σ H fun c H1=>if c=true then ta σ H1 Q else tb σ H1 Q
theorem SN {c:b7}(hc:PT X c tA)(ha:PE X a ta)(hb:PE X b tb):PE X (.IfExp c a b pos) (Mv tA ta tb):=by
 intro pz s σ H Q I h
 refine wpAny_IfExp (bA (hc pz s σ H _ I h) fun d s1 ⟨H1,I1,q1⟩=>?_)
 cases d with
 |true=>exact ha pz s1 σ H1 Q I1 q1
 |false=>exact hb pz s1 σ H1 Q I1 q1
end
end L2
namespace L2
open PySem PySem.Spec PyProof.Rows
def dS (K:ae)(H:Hp)(a:Addr)(xs:List V):Prop :=
 Rd H a (.lst xs) ∨
 ∃(o:Obj)(aD:Array Value)(n:Nat),K.lookup a=some o/\o.cls=.type "list" /\ o.dict=none/\o.data=.seq aD n/\aD.size<=sizeLine/\aR xs aD.toList
def eG (K:ae)(H:Hp)(a:Addr)(xs:List V):Prop :=
 Rd H a (.tup xs) ∨
 ∃(o:Obj)(aD:Array Value)(n:Nat),K.lookup a=some o/\o.cls=.type "tuple" /\ o.dict=none/\o.data=.seq aD n/\aD.size<=sizeLine/\aR xs aD.toList
noncomputable def Ml:Value->Option V
 |.none=>some .non
 |.bool b=>some (.bl b)
 |.int i _=>some (.int i)
 |.str x _=>some (.str x)
 |.bytes b _=>some (.byt b)
 |.float b _=>some (.flt b)
 |.ref a=>some (.ref a)
 |.type n=>some (.ty n)
 |_=>none
theorem RelV.abs {x:V}{u:Value}(r:RelV x u):Ml u=some x:=by
 cases x with
 |non=>cases r;rfl
 |bl _=>cases r;rfl
 |int _=>obtain⟨t,rfl⟩:=r;rfl
 |str _=>obtain⟨t,rfl⟩:=r;rfl
 |byt _=>obtain⟨t,rfl⟩:=r;rfl
 |flt _=>obtain⟨t,rfl⟩:=r;rfl
 |ref _=>cases r;rfl
 |ty _=>cases r;rfl
theorem RelV.inj {x y:V}{u:Value}(r:RelV x u)(q:RelV y u):x=y:=fh (r.abs.symm.trans q.abs)
theorem aR.inj:∀{xs ys:List V}{us:List Value},aR xs us->aR ys us->xs=ys
 |_,_,_,.nil,.nil=>rfl
 |_,_,_,.cons r t,.cons r' t'=>by rw[r.inj r',aR.inj t t']
section
variable {X:Cx}{pz:List (Addr×Obj)}{σ:St}{H:Hp}{s:ah}{a:Addr}{xs ys:List V}
theorem dS.of {K:ae}(h:H a=some (.lst xs)):dS K H a xs:=.inl (.inl h)
theorem eG.of {K:ae}(h:H a=some (.tup xs)):eG K H a xs:=.inl (.inl h)
theorem Inv.list (I:Inv X pz σ H s)(h:dS X.K H a xs):∃ aD:List Value,aR xs aD/\PlainL s.heap a aD.toArray/\xs.length<=sizeLine:=by
 rcases h with h|⟨o,aD,n,hk,hc,hd,hs,hz,r⟩
 ·obtain⟨z,aD,n,r,e⟩:=h.ok I.bJ
  exact⟨aD,r,⟨_,n,e,rfl,rfl,rfl⟩,z⟩
 ·refine⟨aD.toList,r,⟨o,n,I.jQ a o hk,hc,hd,by simpa using hs⟩,?_⟩
  have e:=r.length
  simp only[me]at e
  omega
theorem Inv.tuple (I:Inv X pz σ H s)(h:eG X.K H a xs):∃ aD:List Value,aR xs aD/\IsTup s.heap a aD.toArray/\xs.length<=sizeLine:=by
 rcases h with h|⟨o,aD,n,hk,hc,_,hs,hz,r⟩
 ·obtain⟨z,aD,r,p⟩:=h.ok I.bJ
  exact⟨aD,r,p.tup,z⟩
 ·refine⟨aD.toList,r,⟨o,I.jQ a o hk,hc,n,by simpa using hs⟩,?_⟩
  have e:=r.length
  simp only[me]at e
  omega
theorem Inv.pE (I:Inv X pz σ H s)(h:dS X.K H a xs)(h':dS X.K H a ys):xs=ys:=by
 obtain⟨aD,r,⟨o,n,e,_,_,d⟩,_⟩:=I.list h
 obtain⟨kI,r',⟨o',n',e',_,_,d'⟩,_⟩:=I.list h'
 rw[e]at e';cases e'
 rw[d]at d'
 injection d' with d1 _
 have:aD=kI:=by simpa using congrArg xv d1
 subst this
 exact r.inj r'
theorem Inv.pO (I:Inv X pz σ H s)(h:eG X.K H a xs)(h':eG X.K H a ys):xs=ys:=by
 obtain⟨aD,r,⟨o,e,_,n,d⟩,_⟩:=I.tuple h
 obtain⟨kI,r',⟨o',e',_,n',d'⟩,_⟩:=I.tuple h'
 rw[e]at e';cases e'
 rw[d]at d'
 injection d' with d1 _
 have:aD=kI:=by simpa using congrArg xv d1
 subst this
 exact r.inj r'
end
noncomputable abbrev Cx.gK (X:Cx)(E:Value->ah->Prop):Cx:={ X with xe:=E }
noncomputable abbrev Cx.mF (X:Cx):Cx:=X.gK fun _ _=>False
theorem Cx.Ok.gK {X:Cx}(ok:X.Ok)(E:Value->ah->Prop):(X.gK E).Ok :=
 ⟨ok.mod,ok.kind,ok.glob,ok.blt,ok.above,ok.inj,ok.has,ok.cab,ok.hd,ok.frames,ok.stk,ok.exf,ok.bs,ok.bsz,ok.noex,ok.exfs,ok.kG,ok.frf⟩
theorem Cx.Ok.nB {X:Cx}{E:Value->ah->Prop}(ok:(X.gK E).Ok):X.Ok :=
 ⟨ok.mod,ok.kind,ok.glob,ok.blt,ok.above,ok.inj,ok.has,ok.cab,ok.hd,ok.frames,ok.stk,ok.exf,ok.bs,ok.bsz,ok.noex,ok.exfs,ok.kG,ok.frf⟩
section
variable {X:Cx}{pz:List (Addr×Obj)}{σ:St}{H:Hp}{s:ah}{E:Value->ah->Prop}
theorem Inv.gK (I:Inv X pz σ H s)(E:Value->ah->Prop):Inv (X.gK E) pz σ H s:=⟨I.ok.gK E,I.os,I.bare,I.base,I.loc,I.cell,I.free,I.jG,I.pin,I.bJ,I.len⟩
theorem Inv.nB (I:Inv (X.gK E) pz σ H s):Inv X pz σ H s:=⟨I.ok.nB,I.os,I.bare,I.base,I.loc,I.cell,I.free,I.jG,I.pin,I.bJ,I.len⟩
theorem SP.nB {D:Ends}{f:Flow}{s':ah}(h:SP (X.gK E) pz D f s'):SP X pz D f s':=by
 cases f with
 |next=>obtain⟨σ',H',I,q⟩:=h;exact⟨σ',H',I.nB,q⟩
 |brk=>obtain⟨σ',H',I,q⟩:=h;exact⟨σ',H',I.nB,q⟩
 |cont=>obtain⟨σ',H',I,q⟩:=h;exact⟨σ',H',I.nB,q⟩
 |ret u=>obtain⟨v,σ',H',I,r,q⟩:=h;exact⟨v,σ',H',I.nB,r,q⟩
theorem iN.mF {st:List Stmt}{t:TS}(h:iN X.mF st t):iN X st t:=fun pz s σ H D I hw =>
 ee (h pz s σ H D (I.gK _) hw) (fun _ _ q=>q.nB) fun _ _ z=>i7 z
end
section
variable {X:Cx}{st:Stmt}{rest:List Stmt}{t u:TS}{e:b7}{te:TE}{pos:Pos}
noncomputable def Er:TS:=fun D σ H=>D.nx σ H
noncomputable def Kv (t u:TS):TS:=fun D σ H=>t { D with nx:=u D } σ H
theorem KJ:iN X [] Er:=fun _ _ σ H _ I h=>kq ⟨σ,H,I,h⟩
theorem FW (h1:PS X st t)(h2:iN X rest u):iN X (st::rest) (Kv t u):=by
 intro pz s σ H D I h
 refine tq (bA (h1 pz s σ H { D with nx:=u D } I h) fun f s1 q=>?_)
 cases f with
 |next =>
 obtain⟨σ',H',I',q⟩:=q
 exact h2 pz s1 σ' H' D I' q
 |ret v=>exact q
 |brk=>exact q
 |cont=>exact q
theorem J3 (h1:PS X st t):iN X [st] t:=by
 intro pz s σ H D I h
 refine tq (bA (h1 pz s σ H D I h) fun f s1 q=>?_)
 cases f with
 |next=>exact kq q
 |ret v=>exact q
 |brk=>exact q
 |cont=>exact q
theorem Inv.quiet {pz:List (Addr×Obj)}{σ:St}{H:Hp}{s:ah}(I:Inv X pz σ H s):interactive X.env=false:=by simp [interactive,I.ok.kind]
noncomputable def Gx (te:TE):TS:=fun D σ H=>te σ H fun _ H1=>D.nx σ H1
theorem VI (he:PE X e te)(hs:qb e none pos.line X.env=pure false:=by rfl):PS X (.Expr e pos) (Gx te):=by
 intro pz s σ H D I h
 exact wpAny_Expr_any (bA (he pz s σ H _ I h) fun v s1 ⟨x,H1,I1,r1,q1⟩=>⟨σ,H1,I1,q1⟩) I.quiet hs
noncomputable def Ky (te:TE):TS:=fun D σ H=>te σ H D.rt
theorem ZN (he:PE X e te):PS X (.Return (some e) pos) (Ky te):=by
 intro pz s σ H D I h
 exact wpAny_Return_some (bA (he pz s σ H _ I h) fun v s1 ⟨x,H1,I1,r1,q1⟩=>⟨x,σ,H1,I1,r1,q1⟩)
noncomputable def ZH (c:TT)(t u:TS):TS:=fun D σ H=>c σ H fun b H1=>if b=true then t D σ H1 else u D σ H1
theorem T3 {c:b7}{a b:List Stmt}{tc:TT}(hc:PT X c tc)(ha:iN X a t)(hb:iN X b u):PS X (.If c a b pos) (ZH tc t u):=by
 intro pz s σ H D I h
 refine wpAny_If (bA (hc pz s σ H _ I h) fun d s1 ⟨H1,I1,q1⟩=>?_)
 cases d with
 |true=>exact ha pz s1 σ H1 D I1 q1
 |false=>exact hb pz s1 σ H1 D I1 q1
noncomputable def Ed:TS:=fun _ _ _=>False
theorem G4:PS X st Ed:=fun _ _ _ _ _ _ h=>h.elim
end
abbrev TG:=V->St->Hp->(St->Hp->Prop)->Prop
abbrev C1:=List V->St->Hp->(St->Hp->Prop)->Prop
def PG (X:Cx)(target:b7)(t:TG):Prop :=
 ∀(pz:List (Addr×Obj))(s:ah)(σ:St)(H:Hp)(v:V)(u:Value)(Q:St->Hp->Prop),Inv X pz σ H s->RelV v u->t v σ H Q ->
 wpAny (model X.prog X.w) X.A (lq target X.env u) (fun _ s'=>∃ σ' H',Inv X pz σ' H' s'/\Q σ' H') X.xe s
def AG (X:Cx)(ts:List b7)(t:C1):Prop :=
 ∀(pz:List (Addr×Obj))(s:ah)(σ:St)(H:Hp)(vs:List V)(us:List Value)(Q:St->Hp->Prop),Inv X pz σ H s->aR vs us->t vs σ H Q ->
 wpAny (model X.prog X.w) X.A (assignInOrder ((ff ts X.env).map (·.2)) us) (fun _ s'=>∃ σ' H',Inv X pz σ' H' s'/\Q σ' H') X.xe s
abbrev RX:=V->V->V->Hp->(Hp->Prop)->Prop
def El (X:Cx)(t:RX):Prop :=
 ∀(pz:List (Addr×Obj))(s:ah)(σ:St)(H:Hp)(o i v:V)(ov iv u:Value)(Q:Hp->Prop),Inv X pz σ H s->RelV o ov->RelV i iv->RelV v u->t o i v H Q ->
 wpAny (model X.prog X.w) X.A (Pj ov iv u) (fun _ s'=>∃ H',Inv X pz σ H' s'/\Q H') X.xe s
section
variable {X:Cx}{pos:Pos}
noncomputable def AH (i:Nat):TG:=fun v σ H Q=>Q (σ.set i (some v)) H
theorem sD {i:Nat}{x:Str}(hN:X.N.Nodup)(hi:X.N[i]? = some x)(hx:Loc X.env.scope x)(hf:X.fn x=true∨X.env.scope.names.lookup x=some .local:=by first|exact .inl rfl|exact .inr rfl|assumption):PG X (.Name x pos) (AH i):=by
 intro pz s σ H v u Q I r h
 exact xw (zK I hN hi hx r (fun s' I'=>⟨_,H,I',h⟩) hf)
noncomputable def Lh:C1:=fun vs σ H Q=>vs=[]/\Q σ H
noncomputable def Gu (t:TG)(u:C1):C1:=fun vs σ H Q=>∃ v r,vs=v::r/\t v σ H fun σ' H'=>u r σ' H' Q
theorem WT:AG X [] Lh:=by
 intro pz s σ H vs us Q I r h
 obtain⟨e,h⟩:=h
 subst e
 cases r
 exact assignInOrder_nil ⟨σ,H,I,h⟩
theorem RH {e:b7}{es:List b7}{t:TG}{u:C1}(h1:PG X e t)(h2:AG X es u)
 (hs:(ff (e::es) X.env).map (·.2)=lq e X.env::(ff es X.env).map (·.2):=by rfl):AG X (e::es) (Gu t u):=by
 intro pz s σ H vs us Q I r h
 obtain⟨v,vr,e1,h⟩:=h
 subst e1
 cases r with
 |cons r rr =>
 rw[hs]
 refine assignInOrder_cons (bA (h1 pz s σ H _ _ _ I r h) fun _ s1 ⟨σ1,H1,I1,q1⟩=>?_)
 exact h2 pz s1 σ1 H1 _ _ Q I1 rr q1
noncomputable def ZW (K:ae)(n:Nat)(t:C1):TG:=fun v σ H Q=>∃ a xs,v=.ref a/\eG K H a xs/\xs.length=n/\t xs σ H Q
theorem P9 {es:List b7}{k:Nat}{t:C1}{n:Nat}(hc:X.calm=true)(h:AG X es t)
 (hn:(ff es X.env).length=n:=by rfl)(dA:(ff es X.env).findIdx? (·.1)=none:=by rfl):PG X (.Tuple es k pos) (ZW X.K n t):=by
 intro pz s σ H v u Q I r hw
 obtain⟨a,xs,e1,hq,hl,hw⟩:=hw
 subst e1
 cases r
 obtain⟨aD,rv,ht,hz⟩:=I.tuple hq
 refine assign_Tuple_tuple (I.ok.hd hc) ht (by simp [hn,<-hl,rv.length]) dA fun h' hx=>?_
 have I1:Inv X pz σ H { s with heap:=h' }:=I.kept (t':=s.toks) fun b o e=>hx b o (bj (a9 e)) e
 exact h pz _ σ H xs _ Q I1 (by simpa using rv) hw
noncomputable def La (to ti:TE)(t:RX):TG:=fun v σ H Q=>to σ H fun o H1=>ti σ H1 fun i H2=>t o i v H2 fun H3=>Q σ H3
theorem Bm {o i:b7}{to ti:TE}{t:RX}(ho:PE X o to)(hi:PE X i ti)(hs:El X t)
 (ha:∀ v,lq (.Subscript o i pos) X.env v=(do
  let ov <-lz [v] (eval o X.env)
  let iv <-lz [v,ov] (eval i X.env)
  wc pos
  lz [v,ov,iv] (Pj ov iv v)
  Qp [v,ov,iv] []):=by intro _;rfl):PG X (.Subscript o i pos) (La to ti t):=by
 intro pz s σ H v u Q I r h
 rw[ha]
 refine af (jj (bA (ho pz s σ H _ I h) fun ov s1 ⟨x,H1,I1,r1,q1⟩=>?_))
 refine af (jj (bA (hi pz s1 σ H1 _ I1 q1) fun iv s2 ⟨y,H2,I2,r2,q2⟩=>?_))
 refine af (r0 (af (jj (bA (hs pz s2 σ H2 x y v ov iv u _ I2 r1 r2 r q2) fun _ s3 ⟨H3,I3,q3⟩=>?_))))
 exact wpAny_release ⟨σ,H3,I3,q3⟩
noncomputable def Mj (te:TE)(g:TG):TS:=fun D σ H=>te σ H fun x H1=>g x σ H1 D.nx
theorem Bx {tg e:b7}{te:TE}{g:TG}(he:PE X e te)(hg:PG X tg g)(hs:oh [tg] e pos.line X.env=pure false:=by rfl)(hw:oi [tg] e X.env=pure none:=by rfl)
 (h1:(ff [tg] X.env).map (·.2)=[lq tg X.env]:=by rfl):PS X (.Assign [tg] e pos) (Mj te g):=by
 intro pz s σ H D I h
 refine wpAny_Assign_stores (bA (he pz s σ H _ I h) fun v s1 ⟨x,H1,I1,r1,q1⟩=>?_) hs hw
 rw[h1]
 exact bA (hg pz s1 σ H1 x v _ I1 r1 q1) fun _ s2 q=>q
end
section
variable {X:Cx}{pos:Pos}
noncomputable def Bg (c:TT)(tb:TS):TS:=fun D σ H=>∃ W:Nat->St->Hp->Prop,(∃ m,W m σ H)/\∀ m σ H,W m σ H ->
 c σ H fun b H1=>if b=true then ∃ N:St->Hp->Prop,(∀ σ' H',N σ' H'->∃ m',m'<m/\W m' σ' H')/\tb { D with nx:=N,ct:=N,bk:=D.nx } σ H1 else D.nx σ H1
theorem R7 {c:b7}{body:List Stmt}{tc:TT}{tb:TS}(hp:qd (model X.prog X.w) X.A X.env X.xe)(hc:PT X c tc)(hb:iN X body tb):PS X (.While c body [] pos) (Bg tc tb):=by
 intro pz s σ H D I h
 obtain⟨W,⟨m0,w0⟩,turn⟩:=h
 refine wpAny_While (codeAny_whileLoop (fun n s'=>∃ σ' H',Inv X pz σ' H' s'/\W n σ' H') ?_ m0 ⟨σ,H,I,w0⟩)
 rintro n s1 ⟨σ1,H1,I1,w1⟩
 refine jy hp (bA (hc pz s1 σ1 H1 _ I1 (turn n σ1 H1 w1)) fun b s2 ⟨H2,I2,q2⟩=>?_)
 cases b with
 |true =>
  obtain⟨N,hN,q2⟩:=q2
  rw[if_pos rfl]
  refine jy hp (bA (hb pz s2 σ1 H2 _ I2 q2) fun f s3 q3=>?_)
  cases f with
  |next =>
   obtain⟨σ3,H3,I3,n3⟩:=q3
   obtain⟨m',hm,w3⟩:=hN σ3 H3 n3
   exact⟨m',hm,σ3,H3,I3,w3⟩
  |cont =>
   obtain⟨σ3,H3,I3,n3⟩:=q3
   obtain⟨m',hm,w3⟩:=hN σ3 H3 n3
   exact⟨m',hm,σ3,H3,I3,w3⟩
  |brk=>exact q3
  |ret v=>exact q3
 |false =>
  rw[if_neg ki]
  exact kq ⟨σ1,H2,I2,q2⟩
end
structure It where
 go:Nat->Hp->Prop
 yld:Nat->Hp->V->Hp->Prop
 stop:Nat->Hp->Prop
def jW (X:Cx)(pz:List (Addr×Obj))(H:Hp)(b:Addr):Prop :=
 H b=none/\b≠X.env.locals/\b∉X.fs/\(b∈X.ex∨X.s₀.heap.objs.size<=b)/\(∀ x c,X.env.cells.lookup x=some c->c≠b)/\∀ p∈X.pn++pz,p.1≠b
theorem Inv.L8 {X:Cx}{pz:List (Addr×Obj)}{σ:St}{H H':Hp}{s:ah}{b:Addr}(I:Inv X pz σ H s)(hb:s.heap.objs.size<=b)(hn:H' b=none):jW X pz H' b:=by
 refine⟨hn,p0 (bu I.lt hb),I.Q2 hb,.inr (bz I.sz hb),fun x c e z=>?_,fun p hp z=>?_⟩
 ·obtain⟨v,q⟩:=I.cell x c e
  exact absurd (bu q.lt (by rw[z];exact hb)) (jh _)
 ·exact absurd (bu (a9 (I.pin p hp).1) (by rw[z];exact hb)) (jh _)
structure Turn (P:bq)(w:cq)(K:ae)(tg:b7)(J:It)(fp:List Addr)(it:Addr)(tn:Nat->Heap->Prop):Prop where
 mem:it∈fp
 obj:∀ i h,tn i h->∀ b∈fp,∃ o,h.get? b=some o/\∀ v,o.data≠.cell v
 keep:∀ i h h',tn i h->(∀ b∈fp,∀ o,h.get? b=some o->h'.get? b=some o)->tn i h'
 item:∀(X:Cx),X.prog=P->X.w=w->X.K=K->X.calm=true->∀(i:Nat)(pz:List (Addr×Obj))(s:ah)(σ:St)(H:Hp)(E:Value->ah->Prop),Inv X pz σ H s->(∀ b∈fp,jW X pz H b)->tn i s.heap->J.go i H ->
 wpAny (model P w) X.A (r6 (.ref it)) (fun r s1=>∃ u,r=some u /\
  wpAny (model P w) X.A (mr tg (.ref it) u) (fun _ s2=>∃ x H',Inv X pz σ H' s2/\RelV x u/\J.yld i H x H'/\tn (i+1) s2.heap/\∀ b∈fp,H' b=none) E s1) E s
 done:∀(X:Cx),X.prog=P->X.w=w->X.K=K->X.calm=true->∀(i:Nat)(pz:List (Addr×Obj))(s:ah)(σ:St)(H:Hp)(E:Value->ah->Prop),Inv X pz σ H s->(∀ b∈fp,jW X pz H b)->tn i s.heap->J.stop i H ->
 wpAny (model P w) X.A (r6 (.ref it)) (fun r s1=>r=none/\Inv X pz σ H s1) E s
 self:∀(A:cg)(i:Nat)(s:ah)(Q:Value->ah->Prop)(E:Value->ah->Prop),tn i s.heap->Q (.ref it) s->wpAny (model P w) A (vn (.ref it)) Q E s
abbrev TI:=St->Hp->(It->Hp->Prop)->Prop
def TQ (X:Cx)(pz:List (Addr×Obj))(σ:St)(tg:b7)(R:It->Hp->Prop)(itv:Value)(s2:ah):Prop :=
 ∃(it:Addr)(fp:List Addr)(tn:Nat->Heap->Prop)(J:It)(H':Hp),itv=.ref it/\Inv X pz σ H' s2/\Turn X.prog X.w X.K tg J fp it tn/\tn 0 s2.heap/\(∀ b∈fp,jW X pz H' b)/\R J H'
def PI (X:Cx)(tg iter:b7)(wi:TI):Prop :=
 ∀(pz:List (Addr×Obj))(s:ah)(σ:St)(H:Hp)(R:It->Hp->Prop),Inv X pz σ H s->wi σ H R ->
 wpAny (model X.prog X.w) X.A (eval iter X.env) (fun v s1=>wpAny (model X.prog X.w) X.A (vn v) (TQ X pz σ tg R) X.xe s1) X.xe s
theorem EN {M:Model}{A:cg}{E:Value->ah->Prop}{s:ah}{tg:b7}{it:Addr}{u:Value}{o:Obj}{n:String}{vs:Array Value}{Q:Unit->ah->Prop}(ho:s.heap.get? it=some o)(hc:o.cls=.type n)(hd:o.data=.fields vs)
    (hn:["enumerate","zip","dict_itemiterator","dict_reverseitemiterator","odict_iterator","itertools.zip_longest","itertools.pairwise"].contains n=false)(hQ:Q () s):wpAny M A (mr tg (.ref it) u) Q E s:=by
  unfold mr
  cases tg<;>first
    |exact aw hQ
    |(cases u<;>first
        |exact aw hQ
        | (refine af (wpAny_load ho ?_)
           rw[hc,hd]
           show wpAny M A (if(["enumerate","zip","dict_itemiterator","dict_reverseitemiterator","odict_iterator","itertools.zip_longest","itertools.pairwise"].contains n&&vs[0]? == some (lu _))=true then _ else _) Q E s
           rw[if_neg (by intro h;rw[hn,fj]at h;cases h)]
           exact aw hQ))
noncomputable def TH (K:ae)(a:Addr):It :=
 ⟨fun i H=>∃ xs x,dS K H a xs/\xs[i]? = some x,fun i H x H'=>H'=H/\∀ xs,dS K H a xs->xs[i]? = some x,fun i H=>∃ xs,dS K H a xs/\xs.length<=i⟩
noncomputable def ZO (K:ae)(a:Addr):It :=
 ⟨fun i H=>∃ xs x,eG K H a xs/\xs[i]? = some x,fun i H x H'=>H'=H/\∀ xs,eG K H a xs->xs[i]? = some x,fun i H=>∃ xs,eG K H a xs/\xs.length<=i⟩
noncomputable def TV (lo:Int)(n:Nat):It:=⟨fun i _=>i<n,fun i H x H'=>H'=H/\x=.int (lo+i),fun i _=>n<=i⟩
theorem OO {P:bq}{w:cq}{K:ae}{tg:b7}(a it:Addr):Turn P w K tg (TH K a) [it] it (fun i h=>h.IsListIter it a i) where
 mem:=by simp
 obj:=fun i h st b hb=>by
  have e:b=it:=by simpa using hb
  subst e
  obtain⟨o,e,c,d⟩:=st
  exact⟨o,e,fun v z=>by rw[d]at z;cases z⟩
 keep:=fun i h h' st k=>st.at fun o e=>k it (by simp) o e
 item:=by
  intro X hP hw hK hc i pz s σ H E I hf st hg
  subst hP hw hK
  obtain⟨xs,x,hq,hx⟩:=hg
  obtain⟨aD,rv,p,hz⟩:=I.list hq
  obtain⟨u,hu,ru⟩:=rv.get hx
  obtain⟨f0,f1,f2,f3,f4,f5⟩:=hf it (by simp)
  refine wpAny_pyNext_list_item st p.isList (x:=u) (by simpa using hu) fun h' aA sb=>?_
  have I1:Inv X pz σ H { s with heap:=h' }:=I.turned (t':=s.toks) (fun b o hb e=>(sb.2 b hb).trans e) f0 f1 f3 f4 f5
  obtain⟨o,e,c,d⟩:=id aA
  exact⟨u,rfl,EN (s:={ s with heap:=h' }) e c d (by decide) ⟨x,H,I1,ru,⟨rfl,fun ys hy=>by rw[I.pE hy hq];exact hx⟩,aA,fun b hb=>(hf b hb).1⟩⟩
 done:=by
  intro X hP hw hK hc i pz s σ H E I hf st hg
  subst hP hw hK
  obtain⟨xs,hq,hx⟩:=hg
  obtain⟨aD,rv,p,hz⟩:=I.list hq
  obtain⟨f0,f1,f2,f3,f4,f5⟩:=hf it (by simp)
  have hl:=rv.length
  exact wpAny_pyNext_list_end (I.ok.hd hc) st p.isList (by simp;omega) fun h' eb=>⟨rfl,I.turned (t':=s.toks) (fun b o hb e=>eb b o hb e) f0 f1 f3 f4 f5⟩
 self:=fun _ _ _ _ _ st h=>wpAny_pyIter_listiter st h
theorem LO {P:bq}{w:cq}{K:ae}{tg:b7}(a it:Addr):Turn P w K tg (ZO K a) [it] it (fun i h=>h.IsTupleIter it a i) where
 mem:=by simp
 obj:=fun i h st b hb=>by
  have e:b=it:=by simpa using hb
  subst e
  obtain⟨o,e,c,d⟩:=st
  exact⟨o,e,fun v z=>by rw[d]at z;cases z⟩
 keep:=fun i h h' st k=>st.at fun o e=>k it (by simp) o e
 item:=by
  intro X hP hw hK hc i pz s σ H E I hf st hg
  subst hP hw hK
  obtain⟨xs,x,hq,hx⟩:=hg
  obtain⟨aD,rv,p,hz⟩:=I.tuple hq
  obtain⟨u,hu,ru⟩:=rv.get hx
  obtain⟨f0,f1,f2,f3,f4,f5⟩:=hf it (by simp)
  refine wpAny_pyNext_tuple_item st (show s.heap.IsTuple a aD.toArray from p) (x:=u) (by simpa using hu) fun h' aA sb=>?_
  have I1:Inv X pz σ H { s with heap:=h' }:=I.turned (t':=s.toks) (fun b o hb e=>(sb.2 b hb).trans e) f0 f1 f3 f4 f5
  obtain⟨o,e,c,d⟩:=id aA
  exact⟨u,rfl,EN (s:={ s with heap:=h' }) e c d (by decide) ⟨x,H,I1,ru,⟨rfl,fun ys hy=>by rw[I.pO hy hq];exact hx⟩,aA,fun b hb=>(hf b hb).1⟩⟩
 done:=by
  intro X hP hw hK hc i pz s σ H E I hf st hg
  subst hP hw hK
  obtain⟨xs,hq,hx⟩:=hg
  obtain⟨aD,rv,p,hz⟩:=I.tuple hq
  obtain⟨f0,f1,f2,f3,f4,f5⟩:=hf it (by simp)
  have hl:=rv.length
  exact wpAny_pyNext_tuple_end (I.ok.hd hc) st (show s.heap.IsTuple a aD.toArray from p) (by simp;omega) fun h' eb=>⟨rfl,I.turned (t':=s.toks) (fun b o hb e=>eb b o hb e) f0 f1 f3 f4 f5⟩
 self:=fun _ _ _ _ _ st h=>wpAny_pyIter_tupleiter st h
theorem ML {P:bq}{w:cq}{K:ae}{tg:b7}(it:Addr)(lo:Int)(n:Nat):Turn P w K tg (TV lo n) [it] it (fun i h=>IsRangeIter h it (lo+(i:Nat)*1) ((n:Int)-(i:Nat)) 1) where
 mem:=by simp
 obj:=fun i h st b hb=>by
  have e:b=it:=by simpa using hb
  subst e
  exact⟨_,st,fun v z=>by
   have z':Data.fields _=Data.cell v:=z
   cases z'⟩
 keep:=fun i h h' st k=>k it (by simp) _ st
 item:=by
  intro X hP hw hK hc i pz s σ H E I hf st hg
  subst hP hw hK
  obtain⟨f0,f1,f2,f3,f4,f5⟩:=hf it (by simp)
  have W:=Walks.range (prog:=X.prog) (w:=X.w) (I.ok.hd hc) it lo 1 n
  refine W.item i s _ _ hg st fun v h' tk hv aA kk=>?_
  obtain⟨t,rfl⟩:=hv
  have I1:Inv X pz σ H { s with heap:=h',toks:=tk }:=I.turned (fun b o hb e=>kk b o (by simpa using hb) e) f0 f1 f3 f4 f5
  refine⟨_,rfl,EN (s:={ s with heap:=h',toks:=tk }) (n :="range_iterator") aA rfl rfl (by decide) ⟨.int (lo+i),H,I1,⟨t,?_⟩,⟨rfl,rfl⟩,aA,fun b hb=>(hf b hb).1⟩⟩
  rw[Int.mul_one]
 done:=by
  intro X hP hw hK hc i pz s σ H E I hf st hg
  subst hP hw hK
  obtain⟨f0,f1,f2,f3,f4,f5⟩:=hf it (by simp)
  exact wpAny_pyNext_range_end (I.ok.hd hc) st (by have:n<=i:=hg;omega) fun h' eb=>⟨rfl,I.turned (t':=s.toks) (fun b o hb e=>eb b o hb e) f0 f1 f3 f4 f5⟩
 self:=fun _ _ _ _ _ st h=>wpAny_pyIter_rangeiter st h
end L2
namespace L2
open PySem PySem.Spec PyProof.Rows
section
variable {X:Cx}{tg:b7}
theorem RV {pz:List (Addr×Obj)}{σ:St}{H:Hp}{s:ah}{R:It->Hp->Prop}{E:Value->ah->Prop}{lo hi:Int}{t u v:Tok}{tk:Nat}(I:Inv X pz σ H s) (h1 : -(2 ^ 62)<=lo)(h2:lo<2 ^ 62) (h3 : -(2 ^ 62)<=hi)(h4:hi<2 ^ 62)
  (q:R (TV lo (hi-lo).toNat) H):wpAny (model X.prog X.w) X.A (vn (.ref s.heap.objs.size)) (TQ X pz σ tg R) E { s with heap:=s.heap.push { cls:=.type "range", data:=.fields #[.int lo t,.int hi u,.int 1 v] },toks:=tk }:=by
 refine wpAny_pyIter_range (IsRange.new ..) (small_one h1 h2 h3 h4) ?_
 have I1:Inv X pz σ H { s with heap:=s.heap.push { cls:=.type "range", data:=.fields #[.int lo t,.int hi u,.int 1 v] },toks:=tk }:=I.kept fun b o e=>au _ e
 refine⟨(s.heap.push { cls:=.type "range", data:=.fields #[.int lo t,.int hi u,.int 1 v] }).objs.size,[(s.heap.push { cls:=.type "range", data:=.fields #[.int lo t,.int hi u,.int 1 v] }).objs.size],_,_,H,rfl,
  I1.kept (t':=tk) fun b o e=>au _ e,ML _ lo (hi-lo).toNat,?_,fun b hb=>?_,q⟩
 ·have e1:lo+((0:Nat):Int)*1=lo:=by simp
  have e2:(((hi-lo).toNat:Nat):Int)-((0:Nat):Int)=Builtin.Range.rangeSize lo hi 1:=by rw[rangeSize_one];split<;>omega
  show IsRangeIter _ _ (lo+((0:Nat):Int)*1) ((((hi-lo).toNat:Nat):Int)-((0:Nat):Int)) 1
  rw[e1,e2]
  exact bp _ rfl
 ·have e:b=(s.heap.push { cls:=.type "range", data:=.fields #[.int lo t,.int hi u,.int 1 v] }).objs.size:=by simpa using hb
  subst e
  exact I1.L8 (bb _) (I1.bJ.fresh (bb _))
noncomputable def Gk (ta:TA):TI:=fun σ H R=>ta σ H fun vs H1=>∃ j:Int,vs=[.int j]/\-(2 ^ 62)<=j/\j<2 ^ 62/\R (TV 0 j.toNat) H1
theorem M6 {a:b7}{ta:TA}{p pos:Pos}(hg:Gl X "range")(hm:X.mg "range" = none)(ha:PA X [a] ta)(hs:ar [a] X.env=[(false,eval a X.env)]:=by rfl):PI X tg (.Call (.Name "range" p) [a] [] pos) (Gk ta):=by
 intro pz s σ H R I h
 refine Call_ (nC I hg hm boot_range (gV (bA (ha pos pz s σ H _ I h) fun us s1 ⟨vs,H1,I1,r1,q1⟩=>?_) hs rfl))
 obtain⟨j,e,q1,q2,q⟩:=q1
 subst e
 cases r1 with
 |cons r rr =>
 cases rr
 obtain⟨t,rfl⟩:=r
 exact call_range_1 (RV I1 (by omega) (by omega) q1 q2 (by simpa using q))
noncomputable def Kg (wi:TI)(g:TG)(tb:TS):TS:=fun D σ H=>wi σ H fun J H1=>∃ W:Nat->Nat->St->Hp->Prop,(∃ m,W 0 m σ H1)/\∀ i m σ H,W i m σ H ->
 (J.stop i H/\D.nx σ H)∨(J.go i H/\∃ N:St->Hp->Prop,(∀ σ' H',N σ' H'->∃ m',m'<m/\W (i+1) m' σ' H')/\∀ x H',J.yld i H x H'->g x σ H' fun σ2 H2=>tb { D with nx:=N,ct:=N,bk:=D.nx } σ2 H2)
noncomputable def sC (fp:List Addr)(h:Heap):List (Addr×Obj):=fp.filterMap fun b=>(h.get? b).map fun o=>(b,o)
theorem oD {fp:List Addr}{h:Heap}{b:Addr}{o:Obj}(hb:b∈fp)(e:h.get? b=some o):(b,o)∈sC fp h:=List.mem_filterMap.mpr ⟨b,hb,by rw[e];rfl⟩
theorem NR {fp:List Addr}{h:Heap}{p:Addr×Obj}(hp:p∈sC fp h):p.1∈fp/\h.get? p.1=some p.2:=by
 obtain⟨b,hb,e⟩:=List.mem_filterMap.mp hp
 cases q:h.get? b with
 |none=>rw[q]at e;cases e
 |some o =>
 rw[q]at e
 have e':(b,o)=p:=fh e
 subst e'
 exact⟨hb,q⟩
theorem Inv.pinned {pz:List (Addr×Obj)}{σ:St}{H:Hp}{s:ah}{fp:List Addr}(I:Inv X pz σ H s)(hf:∀ b∈fp,jW X pz H b)(ho:∀ b∈fp,∃ o,s.heap.get? b=some o/\∀ v,o.data≠.cell v):Inv X (pz++sC fp s.heap) σ H s :=
 I.JX fun p hp=>(List.mem_append.mp hp).elim (fun z=>I.pin p (cz _ z)) fun z=>by
 obtain⟨hb,e⟩:=NR z
 obtain⟨f0,f1,f2,_⟩:=hf p.1 hb
 obtain⟨o,e',d⟩:=ho p.1 hb
 rw[e]at e';cases e'
 exact⟨e,f0,f1,f2,d⟩
theorem Inv.pA {pz pl:List (Addr×Obj)}{σ:St}{H:Hp}{s:ah}(I:Inv X (pz++pl) σ H s):Inv X pz σ H s:=I.JX fun p hp=>I.pin p (cz _ (ll _ hp))
theorem Y2 {iter:b7}{body:List Stmt}{wi:TI}{g:TG}{tb:TS}{pos:Pos}(hp:qd (model X.prog X.w) X.A X.env X.xe)(hc:X.calm=true)(hi:PI X tg iter wi)(hg:PG X tg g)(hb:iN X body tb)
  (hs:∀ x,fq iter X.env x=pure x:=by intro _;rfl):PS X (.For tg iter body [] pos) (Kg wi g tb):=by
 intro pz s σ H D I h
 refine wpAny_For (bA (hi pz s σ H _ I h) fun v s1 h1=>bA h1 fun itv s2 h2=>?_) hs
 obtain⟨it,fp,tn,J,H2,e,I2,T,aG,f2,W,⟨m0,w0⟩,turn⟩:=h2
 subst e
 have stat:∀{H':Hp},(∀ b∈fp,H' b=none)->∀ b∈fp,jW X pz H' b:=fun hn b hb=>⟨hn b hb,(f2 b hb).2⟩
 refine codeAny_forLoop_any (fun n s'=>∃ i σ' H',Inv X pz σ' H' s'/\tn i s'.heap/\(∀ b∈fp,H' b=none)/\W i n σ' H') ?_ m0 ⟨0,σ,H2,I2,aG,fun b hb=>(f2 b hb).1,w0⟩
 rintro n s3 ⟨i,σ3,H3,I3,aQ,fr3,w3⟩
 rcases turn i n σ3 H3 w3 with⟨stop,qn⟩|⟨go,N,hN,step⟩
 ·refine jy hp (bA (T.done X rfl rfl rfl hc i pz s3 σ3 H3 X.xe I3 (stat fr3) aQ stop) fun r s4 ⟨hr,I4⟩=>?_)
  subst hr
  exact kq ⟨σ3,H3,I4,qn⟩
 ·refine jy hp (bA (T.item X rfl rfl rfl hc i pz s3 σ3 H3 X.xe I3 (stat fr3) aQ go) fun r s4 ⟨u,hr,h4⟩=>?_)
  subst hr
  refine jy hp (bA h4 fun _ s5 ⟨x,H5,I5,r5,y5,dY,fr5⟩=>?_)
  have I5':=I5.pinned (stat fr5) (T.obj _ _ dY)
  refine jy hp (bA (hg _ s5 σ3 H5 x u _ I5' r5 (step x H5 y5)) fun _ s6 ⟨σ6,H6,I6,q6⟩=>?_)
  refine jy hp (bA (hb _ s6 σ6 H6 _ I6 q6) fun f s7 q7=>?_)
  have again:∀{σ7:St}{H7:Hp},Inv X (pz++sC fp s5.heap) σ7 H7 s7->N σ7 H7->∃ m,m<n/\∃ i σ' H',Inv X pz σ' H' s7/\tn i s7.heap/\(∀ b∈fp,H' b=none)/\W i m σ' H':=fun{σ7 H7} I7 n7=>by
   obtain⟨m',hm,w7⟩:=hN σ7 H7 n7
   refine⟨m',hm,i+1,σ7,H7,I7.pA,T.keep _ _ _ dY fun b hb o e=>(I7.pin (b,o) (cz _ (cz _ (oD hb e)))).1,fun b hb=>?_,w7⟩
   obtain⟨o,e,d⟩:=T.obj _ _ dY b hb
   exact(I7.pin (b,o) (cz _ (cz _ (oD hb e)))).2.1
  cases f with
  |next=>obtain⟨σ7,H7,I7,n7⟩:=q7;exact again I7 n7
  |cont=>obtain⟨σ7,H7,I7,n7⟩:=q7;exact again I7 n7
  |brk=>obtain⟨σ7,H7,I7,q7⟩:=q7;exact⟨σ7,H7,I7.pA,q7⟩
  |ret v=>obtain⟨x7,σ7,H7,I7,r7,q7⟩:=q7;exact⟨x7,σ7,H7,I7.pA,r7,q7⟩
end
end L2
namespace L2
open PySem PySem.Spec PyProof.Rows
abbrev R2:=V->V->Hp->VK->Prop
def gT (X:Cx)(f:Value->Value->Sem Value)(r:R2):Prop :=
 ∀(pz:List (Addr×Obj))(s:ah)(σ:St)(H:Hp)(x y:V)(v u:Value)(Q:VK),Inv X pz σ H s->RelV x v->RelV y u->r x y H Q ->
 wpAny (model X.prog X.w) X.A (f v u) (EP X pz σ Q) X.xe s
def Bc (X:Cx)(f:Value->Sem Value)(r:V->Hp->VK->Prop):Prop :=
 ∀(pz:List (Addr×Obj))(s:ah)(σ:St)(H:Hp)(x:V)(v:Value)(Q:VK),Inv X pz σ H s->RelV x v->r x H Q ->
 wpAny (model X.prog X.w) X.A (f v) (EP X pz σ Q) X.xe s
def oI (X:Cx)(f:Value)(r:List V->Hp->VK->Prop):Prop :=
 ∀(pz:List (Addr×Obj))(s:ah)(σ:St)(H:Hp)(xs:List V)(us:List Value)(Q:VK),Inv X pz σ H s->aR xs us->r xs H Q ->
 wpAny (model X.prog X.w) X.A (call f us) (EP X pz σ Q) X.xe s
def Kf (X:Cx)(r:V->Hp->(Bool->Hp->Prop)->Prop):Prop :=
 ∀(pz:List (Addr×Obj))(s:ah)(σ:St)(H:Hp)(x:V)(v:Value)(Q:Bool->Hp->Prop),Inv X pz σ H s->RelV x v->r x H Q ->
 wpAny (model X.prog X.w) X.A (Pg v) (TP X pz σ Q) X.xe s
noncomputable def Cs (r:R2)(ta tb:TE):TE:=fun σ H Q=>ta σ H fun x H1=>tb σ H1 fun y H2=>r x y H2 Q
noncomputable def Mz (r:V->Hp->VK->Prop)(ta:TE):TE:=fun σ H Q=>ta σ H fun x H1=>r x H1 Q
noncomputable def rI (C:Int->Int->Prop)(g:Int->Int->V):R2:=fun x y H Q=>∃ i j,x=.int i/\y=.int j/\C i j/\Q (g i j) H
noncomputable def FI (g:Int->Int->V):R2:=fun x y H Q=>∃ i j,x=.int i/\y=.int j/\Q (g i j) H
def rU (g:Int->V):V->Hp->VK->Prop:=fun x H Q=>∃ i,x=.int i/\Q (g i) H
section
variable {X:Cx}{a b c:b7}{ta tb tc:TE}{pos:Pos}
theorem Ba (ha:PE X a ta)(hb:PE X b tb){pz:List (Addr×Obj)}{s:ah}{σ:St}{H:Hp}{R:V->V->Hp->Prop}(I:Inv X pz σ H s)
 (h:ta σ H fun x H1=>tb σ H1 fun y H2=>R x y H2){Q:Value->ah->Prop}{f:Value->Value->Sem Value}
 (hf:∀ v u s2 x y H2,Inv X pz σ H2 s2->RelV x v->RelV y u->R x y H2->wpAny (model X.prog X.w) X.A (f v u) Q X.xe s2):
 wpAny (model X.prog X.w) X.A (eval a X.env) (fun v s₁=>wpAny (model X.prog X.w) X.A (eval b X.env) (fun u s₂=>wpAny (model X.prog X.w) X.A (f v u) Q X.xe s₂) X.xe s₁) X.xe s:=by
 refine bA (ha pz s σ H _ I h) fun v s1 ⟨x,H1,I1,r1,q1⟩=>?_
 refine bA (hb pz s1 σ H1 _ I1 q1) fun u s2 ⟨y,H2,I2,r2,q2⟩=>?_
 exact hf v u s2 x y H2 I2 r1 r2 q2
theorem Iq {op:Operator}{r:R2}(ho:gT X (h9 op) r)(ha:PE X a ta)(hb:PE X b tb):PE X (.BinOp a op b pos) (Cs r ta tb):=by
 intro pz s σ H Q I h
 exact wpAny_BinOp (Ba ha hb I h fun v u s2 x y H2 I2 rx ry q=>ho pz s2 σ H2 x y v u Q I2 rx ry q)
theorem Iv {op:UnaryOp}{r:V->Hp->VK->Prop}(ho:Bc X (unaryOp op) r)(ha:PE X a ta):PE X (.UnaryOp op a pos) (Mz r ta):=by
 intro pz s σ H Q I h
 exact UnaryOp_ (bA (ha pz s σ H _ I h) fun v s1 ⟨x,H1,I1,r1,q1⟩=>ho pz s1 σ H1 x v Q I1 r1 q1)
theorem UU {f:Value->Value->Sem Value}{C:Int->Int->Prop}{g:Int->Int->Int}
 (rule:∀(i j:Int)(t u:Tok)(s:ah)(Q:Value->ah->Prop)(E:Value->ah->Prop),C i j->Q (.int (g i j) s.toks) { s with toks:=s.toks+1 }->wpAny (model X.prog X.w) X.A (f (.int i t) (.int j u)) Q E s):
 gT X f (rI C fun i j=>.int (g i j)):=by
 intro pz s σ H x y v u Q I rx ry h
 obtain⟨i,j,rfl,rfl,hc,q⟩:=h
 obtain⟨t,rfl⟩:=rx
 obtain⟨t',rfl⟩:=ry
 exact rule i j t t' s _ _ hc ⟨.int (g i j),H,I.tok _,⟨_,rfl⟩,q⟩
theorem Z4 {f:Value->Value->Sem Value}{g:Int->Int->Int}
 (rule:∀(i j:Int)(t u:Tok)(s:ah)(Q:Value->ah->Prop)(E:Value->ah->Prop),Q (.int (g i j) s.toks) { s with toks:=s.toks+1 }->wpAny (model X.prog X.w) X.A (f (.int i t) (.int j u)) Q E s):
 gT X f (FI fun i j=>.int (g i j)):=by
 intro pz s σ H x y v u Q I rx ry h
 obtain⟨i,j,rfl,rfl,q⟩:=h
 obtain⟨t,rfl⟩:=rx
 obtain⟨t',rfl⟩:=ry
 exact rule i j t t' s _ _ ⟨.int (g i j),H,I.tok _,⟨_,rfl⟩,q⟩
def Af (i j:Int):Prop:=0<j/\j<1073741824
def Y8 (i j:Int):Prop:=0<=j/\j<=1000000/\i.natAbs<2 ^ 64
def MD (i j:Int):Prop:=(-(2 ^ 64)<i/\i<2 ^ 64)∨(-(2 ^ 64)<j/\j<2 ^ 64)
theorem MD.ok {i j:Int}(h:MD i j):IntMulOk i j:=by
 rcases h with⟨h1,h2⟩|⟨h1,h2⟩
 ·exact .of_left (Oi h1 h2)
 ·exact .of_right (Oi h1 h2)
theorem Dk:gT X (h9 .Add) (FI fun i j=>.int (i+j)):=Z4 fun _ _ _ _ _ _ _ q=>add_int q
theorem Ec:gT X (h9 .Sub) (FI fun i j=>.int (i-j)):=Z4 fun _ _ _ _ _ _ _ q=>sub_int q
theorem ZM:gT X (h9 .Mult) (rI MD fun i j=>.int (i*j)):=UU fun _ _ _ _ _ _ _ hc q=>mul_int q hc.ok
theorem WO:gT X (h9 .FloorDiv) (rI Af fun i j=>.int (i / j)):=UU fun i j _ _ _ _ _ hc q=>by
 have h1:(0:Int)<j:=hc.1
 have h2:j<1073741824:=hc.2
 exact floordiv_int (by omega) (by rw[Int.fdiv_eq_ediv_of_nonneg i (by omega)];exact q) (.inl (PyProof.noPylong_small (by omega)))
theorem Al:gT X (h9 .Mod) (rI (fun _ j=>0<j) fun i j=>.int (i % j)):=UU fun i j _ _ _ _ _ hc q=>by
 have h1:(0:Int)<j:=hc
 exact mod_int' (by omega) (by rw[Int.fmod_eq_emod_of_nonneg i (by omega)];exact q)
theorem Ah:gT X (h9 .Pow) (rI Y8 fun i j=>.int (i ^ j.toNat)):=UU fun _ _ _ _ _ _ _ hc q=>pow_int_small hc.1 hc.2.1 hc.2.2 q
theorem Nl {f:Value->Sem Value}{g:Int->Int}
 (rule:∀(i:Int)(t:Tok)(s:ah)(Q:Value->ah->Prop)(E:Value->ah->Prop),Q (.int (g i) s.toks) { s with toks:=s.toks+1 }->wpAny (model X.prog X.w) X.A (f (.int i t)) Q E s):
 Bc X f (rU fun i=>.int (g i)):=by
 intro pz s σ H x v Q I rx h
 obtain⟨i,rfl,q⟩:=h
 obtain⟨t,rfl⟩:=rx
 exact rule i t s _ _ ⟨.int (g i),H,I.tok _,⟨_,rfl⟩,q⟩
theorem YZ:Bc X (unaryOp .USub) (rU fun i=>.int (-i)):=Nl fun _ _ _ _ _ q=>neg_int q
end
section
variable {X:Cx}{a b c:b7}{ta tb tc:TE}{pos:Pos}
theorem Z2 {pz:List (Addr×Obj)}{σ:St}{H:Hp}{s:ah}{Q:VK}{k k':Bool}(I:Inv X pz σ H s)(q:Q (.bl k) H)(e:k=k'):EP X pz σ Q (.bool k') s:=by
 subst e
 exact⟨.bl k,H,I,rfl,q⟩
theorem QE:gT X (qa .In) (fun x y H Q=>∃ i j,x=.str i/\y=.str j/\Q (.bl (!(ef j i 0 j.length 1).isEmpty)) H):=by
 intro pz s σ H x y v u Q I rx ry h
 obtain⟨i,j,rfl,rfl,q⟩:=h
 obtain⟨t,rfl⟩:=rx
 obtain⟨t',rfl⟩:=ry
 exact in_str (Z2 I q rfl)
theorem gT.or {f:Value->Value->Sem Value}{r r':R2}(h:gT X f r)(h':gT X f r'):gT X f (fun x y H Q=>r x y H Q∨r' x y H Q):=by
 intro pz s σ H x y v u Q I rx ry q
 rcases q with q|q
 ·exact h pz s σ H x y v u Q I rx ry q
 ·exact h' pz s σ H x y v u Q I rx ry q
def RC (K:ae)(x:V)(H:Hp)(k:Bool):Prop :=
 match x with
 |.non=>k=false
 |.bl b=>k=b
 |.int i=>k=(i != 0)
 |.str y=>y.length<=sizeLine/\k=((y.length:Int) != 0)
 |.byt y=>y.size<=sizeLine/\k=((y.size:Int) != 0)
 |.ref p=>(∃ xs,dS K H p xs/\k = !xs.isEmpty)∨(∃ xs,eG K H p xs/\k = !xs.isEmpty)∨∃ gU,H p=some (.dK gU)/\k = !gU.isEmpty
 |_=>False
theorem LR {κ:Type}{gU:List (κ×V)}{vs:List (κ×Value)}(r:KV gU vs):(!vs.isEmpty) = !gU.isEmpty:=by
 cases r<;>rfl
theorem zW {xs:List V}{aD:List Value}(r:aR xs aD):(!aD.toArray.isEmpty) = !xs.isEmpty:=by
 cases r<;>simp
theorem rK:(sizeLine:Nat)<2 ^ 63:=by rw[gx];decide
theorem GZ:Kf X (fun x H Q=>∃ k,RC X.K x H k/\Q k H):=by
 intro pz s σ H x v Q I rx h
 obtain⟨k,e,q⟩:=h
 have hl:=rK
 have hs:sizeLine=16777216:=gx
 cases x with
 |non =>
 cases rx
 have e':k=false:=e
 subst e'
 exact truthy_none ⟨H,I,q⟩
 |bl b =>
 cases rx
 have e':k=b:=e
 subst e'
 exact g6 ⟨H,I,q⟩
 |int i =>
 obtain⟨t,rfl⟩:=rx
 have e':k=(i != 0):=e
 subst e'
 exact PySem.P.truthy_int ⟨H,I,q⟩
 |str y =>
 obtain⟨t,rfl⟩:=rx
 obtain⟨hy,e'⟩:y.length<=sizeLine/\k=((y.length:Int) != 0):=e
 subst e'
 exact PySem.P.truthy_str (by omega) ⟨H,I.tok _,q⟩
 |byt y =>
 obtain⟨t,rfl⟩:=rx
 obtain⟨hy,e'⟩:y.size<=sizeLine/\k=((y.size:Int) != 0):=e
 subst e'
 exact PySem.W.truthy_bytes (by omega) ⟨H,I.tok _,q⟩
 |ref p =>
 cases rx
 have e':(∃ xs,dS X.K H p xs/\k = !xs.isEmpty)∨(∃ xs,eG X.K H p xs/\k = !xs.isEmpty)∨∃ gU,H p=some (.dK gU)/\k = !gU.isEmpty:=e
 rcases e' with⟨xs,hx,e'⟩|⟨xs,hx,e'⟩|⟨gU,hx,e'⟩
 ·subst e'
  obtain⟨aD,r,pl,hz⟩:=I.list hx
  have hlen:=r.length
  exact wpAny_truthy_list pl.isList (by simp only[av];omega) ⟨H,I.tok _,by rw[zW r];exact q⟩
 ·subst e'
  obtain⟨aD,r,pl,hz⟩:=I.tuple hx
  have hlen:=r.length
  exact truthy_tuple pl (by simp only[av];omega) ⟨H,I.tok _,by rw[zW r];exact q⟩
 ·subst e'
  obtain⟨hz,hS,vs,r,m⟩:gU.length<=sizeLine/\(p==ue)=false/\∃ vs,KV gU vs/\s.heap.DictOf (BN X.prog X.w) p vs:=I.bJ p _ hx
  have hlen:gU.length=vs.length:=Oh r
  exact wpAny_truthy_dict hS m (by omega) ⟨H,I.tok _,by rw[LR r];exact q⟩
 |_=>exact(show False from e).elim
theorem SJ (ha:PE X a ta)(he:∀ whole,xg a X.env whole=(do let v <-whole;wc a.pos;lz [v] (Pg v))):
 PT X a (fun σ H Q=>ta σ H fun x H'=>∃ k,RC X.K x H' k/\Q k H'):=by
 intro pz s σ H Q I h
 exact Ph (bA (ha pz s σ H _ I h) fun v s1 ⟨x,H1,I1,r1,q1⟩=>GZ pz s1 σ H1 x v Q I1 r1 q1) (he _)
theorem MK:gT X (h9 .Add) (fun x y H Q=>∃ i j,x=.str i/\y=.str j/\i.length+j.length<=sizeLine/\Q (.str (i++j)) H):=by
 intro pz s σ H x y v u Q I rx ry h
 obtain⟨i,j,rfl,rfl,hz,q⟩:=h
 obtain⟨t,rfl⟩:=rx
 obtain⟨t',rfl⟩:=ry
 exact add_str (fun t' tk=>⟨.str (i++j),H,I.tok _,⟨_,rfl⟩,q⟩) hz
theorem vals1 {x:V}{us:List Value}(r:aR [x] us):∃ u,us=[u]/\RelV x u:=by
 cases r with
 |cons r1 r2=>cases r2;exact⟨_,rfl,r1⟩
theorem D4:oI X (.type "int") (fun xs H Q=>(∃ i,xs=[.int i]/\Q (.int i) H)∨∃ k,xs=[.bl k]/\Q (.int (if k then 1 else 0)) H):=by
 intro pz s σ H xs us Q I r h
 rcases h with⟨i,rfl,q⟩|⟨k,rfl,q⟩
 ·obtain⟨u,rfl,t,rfl⟩:=vals1 r
  exact call_int_int ⟨.int i,H,I,⟨_,rfl⟩,q⟩
 ·obtain⟨u,rfl,r1⟩:=vals1 r
  cases r1
  exact call_int_bool ⟨.int (if k then 1 else 0),H,I.tok _,⟨_,rfl⟩,q⟩
def Cz (K:ae)(x:V)(H:Hp)(n:Nat):Prop :=
 match x with
 |.str y=>y.length<=sizeLine/\n=y.length
 |.byt y=>y.size<=sizeLine/\n=y.size
 |.ref p=>(∃ xs,dS K H p xs/\n=xs.length)∨∃ xs,eG K H p xs/\n=xs.length
 |_=>False
theorem QP:oI X (.builtin "len") (fun xs H Q=>∃ x n,xs=[x]/\Cz X.K x H n/\Q (.int n) H):=by
 intro pz s σ H xs us Q I r h
 obtain⟨x,n,rfl,e,q⟩:=h
 obtain⟨u,rfl,rx⟩:=vals1 r
 have hl:=rK
 have hs:sizeLine=16777216:=gx
 cases x with
 |str y =>
 obtain⟨t,rfl⟩:=rx
 obtain⟨hy,e'⟩:y.length<=sizeLine/\n=y.length:=e
 subst e'
 exact len_str (by omega) ⟨.int _,H,I.tok _,⟨_,rfl⟩,q⟩
 |byt y =>
 obtain⟨t,rfl⟩:=rx
 obtain⟨hy,e'⟩:y.size<=sizeLine/\n=y.size:=e
 subst e'
 exact PySem.W.len_bytes (by omega) ⟨.int _,H,I.tok _,⟨_,rfl⟩,q⟩
 |ref p =>
 cases rx
 have e':(∃ xs,dS X.K H p xs/\n=xs.length)∨∃ xs,eG X.K H p xs/\n=xs.length:=e
 rcases e' with⟨xs,hx,e'⟩|⟨xs,hx,e'⟩
 ·subst e'
  obtain⟨aD,r',pl,hz⟩:=I.list hx
  have hlen:=r'.length
  exact Calls.call_len_list pl.isList (by simp only[av];omega) ⟨.int xs.length,H,I.tok _,⟨_,by simp only[av];rw[hlen]⟩,q⟩
 ·subst e'
  obtain⟨aD,r',pl,hz⟩:=I.tuple hx
  have hlen:=r'.length
  exact Oy pl (by simp only[av];omega) ⟨.int xs.length,H,I.tok _,⟨_,by simp only[av];rw[hlen]⟩,q⟩
 |_=>exact(show False from e).elim
end
end L2
namespace L2
open PySem PySem.Spec PyProof.Rows
structure T8 (K:ae)(C:Addr):Prop where
 pg:tu K C Oz=true
 hd:rf K C=true
 po:rg K C=true
 sa:du K (.ref C) "__setattr__" = some (some (.builtin "object.__setattr__"))
def ZQ (K:ae)(C:Addr)(f:Str):Prop:=du K (.ref C) f=some none
structure Q7 (K:ae)(C:Addr)(m:Str)(f:Addr):Prop where
 at_:du K (.ref C) m=some (some (.ref f))
 fn:ug K (.ref f)=true
 kp:dv K (.ref f)=true
end L2
namespace L2
open PySem PySem.Spec PyProof.Rows
structure dC (k:Nat)(A:cg):Prop where
 hd:A.handled=none
 dp:A.depth+3*k+5<recursionLimit
 un:A.units+16*k+200<cLine
theorem dC.mono {j k:Nat}{A:cg}(r:dC k A)(h:j<=k):dC j A:=⟨r.hd,by have:=r.dp;omega,by have:=r.un;omega⟩
theorem dC.deeper {k:Nat}{A:cg}(r:dC (k+1) A)(env:Env):dC k (A.deeper env) :=
 ⟨r.hd,by have:=r.dp;show A.depth+1+3*k+5<_;omega,by have:=r.un;show A.units+3+16*k+200<_;omega⟩
theorem dC.depth {k:Nat}{A:cg}(r:dC k A):A.depth<recursionLimit:=by have:=r.dp;omega
noncomputable def Bw:TA:=fun _ H Q=>Q [] H
noncomputable def M0 (ta:TE)(tr:TA):TA:=fun σ H Q=>ta σ H fun x H1=>tr σ H1 fun xs H2=>Q (x::xs) H2
section
variable {X:Cx}{e:b7}{es:List b7}{te:TE}{t:TA}{pos:Pos}
theorem AO:PA X [] Bw:=fun _ _ _ _ H Q I h=>rh ⟨[],H,I,.nil,h⟩
theorem oJ (ha:PE X e te)(hr:PA X es t)(hs:ar (e::es) X.env=(false,eval e X.env)::ar es X.env:=by rfl):PA X (e::es) (M0 te t):=by
 intro pos pz s σ H Q I h
 rw[hs]
 show wpAny _ _ (zk ((false,eval e X.env)::dq pos (ar es X.env))) _ _ s
 refine qg (bA (ha pz s σ H _ I h) fun u s1 ⟨x,H1,I1,r1,q1⟩=>?_)
 exact bA (hr pos pz s1 σ H1 _ I1 q1) fun us s2 ⟨xs,H2,I2,r2,q2⟩=>⟨x::xs,H2,I2,.cons r1 r2,q2⟩
noncomputable def Mb (t:TA):TE:=fun σ H Q=>t σ H fun xs H1=>xs.length<=sizeLine/\∀ p,H1 p=none->Q (.ref p) (upd H1 p (.tup xs))
noncomputable def Mc (t:TA):TE:=fun σ H Q=>t σ H fun xs H1=>xs.length<=sizeLine/\∀ p,H1 p=none->Q (.ref p) (upd H1 p (.lst xs))
theorem Cc {x1}(h:PA X es t):PE X (.Tuple es x1 pos) (Mb t):=by
 intro pz s σ H Q I hq
 refine wpAny_Tuple_spliced (bA (h pos pz s σ H _ I hq) fun us s1 ⟨xs,H1,I1,r,z,q⟩=>⟨by rw[<-r.length];exact z,?_⟩)
 have hf:H1 s1.heap.objs.size=none:=I1.bJ.fresh (bb _)
 refine⟨.ref s1.heap.objs.size,upd H1 s1.heap.objs.size (.tup xs),I1.laid (t':=s1.toks) (fun b u e=>au _ e) (bb _) ?_,rfl,q _ hf⟩
 exact⟨z,us,r,mK.new _ _⟩
theorem Z1 (h:PA X es t):PE X (.List es pos) (Mc t):=by
 intro pz s σ H Q I hq
 refine wpAny_List_spliced (bA (h pos pz s σ H _ I hq) fun us s1 ⟨xs,H1,I1,r,z,q⟩=>⟨by rw[<-r.length];exact z,?_⟩)
 have hf:H1 s1.heap.objs.size=none:=I1.bJ.fresh (bb _)
 refine⟨.ref s1.heap.objs.size,upd H1 s1.heap.objs.size (.lst xs),I1.laid (t':=s1.toks) (fun b u e=>au _ e) (bb _) ?_,rfl,q _ hf⟩
 exact⟨z,us,0,r,bp _ rfl⟩
end
abbrev Sp:=List V->Hp->VK->XK->Prop
abbrev qS:=List Env->Hp->ah->XK->Value->ah->Prop
structure LY (P:bq)(w:cq)(K:ae)(mg:Str->Option Value)(base:Heap)(A:cg)(outer:List Env)(s:ah)(H:Hp):Prop where
 frames:A.frames=some outer
 mod:Mod K mg base
 bs:∀ b o,base.get? b=some o->s.heap.get? b=some o/\H b=none
 bsz:base.objs.size<=s.heap.objs.size
 kG:s.heap.FunFrames base outer
 frf:∀ b∈eM outer,H b=none
 bJ:dN P w H s.heap
 bare:px s.gens
inductive CE (outer:List Env)(P:bq)(w:cq)(H:Hp)(s:ah)(Q:VK)(u:Value)(s':ah):Prop
 |mk (v:V)(H':Hp)(a:s'.os=s.os)(b:px s'.gens)(c:Un (eM outer) [] H H' s.heap s'.heap)(d:dN P w H' s'.heap)(r:RelV v u)(q:Q v H')
def CR (CX:qS)(outer:List Env)(P:bq)(w:cq)(H:Hp)(s:ah)(Q:VK)(E:XK)(r:Pk)(s':ah):Prop :=
 match r with
 |.ok (.ret u)=>CE outer P w H s Q u s'
 |.ok _=>False
 |.error e=>CX outer H s E e s'
structure cM (P:bq)(w:cq)(K:ae)(mg:Str->Option Value)(base:Heap)(CX:qS)(k:Nat)(f:Addr)(fd:fx)(ps:List Str)(sp:Sp):Prop where
 len:∀ vs H Q E,sp vs H Q E->vs.length=ps.length
 run:∀(A:cg)(outer:List Env)(s:ah)(H:Hp)(args:Args)(us:List Value)(vs:List V)(Q:VK)(E:XK),dC k A->LY P w K mg base A outer s H->we s fd args (ps.zip us)->aR vs us->sp vs H Q E ->
 ky (model P w) A (.call (.ref f) args) (CR CX outer P w H s Q E) s
section
variable {X:Cx}{pz:List (Addr×Obj)}{σ:St}{H:Hp}{s s':ah}
theorem Inv.Av (I:Inv X pz σ H s):LY X.prog X.w X.K X.mg X.base X.A X.stack s H :=
 ⟨I.ok.frames,I.ok.mod,I.bs,bz I.ok.bsz I.sz,I.stack,I.mS,I.bJ,I.bare⟩
theorem Inv.after {Q:VK}{u:Value}(I:Inv X pz σ H s)(h:CE X.stack X.prog X.w H s Q u s'):EP X pz σ Q u s':=by
 obtain⟨v,H',os,bare,un,bJ,r,q⟩:=h
 obtain⟨hh,g,d,t,os'⟩:=s'
 obtain rfl:os'=s.os:=os
 exact⟨v,H',I.call (h':=hh) (g':=g) (d':=d) (t':=t) (ch:=[]) un bJ bare (fun b z=>absurd z (by simp)),r,q⟩
end
noncomputable def Fs (sp:Sp)(dvs:List V)(E:XK)(t:TA):TE:=fun σ H Q=>t σ H fun vs H1=>sp (vs++dvs) H1 Q E
def Binds (K:ae)(fd:fx)(ps:List Str)(ds:List Value):Prop :=
 ∀(s:ah)(us:List Value),K.In s.heap->(us++ds).length=ps.length->we s fd ⟨us,[]⟩ (ps.zip (us++ds))
theorem Binds.all {K:ae}{fd:fx}{ps:List Str}(h:∀ us:List Value,us.length=ps.length->Py fd ⟨us,[]⟩=pure (ps.zip us)):Binds K fd ps []:=fun s us _ hl=>by
 rw[d7]at hl ⊢
 exact .of_eq (h us hl)
def iG (CX:qS)(X:Cx)(E:XK):Prop:=∀(pz:List (Addr×Obj))(σ:St)(H:Hp)(s:ah)(e:Value)(s':ah),Inv X pz σ H s->CX X.stack H s E e s'->X.xe e s'
section
variable {X:Cx}{CX:qS}{k:Nat}{f C:Addr}{fd:fx}{ps:List Str}{sp:Sp}{dvs:List V}{ds:List Value}{E:XK}{x m:Str}{p pos apos:Pos}{e o:b7}{es:List b7}{ta:TE}{t:TA}
theorem Dm {pz:List (Addr×Obj)}{σ:St}{H:Hp}{s:ah}{Q:VK}{us:List Value}{vs:List V}(F:cM X.prog X.w X.K X.mg X.base CX k f fd ps sp)(hr:dC k X.A)(hb:Binds X.K fd ps ds)(hd:aR dvs ds)(hx:iG CX X E)
 (I:Inv X pz σ H s)(r:aR vs us)(h:sp (vs++dvs) H Q E):wpAny (model X.prog X.w) X.A (call (.ref f) us) (EP X pz σ Q) X.xe s:=by
 have r2:aR (vs++dvs) (us++ds):=r.append hd
 have hl:(us++ds).length=ps.length:=by rw[<-r2.length];exact F.len _ _ _ _ h
 refine zq (l5 (F.run X.A X.stack s H ⟨us,[]⟩ (us++ds) (vs++dvs) Q E hr I.Av (hb s us I.jQ hl) r2 h) fun r s' hq=>?_)
 cases r with
 |error e=>exact hx pz σ H s e s' I hq
 |ok fl =>
 cases fl with
 |ret u=>exact I.after hq
 |next=>exact i7 hq
 |brk=>exact i7 hq
 |cont=>exact i7 hq
theorem KR (F:cM X.prog X.w X.K X.mg X.base CX k f fd ps sp)(hr:dC k X.A)(hg:Gl X x)(hm:X.mg x=some (.ref f))(hk:dv X.K (.ref f)=true)(hb:Binds X.K fd ps ds)(hd:aR dvs ds)(hx:iG CX X E)
 (ha:PA X (e::es) t)(hdb:(x==("__debug__" : Str))=false:=by decide)(he:ar (e::es) X.env=(false,eval e X.env)::ar es X.env:=by rfl)(fH:(dq pos (ar es X.env)).any (·.1)=false:=by rfl):
 PE X (.Call (.Name x p) (e::es) [] pos) (Fs sp dvs E t):=by
 intro pz s σ H Q I h
 refine gw (rH I hg hm ?_ hdb)
 refine xi (h₀:=X.base) I.ok.mod.kin hk (bA (ha pos pz s σ H _ I h) fun us s1 ⟨vs,H1,I1,r,q⟩=>⟨I1.jQ,?_⟩) he fH
 exact Dm F hr hb hd hx I1 r q
structure Mk (K:ae)(C f:Addr):Prop where
 makes:ze K C=true
 init:du K (.ref C) "__init__" = some (some (.ref f))
 fn:ug K (.ref f)=true
 kp:dv K (.ref C)=true
end
structure kW (N P:List Str)(sc:Scope):Prop where
 kind:sc.kind=.function
 co:sc.isCoroutine=false
 gen:sc.isGenerator=false
 nd:N.Nodup
 pre:N.take P.length=P
 par:∀ x∈P,sc.names.lookup x=some .local∨sc.names.lookup x=some .cell
 nofree:∀ y∈sc.names,y.2≠.free
theorem DH {kindOf:Str->Option tv}{x:Str}:∀{binds:List (Str×Value)}{m:Str->Option Value},(∀ v,(x,v)∉binds)->bindL kindOf binds m x=m x
 |[],_,_=>rfl
 |(n,v)::r,m,h=>by
  unfold bindL
  rw[DH fun w hw=>h w (ek _ hw)]
  split
  ·have:x≠n:=by rintro rfl;exact h v fb
   simp [this]
  ·rfl
theorem DN {kindOf:Str->Option tv}{x:Str}:∀{binds:List (Str×Value)}{m:Str->Option Value},(∀ v,(x,v)∉binds)->bindC kindOf binds m x=m x
 |[],_,_=>rfl
 |(n,v)::r,m,h=>by
  unfold bindC
  rw[DN fun w hw=>h w (ek _ hw)]
  split
  ·rfl
  ·have:x≠n:=by rintro rfl;exact h v fb
   simp [this]
theorem CT {kindOf:Str->Option tv}{x:Str}{v:Value}:∀{P:List Str}{vs:List Value}{i:Nat}{m:Str->Option Value},P.Nodup->P[i]? = some x->vs[i]? = some v->kindOf x=some .local ->
  bindL kindOf (P.zip vs) m x=some v
 |[],_,_,_,_,h,_,_=>by simp at h
 |_::_,[],_,_,_,_,h,_=>by simp at h
 |p::P,w::vs,0,m,nd,h1,h2,hk=>by
  simp at h1 h2;subst h1;subst h2
  show bindL kindOf ((p,w)::P.zip vs) m p=_
  unfold bindL
  rw[DH fun v hv=>(List.nodup_cons.mp nd).1 (u4 hv).1,if_pos hk]
  simp
 |p::P,w::vs,i+1,m,nd,h1,h2,hk=>by
  show bindL kindOf ((p,w)::P.zip vs) m x=_
  unfold bindL
  exact CT (i:=i) (List.nodup_cons.mp nd).2 (by simpa using h1) (by simpa using h2) hk
theorem D7 {kindOf:Str->Option tv}{x:Str}{v:Value}:∀{P:List Str}{vs:List Value}{i:Nat}{m:Str->Option Value},P.Nodup->P[i]? = some x->vs[i]? = some v->kindOf x≠some .local ->
  bindC kindOf (P.zip vs) m x=some v
 |[],_,_,_,_,h,_,_=>by simp at h
 |_::_,[],_,_,_,_,h,_=>by simp at h
 |p::P,w::vs,0,m,nd,h1,h2,hk=>by
  simp at h1 h2;subst h1;subst h2
  show bindC kindOf ((p,w)::P.zip vs) m p=_
  unfold bindC
  rw[DN fun v hv=>(List.nodup_cons.mp nd).1 (u4 hv).1,if_neg hk]
  simp
 |p::P,w::vs,i+1,m,nd,h1,h2,hk=>by
  show bindC kindOf ((p,w)::P.zip vs) m x=_
  unfold bindC
  exact D7 (i:=i) (List.nodup_cons.mp nd).2 (by simpa using h1) (by simpa using h2) hk
noncomputable def start (N:List Str)(vs:List V):St:=vs.map some++ao (N.length-vs.length) none
noncomputable def cW (CX:qS)(P:bq)(w:cq)(K:ae)(mg:Str->Option Value)(base:Heap)(N:List Str)(qual:Str)(scope:Scope)(f:Addr)(cd:Value)(A:cg)(outer:List Env)(s:ah)(H:Hp)(E:XK):Cx where
 prog:=P
 w:=w
 K:=K
 mg:=mg
 base:=base
 A:=A.deeper (gh qual scope s.heap.objs.size f cd)
 N:=N
 s₀:=s
 H₀:=H
 env:=gh qual scope s.heap.objs.size f cd
 outer:=outer
 stack:=gh qual scope s.heap.objs.size f cd::outer
 ex:=[]
 calm:=true
 fn:=fun _=>true
 pn:=[]
 xe:=fun e s'=>wpAny (model P w) (A.deeper (gh qual scope s.heap.objs.size f cd)) (wg (gh qual scope s.heap.objs.size f cd) e) (fun _ s''=>CX outer H s E e s'') (fun e' s''=>CX outer H s E e' s'') s'
theorem G9 {sc:Scope}{n:Nat}{x:Str}(h:sc.names.lookup x=some .cell):∃ c,(Pa n sc.names []).lookup x=some c:=by
 have q:=uh sc.names n [] (.inl h)
 exact Option.isSome_iff_exists.mp q
theorem PL {CX:qS}{P:bq}{w:cq}{K:ae}{mg:Str->Option Value}{base:Heap}{N ps:List Str}{qual:Str}{scope:Scope}{f:Addr}{cd:Value}{A:cg}{outer:List Env}{s s1:ah}{H:Hp}{E:XK}{us:List Value}{vs:List V}
  (S:kW N ps scope)(hd:A.handled=none)(e0:LY P w K mg base A outer s H)(hl:vs.length=ps.length)(r:aR vs us)
  (x:InCallC s s.heap.objs.size (bindL (gh qual scope s.heap.objs.size f cd).kindOf (ps.zip us) fun _=>none) (Pa (s.heap.objs.size+1) scope.names []) (bindC (gh qual scope s.heap.objs.size f cd).kindOf (ps.zip us) fun _=>none) s1):
  Inv (cW CX P w K mg base N qual scope f cd A outer s H E) [] (start N vs) H s1:=by
 have fH:ps.length<=N.length:=by have:=congrArg jk S.pre;rw[jo]at this;omega
 obtain⟨h1,tk,rfl,hk⟩:=x.done
 have noA:∀ b:Addr,b∉(cW CX P w K mg base N qual scope f cd A outer s H E).ex:=fun b z=>absurd (show b∈([]:List Addr)from z) (by simp)
 refine⟨⟨e0.mod,S.kind,rfl,rfl,bb _,fun y z c h1 h2=>?_,fun y hy=>?_,fun y c _ h=>?_,fun _=>hd,Around.frames_deeper e0.frames,.inr ⟨rfl,rfl⟩,fun b z=>absurd z (noA b),e0.bs,e0.bsz,fun b _ _=>noA b,fun b z=>absurd z (noA b),e0.kG,e0.frf⟩,
  rfl,e0.bare,Un.kept hk,⟨_,x.toInCall.ns,fun i y v h1 h2 h3=>?_⟩,fun y c h=>⟨_,x.cell y c h⟩,e0.bJ.fresh (bb _),fun y c h=>?_,fun p hp=>absurd (show p∈([]:List (Addr×Obj))from hp) (by simp),e0.bJ.kept hk,?_⟩
 ·exact name_of_addr x.apart (jc h1) (jc h2)
 ·have hy:scope.names.lookup y=some .cell∨scope.names.lookup y=some .free:=hy
  rcases hy with hy|hy
  ·exact G9 hy
  ·exact absurd rfl (S.nofree _ (jc hy))
 ·exact uf (x.above y c (jc h))
 ·have hi:i<vs.length:=by
   unfold start at h2
   by_cases hi:i<vs.length
   ·exact hi
   ·rw[ei (by simpa using hi)]at h2
    rw[fw]at h2
    split at h2<;>cases h2
  have ha:vs[i]? = some v:=by
   unfold start at h2
   rw[dh (by simpa using hi),di]at h2
   cases e:vs[i]? with
   |none=>rw[e]at h2;cases h2
   |some a=>rw[e]at h2;cases h2;rfl
  obtain⟨u,hu,rv⟩:=r.get ha
  have hp:ps[i]? = some y:=by
   rw[<-S.pre,List.getElem?_take_of_lt (by omega)];exact h1
  have ndP:ps.Nodup:=by rw[<-S.pre];exact S.nd.sublist (List.take_sublist _ _)
  refine⟨u,rv,?_⟩
  rcases S.par y (cw hp)with k|k
  ·exact .inl ⟨k,CT ndP hp hu k⟩
  ·obtain⟨c,e⟩:=G9 (n:=s.heap.objs.size+1) k
   refine .inr ⟨.inl k,c,e,?_⟩
   have q:=x.cell y c e
   rw[D7 ndP hp hu (by show scope.names.lookup y≠_;rw[k];decide)]at q
   exact q
 ·exact e0.bJ.fresh (uf (x.above y c (jc h)))
 ·unfold start
  show _=N.length
  rw[aq,aa,nu]
  omega
theorem US {CX:qS}{P:bq}{w:cq}{K:ae}{mg:Str->Option Value}{base:Heap}{k:Nat}{f:Addr}{name qual:Str}{params:Arguments}{body:List Stmt}{scope:Scope}{dV kV doc pm aT ct oc:Value}{an od:Option Addr}
  {osl:Array (Option Value)}{N ps:List Str}{sp:Sp}(lk:K.lookup f=some ⟨oc,od,.func (je name qual params body scope dV kV doc pm an aT ct),osl⟩)(hcd:lx K aT qual=true)(S:kW N ps scope)
  (len:∀ vs H Q E,sp vs H Q E->vs.length=ps.length)
  (hbody:∀(A:cg)(outer:List Env)(s:ah)(H:Hp)(vs:List V)(Q:VK)(E:XK),dC k (A.deeper (gh qual scope s.heap.objs.size f aT))->sp vs H Q E ->
   ∃ t,iN (cW CX P w K mg base N qual scope f aT A outer s H E) body t/\t { nx:=fun _ H'=>Q .non H',rt:=Q } (start N vs) H):
  cM P w K mg base CX (k+1) f (je name qual params body scope dV kV doc pm an aT ct) ps sp:=by
 refine⟨len,fun A outer s H args us vs Q E hr e0 hb r hsp=>?_⟩
 have hl:=len _ _ _ _ hsp
 have KX:K.In s.heap:=e0.mod.kin.keeps fun b o e=>(e0.bs b o e).1
 have lim:s.heap.NoLimit:=e0.mod.nolimit.keeps fun b o e=>(e0.bs b o e).1
 have hkind:∀ y∈ps.zip us,scope.names.lookup y.1=some .local∨(scope.names.lookup y.1=some .cell/\((Pa (s.heap.objs.size+1) scope.names []).lookup y.1).isSome=true):=fun⟨n,v⟩ hy=>by
  rcases S.par n (u4 hy).1 with q|q
  ·exact .inl q
  ·exact .inr ⟨q,uh _ _ _ (.inl q)⟩
 refine codeAny_call_function hr.depth (KX _ _ lk) rfl S.co S.gen rfl (PySem.W.codeRec_of KX hcd) (hb _ _ _ _ ?_)
 refine wpAny_newFunctionEnv_cells S.kind hkind fun env he s1 x=>?_
 subst he
 refine⟨lim.keeps x.toInCall.keep,codeAny_func ?_⟩
 obtain⟨t,ht,hq⟩:=hbody A outer s H vs Q E (hr.deeper _) hsp
 have I:Inv (cW CX P w K mg base N qual scope f aT A outer s H E) [] (start N vs) H s1:=PL S hr.hd e0 hl r x
 refine ee (ht [] s1 (start N vs) H _ I hq) (fun fl s' hs=>?_) fun e s' hs=>hs
 have fin:∀{σ':St}{H':Hp}{v:V}{u:Value},Inv (cW CX P w K mg base N qual scope f aT A outer s H E) [] σ' H' s'->RelV v u->Q v H'->CE outer P w H s Q u s' :=
  fun{σ' H' v u} J rv q=>⟨v,H',J.os,J.bare,J.base,J.bJ,rv,q⟩
 cases fl with
 |ret u =>
  obtain⟨v,σ',H',J,rv,q⟩:=hs
  exact fin J rv q
 |next =>
  obtain⟨σ',H',J,q⟩:=hs
  exact fin (v:=V.non) (u:=fo) J rfl q
 |brk =>
  obtain⟨_,_,_,q⟩:=hs
  exact i7 q
 |cont =>
  obtain⟨_,_,_,q⟩:=hs
  exact i7 q
end L2
namespace L2
open PySem PySem.Spec PyProof.Rows
section
variable {X:Cx}{x:Str}{p pos:Pos}{e:b7}{es:List b7}{t:TA}{id T:String}{r:List V->Hp->VK->Prop}
noncomputable def UI (r:List V->Hp->VK->Prop)(t:TA):TE:=fun σ H Q=>t σ H fun vs H1=>r vs H1 Q
theorem zE (hc:oI X (.builtin id) r)(hg:Gl X x)(hm:X.mg x=none)(hv:cu x=some (.builtin id))(ha:PA X (e::es) t)(hn:x ≠"__name__":=by decide)(hdb:(x==("__debug__" : Str))=false:=by decide)
 (he:ar (e::es) X.env=(false,eval e X.env)::ar es X.env:=by rfl)(fH:(dq pos (ar es X.env)).any (·.1)=false:=by rfl):PE X (.Call (.Name x p) (e::es) [] pos) (UI r t):=by
 intro pz s σ H Q I h
 refine gw (nC I hg hm hv ?_ hn hdb)
 exact PyProof.Rows.callWith_builtin1 (bA (ha pos pz s σ H _ I h) fun us s1 ⟨vs,H1,I1,r1,q1⟩=>hc pz s1 σ H1 vs us Q I1 r1 q1) he fH
theorem O9 (hc:oI X (.type T) r)(hg:Gl X x)(hm:X.mg x=none)(hv:cu x=some (.type T))(ha:PA X (e::es) t)(hn:x ≠"__name__":=by decide)(hdb:(x==("__debug__" : Str))=false:=by decide)
 (he:ar (e::es) X.env=(false,eval e X.env)::ar es X.env:=by rfl)(fH:(dq pos (ar es X.env)).any (·.1)=false:=by rfl):PE X (.Call (.Name x p) (e::es) [] pos) (UI r t):=by
 intro pz s σ H Q I h
 refine gw (nC I hg hm hv ?_ hn hdb)
 exact gV (bA (ha pos pz s σ H _ I h) fun us s1 ⟨vs,H1,I1,r1,q1⟩=>hc pz s1 σ H1 vs us Q I1 r1 q1) he fH
end
end L2
namespace HT
open PySem PyProof.Rows
section
variable {prog:bq}{w:cq}{A:cg}{E:Value->ah->Prop}{s:ah}
theorem YI {t b:Addr}{vs ws:List Value}{Q:Value->ah->Prop}(ht:IsTup s.heap t vs.toArray)(hb:IsTup s.heap b ws.toArray)(hv:vs≠[])
  (h1:ws=[]->Q (.ref t) s)(h2:ws≠[]->Q (.ref s.heap.objs.size) { s with heap:=s.heap.push { cls:=.type "tuple", data:=.seq (vs++ws).toArray } })
  (kE:vs.length+ws.length<=sizeLine):wpAny (model prog w) A (h9 .Add (.ref t) (.ref b)) Q E s:=by
 obtain⟨⟨cls,dd,data,sl⟩,ho,hc,n,hd⟩:=id ht
 obtain⟨⟨cls2,dd2,data2,sl2⟩,ho2,hc2,n2,hd2⟩:=id hb
 simp only at hc hd hc2 hd2
 subst hc hd hc2 hd2
 have e:vs.toArray++ws.toArray=(vs++ws).toArray:=by simp
 by_cases hw:ws=[]
 ·exact xx ⟨_,ho,rfl⟩ ⟨_,ho2,rfl⟩ tw w8 nk my (mh _ _)
   (tuple_addW1 t b vs.toArray ws.toArray n n2 dd dd2 sl sl2 (by simpa using hv) (by simp [hw])) ⟨ho,ho2,h1 hw⟩
 ·refine xx ⟨_,ho,rfl⟩ ⟨_,ho2,rfl⟩ tw w8 nk my (mh _ _)
   (tuple_addW2 t b vs.toArray ws.toArray n n2 dd dd2 sl sl2 (by simpa using hv) (by simpa using hw) (by rw[av,av];exact kE)) ⟨ho,ho2,?_⟩
  rw[e]
  exact h2 hw
noncomputable def bM (n d:Nat):Option Int->Nat
 |none=>d
 |some v=>if v<0 then(v+(n:Int)).toNat else min v.toNat n
theorem G8 (n d:Nat)(hd:d<=n)(o:Option Int):bM n d o<=n:=by
 cases o with
 |none=>exact hd
 |some v =>
 show(if v<0 then(v+(n:Int)).toNat else min v.toNat n)<=n
 by_cases hv:v<0
 ·rw[if_pos hv];omega
 ·rw[if_neg hv];exact Nat.min_le_right _ _
theorem mQ (v:Int)(n d:Nat):(if v<0 then max (v+(n:Int)) 0 else min v (n:Int))=((bM n d (some v):Nat):Int):=by
 show(if v<0 then max (v+(n:Int)) 0 else min v (n:Int))=(((if v<0 then(v+(n:Int)).toNat else min v.toNat n):Nat):Int)
 by_cases hv:v<0
 ·simp only[if_pos hv];omega
 ·simp only[if_neg hv];omega
theorem L9 (lo hi:Option Int)(n:Nat):l9 lo hi 1 (n:Int)=(((bM n 0 lo:Nat):Int),((bM n n hi:Nat):Int)):=by
 have h1:¬((1:Int)<0):=by omega
 unfold l9
 simp only[h1,if_false]
 refine Prod.ext ?_ ?_
 ·cases lo with
 |none=>rfl
 |some v=>exact mQ v n 0
 ·cases hi with
 |none=>rfl
 |some v=>exact mQ v n n
theorem LF (i j:Nat):jx (i:Int) (j:Int) 1=j-i:=by
 unfold jx
 have h1:(1:Int)>0:=by omega
 simp only[h1,if_true,Pl]
 split<;>omega
theorem zZ {v:Value}{o:Option Int}{Q:Option Int->ah->Prop}(p:r8 v o)(h:Q o s):wpAny (model prog w) A (Builtin.Slice.slicePartIndex v) Q E s:=by
 cases p with
 |none=>exact zr h
 |int i t=>exact slicePart_int h
theorem oX {sl:Addr}{vl vu:Value}{lo hi:Option Int}{n:Nat}{Q:Int×Int×Nat->ah->Prop}(hs:s.heap.IsSliceOf sl vl vu .none)(pl:r8 vl lo)(pu:r8 vu hi)
 (h:Q (((bM n 0 lo:Nat):Int),1,bM n n hi-bM n 0 lo) s):wpAny (model prog w) A (qh (.ref sl) (pure (n:Int))) Q E s:=by
 obtain⟨os,hos,hcs,hds⟩:=id hs
 unfold qh Builtin.Slice.sliceFields
 refine af (af (dw hos hds (x:=vl) rfl (af (dw hos hds (x:=vu) rfl (af (dw hos hds (x:=.none) rfl (aw ?_)))))))
 refine af (zr ?_)
 show wpAny _ _ (if((1:Int)==0)=true then _ else _) _ _ s
 rw[if_neg (by decide)]
 refine af (zZ pl (af (zZ pu (af (aw ?_)))))
 show wpAny _ _ (match l9 lo hi 1 (n:Int)with|(lo,hi)=>pure (lo,(1:Int),jx lo hi 1)) _ _ s
 rw[L9 lo hi n]
 show wpAny _ _ (pure (((bM n 0 lo:Nat):Int),(1:Int),jx ((bM n 0 lo:Nat):Int) ((bM n n hi:Nat):Int) 1)) _ _ s
 rw[LF]
 exact aw h
theorem Q8 (xs:Array Value)(i k:Nat):((bc k).filterMap fun(m:Nat)=>xs[((i:Int)+(m:Int)*1).toNat]?).toArray=((xs.toList.drop i).take k).toArray:=by
 have e:(fun(m:Nat)=>xs[((i:Int)+(m:Int)*1).toNat]?)=fun m=>xs[i+m]?:=by
  funext m
  have:((i:Int)+(m:Int)*1).toNat=i+m:=by omega
  rw[this]
 rw[e]
 have:=pick_run xs i k
 rw[List.filterMap_map]at this
 have e2:((fun x=>xs[x]?)∘fun x=>i+x)=fun m=>xs[i+m]?:=rfl
 rw[e2]at this
 rw[this]
theorem xR {t sl:Addr}{items:Array Value}{vl vu:Value}{lo hi:Option Int}{Q:Value->ah->Prop}(ht:IsTup s.heap t items)(hs:s.heap.IsSliceOf sl vl vu .none)(pl:r8 vl lo)(pu:r8 vu hi)
  (hw:¬(bM items.size 0 lo=0/\bM items.size items.size hi=items.size))
  (h:Q (.ref s.heap.objs.size) { s with heap:=s.heap.push { cls:=.type "tuple", data:=.seq ((items.toList.drop (bM items.size 0 lo)).take (bM items.size items.size hi-bM items.size 0 lo)).toArray } })
  (kE:items.size<=sizeLine):wpAny (model prog w) A (ui (.ref t) (.ref sl)) Q E s:=by
 have htake:sizeOk (.seq ((items.toList.drop (bM items.size 0 lo)).take (bM items.size items.size hi-bM items.size 0 lo)).toArray):=by
  show((items.toList.drop (bM items.size 0 lo)).take (bM items.size items.size hi-bM items.size 0 lo)).toArray.size<=sizeLine
  rw[av,jo,fk,me]
  omega
 have hj:bM items.size items.size hi<=items.size:=G8 _ _ (bb _) hi
 obtain⟨os,hos,hcs,hds⟩:=id hs
 have hTs:s.TypeIs (.ref sl) "slice":=⟨os,hos,hcs⟩
 unfold ui
 try with_reducible refine jj ?_
 first|refine af (aw ?_)|skip
 refine af (rj ht.typeIs (by decide) ?_)
 refine af (iq (name:=j3 "__getitem__") ht.typeIs g9
  (ig g9 ht.typeIs wo ?_ (xj _ _)))
 show wpAny _ _ (ly (.ref t) >>= _) _ _ s
 refine af (Oj ht ?_)
 refine af (uj hTs ?_)
 rw[if_pos (by decide)]
 refine af (oX hs pl pu ?_)
 have hno:¬((((bM items.size 0 lo:Nat):Int)==0&&(1:Int)==1&&(bM items.size items.size hi-bM items.size 0 lo)==items.size)=true):=by
  intro q
  rw[ay,ay]at q
  have q1:((bM items.size 0 lo:Nat):Int)=0:=eq_of_beq q.1.1
  have q2:bM items.size items.size hi-bM items.size 0 lo=items.size:=eq_of_beq q.2
  exact hw ⟨by omega,by omega⟩
 show wpAny _ _ (if(((bM items.size 0 lo:Nat):Int)==0&&(1:Int)==1&&(bM items.size items.size hi-bM items.size 0 lo)==items.size)=true then _ else _) _ _ s
 rw[if_neg hno,Q8]
 first
  |exact af (m:=gj _) (fu (aw ⟨_,rfl,aw h⟩) htake)
  |exact af (m:=gj _) (fu (af (aw (aw ⟨_,rfl,aw h⟩))) htake)
  |exact af (af (m:=gj _) (fu (aw (aw ⟨_,rfl,aw h⟩)) htake))
  |exact af (af (m:=gj _) (fu (aw ⟨_,rfl,aw h⟩) htake))
end
end HT
namespace L2
open PySem PySem.Spec PyProof.Rows
abbrev TO:=St->Hp->(Option Int->Hp->Prop)->Prop
def PO (X:Cx)(e:Option b7)(t:TO):Prop :=
 ∀(pz:List (Addr×Obj))(s:ah)(σ:St)(H:Hp)(Q:Option Int->Hp->Prop),Inv X pz σ H s->t σ H Q ->
 wpAny (model X.prog X.w) X.A (evalPart e X.env) (fun u s'=>∃ o H',Inv X pz σ H' s'/\r8 u o/\Q o H') X.xe s
noncomputable def WN:TO:=fun _ H Q=>Q none H
noncomputable def Fv (t:TE):TO:=fun σ H Q=>t σ H fun x H1=>∃ i,x=.int i/\Q (some i) H1
section
variable {X:Cx}{e:b7}{te:TE}{lo hi:Option b7}{tl th:TO}{pos p2:Pos}
theorem YD:PO X none WN:=by
 intro pz s σ H Q I h
 rw[Ol]
 exact aw ⟨none,H,I,.none,h⟩
theorem X6 (h:PE X e te):PO X (some e) (Fv te):=by
 intro pz s σ H Q I hw
 rw[evalPart_some]
 refine bA (h pz s σ H _ I hw) fun u s1 ⟨x,H1,I1,r1,q1⟩=>?_
 obtain⟨i,rfl,q⟩:=q1
 obtain⟨t,rfl⟩:=r1
 exact⟨some i,H1,I1,.int i t,q⟩
def rW (X:Cx)(r:V->Option Int->Option Int->Hp->VK->Prop):Prop :=
 ∀(pz:List (Addr×Obj))(s:ah)(σ:St)(H:Hp)(x:V)(v vl vu:Value)(lo hi:Option Int)(sl:Addr)(Q:VK),Inv X pz σ H s->RelV x v->s.heap.IsSliceOf sl vl vu .none->r8 vl lo->r8 vu hi->r x lo hi H Q ->
 ∃ T id,qi (.type T) "__getitem__" = pure (some (.builtin id))/\s.TypeIs v T/\wpAny (model X.prog X.w) X.A (ui v (.ref sl)) (EP X pz σ Q) X.xe s
theorem rW.or {r r':V->Option Int->Option Int->Hp->VK->Prop}(h:rW X r)(h':rW X r'):rW X (fun x lo hi H Q=>r x lo hi H Q∨r' x lo hi H Q):=by
 intro pz s σ H x v vl vu lo hi sl Q I rx hs pl pu q
 rcases q with q|q
 ·exact h pz s σ H x v vl vu lo hi sl Q I rx hs pl pu q
 ·exact h' pz s σ H x v vl vu lo hi sl Q I rx hs pl pu q
noncomputable def Nf (r:V->Option Int->Option Int->Hp->VK->Prop)(te:TE)(tl th:TO):TE:=fun σ H Q=>te σ H fun x H1=>tl σ H1 fun l H2=>th σ H2 fun u H3=>r x l u H3 Q
theorem SF {r:V->Option Int->Option Int->Hp->VK->Prop}(hr:rW X r)(he:PE X e te)(hl:PO X lo tl)(hu:PO X hi th):PE X (.Subscript e (.Slice lo hi none p2) pos) (Nf r te tl th):=by
 intro pz s σ H Q I h
 refine Subscript_ (bA (he pz s σ H _ I h) fun v s1 ⟨x,H1,I1,r1,q1⟩=>?_)
 refine wpAny_Slice (bA (hl pz s1 σ H1 _ I1 q1) fun vl s2 ⟨l,H2,I2,pl,q2⟩=>bA (hu pz s2 σ H2 _ I2 q2) fun vu s3 ⟨u,H3,I3,pu,q3⟩=>?_)
 rw[Ol]
 refine aw ?_
 have I4:Inv X pz σ H3 { s3 with heap:=s3.heap.push { cls:=.type "slice", data:=.fields #[vl,vu,.none] } }:=I3.kept (t':=s3.toks) fun b ob q=>au _ q
 obtain⟨T,id,hT,ht,hg⟩:=hr pz { s3 with heap:=s3.heap.push { cls:=.type "slice", data:=.fields #[vl,vu,.none] } } σ H3 x v vl vu l u s3.heap.objs.size Q I4 r1 (Heap.IsSliceOf.new ..) pl pu q3
 show wpAny (model X.prog X.w) X.A (Om e (.Slice lo hi none p2) v (.ref s3.heap.objs.size)) (EP X pz σ Q) X.xe { s3 with heap:=s3.heap.push { cls:=.type "slice", data:=.fields #[vl,vu,.none] } }
 exact tail_any (ops:=[.ref s3.heap.objs.size,v]) ht hT hg (by with_unfolding_all rfl)
noncomputable def B4 (xs:List V)(lo hi:Option Int):List V:=(xs.drop (HT.bM xs.length 0 lo)).take (HT.bM xs.length xs.length hi-HT.bM xs.length 0 lo)
theorem yP (xs:List V)(lo hi:Option Int):(B4 xs lo hi).length<=xs.length:=by
 unfold B4
 rw[jo,fk]
 omega
def ZX (K:ae):V->Option Int->Option Int->Hp->VK->Prop:=fun x lo hi H Q=>∃ a xs,x=.ref a/\eG K H a xs /\
 ¬(HT.bM xs.length 0 lo=0/\HT.bM xs.length xs.length hi=xs.length)/\∀ p,H p=none->Q (.ref p) (upd H p (.tup (B4 xs lo hi)))
theorem IJ:rW X (ZX X.K):=by
 intro pz s σ H x v vl vu lo hi sl Q I rx hs pl pu h
 obtain⟨a,xs,rfl,hx,hw,q⟩:=h
 cases rx
 obtain⟨aD,r,ht,hz⟩:=I.tuple hx
 have hlen:aD.toArray.size=xs.length:=by rw[av];exact r.length.symm
 refine⟨"tuple", _,PyProof.Rows.slot_tuple_getitem.lookup,ht.typeIs,?_⟩
 refine HT.xR ht hs pl pu (by rw[hlen];exact hw) ?_ (by rw[hlen];exact hz)
 rw[hlen]
 refine⟨.ref s.heap.objs.size,_,I.laid (t':=s.toks) (o:=.tup (B4 xs lo hi)) (fun b ob q=>au _ q) (bb _) ?_,rfl,q _ (I.bJ.fresh (bb _))⟩
 exact⟨Nat.le_trans (yP xs lo hi) hz,_,(r.drop (HT.bM xs.length 0 lo)).take (HT.bM xs.length xs.length hi-HT.bM xs.length 0 lo),mK.new _ _⟩
noncomputable def UE (K:ae):R2:=fun x y H Q=>∃ a b xs ys,x=.ref a/\y=.ref b/\eG K H a xs/\eG K H b ys/\xs≠[]/\xs.length+ys.length<=sizeLine /\
 (ys=[]->Q (.ref a) H)/\(ys≠[]->∀ p,H p=none->Q (.ref p) (upd H p (.tup (xs++ys))))
theorem aR.xI {xs:List V}{us:List Value}(r:aR xs us):us=[]↔xs=[]:=by
 cases r with
 |nil=>simp
 |cons _ _=>simp
theorem XM:gT X (h9 .Add) (UE X.K):=by
 intro pz s σ H x y v u Q I rx ry h
 obtain⟨a,b,xs,ys,rfl,rfl,ha,hb,hx,hz,q1,q2⟩:=h
 cases rx
 cases ry
 obtain⟨aD,r1,p1,_⟩:=I.tuple ha
 obtain⟨lX,r2,p2,_⟩:=I.tuple hb
 refine HT.YI p1 p2 (fun z=>hx (r1.xI.mp z)) (fun z=>⟨.ref a,H,I,rfl,q1 (r2.xI.mp z)⟩) (fun z=>?_) (by rw[<-r1.length,<-r2.length];exact hz)
 refine⟨.ref s.heap.objs.size,_,I.laid (t':=s.toks) (o:=.tup (xs++ys)) (fun b ob q=>au _ q) (bb _) ?_,rfl,q2 (fun w=>z (r2.xI.mpr w)) _ (I.bJ.fresh (bb _))⟩
 exact⟨by rw[aq];exact hz,_,r1.append r2,mK.new _ _⟩
end
end L2
namespace L2
open PySem PySem.Spec PyProof.Rows
noncomputable def mB (n:Nat)(i:Int):Option Nat:=if 0<=i then(if i<n then some i.toNat else none)else if -(n:Int)<=i then some (i+n).toNat else none
noncomputable def eJ {α:Type}(xs:List α)(i:Int):Option α:=(mB xs.length i).bind fun j=>xs[j]?
theorem J1 {n:Nat}{i:Int}{j:Nat}(h:mB n i=some j):seqIndex? i n=some j/\j<n/\-(n:Int)<=i/\i<n:=by
 unfold mB at h
 by_cases h0:0<=i
 ·rw[if_pos h0]at h
  by_cases h1:i<n
  ·rw[if_pos h1]at h
   have e:i.toNat=j:=fh h
   exact⟨by rw[vo h0 h1,e],by omega,by omega,h1⟩
  ·rw[if_neg h1]at h;cases h
 ·rw[if_neg h0]at h
  by_cases h1 : -(n:Int)<=i
  ·rw[if_pos h1]at h
   have e:(i+n).toNat=j:=fh h
   exact⟨by rw[xy (by omega) h1,e],by omega,h1,by omega⟩
  ·rw[if_neg h1]at h;cases h
theorem CC {α:Type}{xs:List α}{i:Int}{v:α}(h:eJ xs i=some v):∃ j,seqIndex? i xs.length=some j/\xs[j]? = some v/\j<xs.length/\-(xs.length:Int)<=i/\i<xs.length:=by
 unfold eJ at h
 cases e:mB xs.length i with
 |none=>rw[e]at h;cases h
 |some j =>
 rw[e]at h
 obtain⟨h1,h2,h3,h4⟩:=J1 e
 exact⟨j,h1,h,h2,h3,h4⟩
theorem iV {α:Type}{xs:List α}{j:Nat}{v:α}(h:xs[j]? = some v):eJ xs (j:Int)=some v:=by
 have hj:j<xs.length:=(List.getElem?_eq_some_iff.mp h).1
 have e:mB xs.length (j:Int)=some j:=by
  unfold mB
  rw[if_pos (by omega),if_pos (by omega)];simp
 unfold eJ;rw[e];exact h
def BS (b:b7):Prop:=∀ o i,subscripted b false o i=operate [o,i] (ui o i)
def uR (X:Cx)(r:R2):Prop :=
 ∀(value slice:b7)(pz:List (Addr×Obj))(s:ah)(σ:St)(H:Hp)(x y:V)(v u:Value)(Q:VK),Inv X pz σ H s->RelV x v->RelV y u->r x y H Q ->
 subscripted slice false v u=operate [v,u] (ui v u)->wpAny (model X.prog X.w) X.A (Om value slice v u) (EP X pz σ Q) X.xe s
def TM (X:Cx)(id:String)(r:V->List V->Hp->VK->Prop):Prop :=
 ∀(pz:List (Addr×Obj))(s:ah)(σ:St)(H:Hp)(x:V)(xs:List V)(v:Value)(us:List Value)(Q:VK),Inv X pz σ H s->RelV x v->aR xs us->r x xs H Q ->
 wpAny (model X.prog X.w) X.A (call (.builtin id) (v::us)) (EP X pz σ Q) X.xe s
section
variable {X:Cx}{a b:b7}{ta tb:TE}{pos:Pos}
theorem uR.or {r r':R2}(h:uR X r)(h':uR X r'):uR X (fun x y H Q=>r x y H Q∨r' x y H Q):=by
 intro value slice pz s σ H x y v u Q I rx ry q hs
 rcases q with q|q
 ·exact h value slice pz s σ H x y v u Q I rx ry q hs
 ·exact h' value slice pz s σ H x y v u Q I rx ry q hs
theorem Hz {r:R2}(hr:uR X r)(ha:PE X a ta)(hb:PE X b tb)(hs:BS b):PE X (.Subscript a b pos) (Cs r ta tb):=by
 intro pz s σ H Q I h
 exact Subscript_ (Ba ha hb I h fun v u s2 x y H2 I2 rx ry q=>hr a b pz s2 σ H2 x y v u Q I2 rx ry q (hs _ _))
noncomputable def Cr (K:ae):R2:=fun x y H Q=>∃ p xs i v,x=.ref p/\y=.int i/\dS K H p xs/\eJ xs i=some v/\Q v H
noncomputable def Dz (K:ae):R2:=fun x y H Q=>∃ p xs i v,x=.ref p/\y=.int i/\eG K H p xs/\eJ xs i=some v/\Q v H
noncomputable def Cg:R2:=fun x y H Q=>∃ z i c,x=.str z/\y=.int i/\z.length<=sizeLine/\eJ z.cps.toList i=some c/\Q (.str ⟨#[c]⟩) H
theorem VU:uR X (Cr X.K):=by
 intro value slice pz s σ H x y v u Q I rx ry h hs
 obtain⟨p,xs,i,z,rfl,rfl,hq,he,q⟩:=h
 cases rx
 obtain⟨t,rfl⟩:=ry
 obtain⟨aD,r,pl,hz⟩:=I.list hq
 obtain⟨j,h1,h2,h3,h4,h5⟩:=CC he
 obtain⟨w,ew,rw'⟩:=r.get h2
 have hl:=r.length
 have hn:=rK
 have fin:EP X pz σ Q w s:=⟨z,H,I,rw',q⟩
 by_cases h0:0<=i
 ·have hj:i.toNat=j:=by
   rw[vo h0 h5]at h1
   exact fh h1
  exact item_listR pl.isList h0 (by omega) (by rw[hj];simpa using ew) fin hs
 ·have hj:(i+(aD.toArray.size:Int)).toNat=j:=by
   rw[xy (by omega) h4]at h1
   rw[av,<-hl]
   exact fh h1
  exact uk (x:=w) pl.isList.typeIs slot_list_getitem.lookup
   (wpAny_getItem_list_neg (Q:=fun r s'=>r=w/\EP X pz σ Q r s') pl.isList (by omega) (by rw[av]<;>omega) (by omega) (by rw[hj];simpa using ew) ⟨rfl,fin⟩) hs
theorem nK:uR X (Dz X.K):=by
 intro value slice pz s σ H x y v u Q I rx ry h hs
 obtain⟨p,xs,i,z,rfl,rfl,hq,he,q⟩:=h
 cases rx
 obtain⟨t,rfl⟩:=ry
 obtain⟨aD,r,pl,hz⟩:=I.tuple hq
 obtain⟨j,h1,h2,h3,h4,h5⟩:=CC he
 obtain⟨w,ew,rw'⟩:=r.get h2
 have hl:=r.length
 have hn:=rK
 have fin:EP X pz σ Q w s:=⟨z,H,I,rw',q⟩
 exact uk (x:=w) pl.typeIs slot_tuple_getitem.lookup
  (getItem_tuple (j:=j) (Q:=fun r s'=>r=w/\EP X pz σ Q r s') pl (by omega) (by omega) (by rw[av,<-hl];exact h1) (by simpa using ew) ⟨rfl,fin⟩) hs
theorem IB:uR X Cg:=by
 intro value slice pz s σ H x y v u Q I rx ry h hs
 obtain⟨z,i,c,rfl,rfl,hz,he,q⟩:=h
 obtain⟨t,rfl⟩:=rx
 obtain⟨t',rfl⟩:=ry
 obtain⟨j,h1,h2,h3,h4,h5⟩:=CC he
 have hl:z.cps.toList.length=z.length:=by simp [c7]
 rw[hl]at h1 h4 h5
 have hn:=rK
 exact tail_any (qj s z t) slot_str_getitem.lookup (getItem_str (c:=c) (by
 have e1:decide (i < -(2 ^ 63:Int))=false:=decide_eq_false (by omega)
 have e2:decide (i ≥ 2 ^ 63)=false:=decide_eq_false (by omega)
 rw[e1,e2,oj]) (by rw[h1];simpa using h2) ⟨.str ⟨#[c]⟩,H,I.tok _,⟨_,rfl⟩,q⟩) hs
noncomputable def Jj (K:ae):R2:=fun x y H Q=>Cr K x y H Q∨Dz K x y H Q∨Cg x y H Q
theorem Dt:uR X (Jj X.K):=VU.or (nK.or IB)
theorem LZ (aD:List Value)(n j:Nat)(u:Value):jr (·.setIfInBounds j u) { cls:=.type "list", data:=.seq aD.toArray n } = { cls:=.type "list", data:=.seq (aD.set j u).toArray n }:=by
 simp [jr]
theorem Inv.lst {pz:List (Addr×Obj)}{σ:St}{H:Hp}{s:ah}{p:Addr}{xs:List V}(I:Inv X pz σ H s)(h:H p=some (.lst xs)):
 ∃(aD:List Value)(n:Nat),aR xs aD/\s.heap.get? p=some { cls:=.type "list", data:=.seq aD.toArray n }/\xs.length<=sizeLine:=by
 obtain⟨z,aD,n,r,e⟩:=I.bJ p _ h
 exact⟨aD,n,r,e,z⟩
theorem Inv.Dp {pz:List (Addr×Obj)}{σ:St}{H:Hp}{s:ah}{p:Addr}{xs ys:List V}{aD kI:List Value}{n n':Nat}{f:Obj->Obj}(I:Inv X pz σ H s)(h:H p=some (.lst xs))
  (ho:s.heap.get? p=some { cls:=.type "list", data:=.seq aD.toArray n })(hf:f { cls:=.type "list", data:=.seq aD.toArray n } = { cls:=.type "list", data:=.seq kI.toArray n' })(r:aR ys kI)(hz:ys.length<=sizeLine)(t:Nat):
  Inv X pz σ (upd H p (.lst ys)) { s with heap:=s.heap.update p f,toks:=t }:=by
 have e:(s.heap.update p f).get? p=some { cls:=.type "list", data:=.seq kI.toArray n' }:=by
  rw[cj f ho (by rw[hf]<;>rfl),hf]
 refine I.write (x:=p) (e:=p) (by rw[h];trivial) (.inl rfl) (fun b u hb q=>(bg _ _ (gp hb)).trans q) ⟨_,e⟩ ?_
 exact⟨hz,kI,n',r,e⟩
def Fy:V->V->V->Hp->(Hp->Prop)->Prop:=fun o i v H Q=>∃ p xs k j,o=.ref p/\i=.int k/\H p=some (.lst xs)/\mB xs.length k=some j/\Q (upd H p (.lst (xs.set j v)))
theorem set_list:El X Fy:=by
 intro pz s σ H o i v ov iv u Q I ro ri rv h
 obtain⟨p,xs,k,j,rfl,rfl,hp,hj,q⟩:=h
 cases ro
 obtain⟨t,rfl⟩:=ri
 obtain⟨aD,n,r,ho,hz⟩:=I.lst hp
 obtain⟨h1,h2,h3,h4⟩:=J1 hj
 have hl:=r.length
 have hn:=rK
 have I':Inv X pz σ (upd H p (.lst (xs.set j v))) { s with heap:=s.heap.update p (jr (·.setIfInBounds j u)) } :=
  I.Dp hp ho (LZ aD n j u) (r.set rv j) (by rw[u6];exact hz) s.toks
 by_cases h0:0<=k
 ·have hk:k.toNat=j:=by
   rw[vo h0 h4]at h1
   exact fh h1
  exact PySem.W.ki_setAt ho h0 (by omega) (by rw[av,<-hl];exact h4) (by rw[hk];exact⟨_,I',q⟩)
 ·have hk:(k+(aD.toArray.size:Int)).toNat=j:=by
   rw[xy (by omega) h3]at h1
   rw[av,<-hl]
   exact fh h1
  exact PySem.W.ki_setBack ho (by omega) (by rw[av,<-hl];exact h3) (by omega) (by rw[hk];exact⟨_,I',q⟩)
theorem HX (lo hi:Option Int)(n:Nat):(mz lo hi none n).1=((HT.bM n 0 lo:Nat):Int)/\(mz lo hi none n).2.1=((HT.bM n n hi:Nat):Int)/\(mz lo hi none n).2.2=1:=by
 refine⟨?_,?_,rfl⟩
 ·cases lo with
 |none=>simp [mz,HT.bM]
 |some i =>
  simp only[mz,HT.bM,yn,show(1:Int)>0 by decide,if_true]
  by_cases h:i<0
  ·simp only[h,if_true]<;>omega
  ·simp only[h,if_false]<;>omega
 ·cases hi with
 |none=>simp [mz,HT.bM]
 |some i =>
  simp only[mz,HT.bM,yn,show(1:Int)>0 by decide,if_true]
  by_cases h:i<0
  ·simp only[h,if_true]<;>omega
  ·simp only[h,if_false]<;>omega
theorem EK (aD:List Value)(lo hi:Option Int):slicePick aD.toArray lo hi none=((aD.drop (HT.bM aD.length 0 lo)).take (HT.bM aD.length aD.length hi-HT.bM aD.length 0 lo)).toArray:=by
 obtain⟨h1,h2,h3⟩:=HX lo hi aD.toArray.size
 unfold slicePick
 rw[h1,h2,h3]
 simp only[sliceRange_one,pick_run,av]<;>rfl
def Bt (K:ae):V->Option Int->Option Int->Hp->VK->Prop:=fun x lo hi H Q=>∃ a xs,x=.ref a/\dS K H a xs/\∀ p,H p=none->Q (.ref p) (upd H p (.lst (B4 xs lo hi)))
theorem X7:rW X (Bt X.K):=by
 intro pz s σ H x v vl vu lo hi sl Q I rx hs pl pu h
 obtain⟨a,xs,rfl,hx,q⟩:=h
 cases rx
 obtain⟨aD,r,ht,hz⟩:=I.list hx
 have hlen:=r.length
 refine⟨"list", _,slot_list_getitem.lookup,ht.isList.typeIs,?_⟩
 refine wpAny_getItem_list_slice ht.isList hs pl pu .none (by simp) ?_ (by rw[av]<;>omega)
 rw[EK,<-hlen]
 refine⟨.ref s.heap.objs.size,_,I.laid (t':=s.toks) (o:=.lst (B4 xs lo hi)) (fun b ob q=>au _ q) (bb _) ?_,rfl,q _ (I.bJ.fresh (bb _))⟩
 exact⟨Nat.le_trans (yP xs lo hi) hz,_,0,(r.drop (HT.bM xs.length 0 lo)).take (HT.bM xs.length xs.length hi-HT.bM xs.length 0 lo),bp _ rfl⟩
theorem FL:gT X (qa .NotIn) (fun x y H Q=>∃ i j,x=.str i/\y=.str j/\Q (.bl (!(!(ef j i 0 j.length 1).isEmpty))) H):=by
 intro pz s σ H x y v u Q I rx ry h
 obtain⟨i,j,rfl,rfl,q⟩:=h
 obtain⟨t,rfl⟩:=rx
 obtain⟨t',rfl⟩:=ry
 exact notIn_str ⟨.bl _,H,I,rfl,q⟩
theorem GY:oI X (.type "list") (fun xs H Q=>∃ p ys,xs=[.ref p]/\(dS X.K H p ys∨eG X.K H p ys)/\∀ l,H l=none->Q (.ref l) (upd H l (.lst ys))):=by
 intro pz s σ H xs us Q I r h
 obtain⟨p,ys,rfl,hq,q⟩:=h
 obtain⟨u,rfl,rx⟩:=vals1 r
 cases rx
 have fin:∀(aD:List Value),aR ys aD->ys.length<=sizeLine->∀(h':Heap)(c':Nat),(∀ b o',s.heap.get? b=some o'->h'.get? b=some o') ->
   h'.get? s.heap.objs.size=some { cls:=.type "list", dict:=none,data:=.seq aD.toArray c',slots:=#[] }->EP X pz σ Q (.ref s.heap.objs.size) { s with heap:=h' }:=fun aD r' hz h' c' kp e =>
  ⟨.ref s.heap.objs.size,_,I.laid (t':=s.toks) kp (bb _) (show fV X.prog X.w _ h' _ (.lst ys)from⟨hz,aD,c',r',e⟩),rfl,q _ (I.bJ.fresh (bb _))⟩
 rcases hq with hq|hq
 ·obtain⟨aD,r',pl,hz⟩:=I.list hq
  have hlen:=r'.length
  obtain⟨o,ho,hc,n,hd⟩:=pl.isList
  exact Oo p (.inl rfl) ho hc hd (fun h' c' kp e=>fin aD r' hz h' c' kp e) (by simp only[av]<;>omega)
 ·obtain⟨aD,r',pl,hz⟩:=I.tuple hq
  have hlen:=r'.length
  obtain⟨o,ho,hc,n,hd⟩:=pl
  exact Oo p (.inr rfl) ho hc hd (fun h' c' kp e=>fin aD r' hz h' c' kp e) (by simp only[av]<;>omega)
theorem tX:oI X (.type "tuple") (fun xs H Q=>∃ p ys,xs=[.ref p]/\((dS X.K H p ys/\∀ l,H l=none->Q (.ref l) (upd H l (.tup ys)))∨(eG X.K H p ys/\Q (.ref p) H))):=by
 intro pz s σ H xs us Q I r h
 obtain⟨p,ys,rfl,h⟩:=h
 obtain⟨u,rfl,rx⟩:=vals1 r
 cases rx
 rcases h with⟨hq,q⟩|⟨hq,q⟩
 ·obtain⟨aD,r',pl,hz⟩:=I.list hq
  have hlen:=r'.length
  refine call_tuple_list pl.isList (fun h' kp=>?_) (by simp only[av]<;>omega)
  have I1:Inv X pz σ H { s with heap:=h' }:=I.kept (t':=s.toks) kp
  have I2:Inv X pz σ (upd H h'.objs.size (.tup ys)) { s with heap:=h'.push { cls:=.type "tuple", data:=.seq aD.toArray } } :=
   I1.laid (t':=s.toks) (fun b o e=>au _ e) (bb _) (show fV X.prog X.w _ _ _ (.tup ys)from⟨hz,aD,r',mK.new _ _⟩)
  exact⟨.ref h'.objs.size,_,I2,rfl,q _ (I1.bJ.fresh (bb _))⟩
 ·obtain⟨aD,r',pl,hz⟩:=I.tuple hq
  exact call_tuple_same pl ⟨.ref p,H,I,rfl,q⟩
def PF (K:ae)(T:String)(x:V)(H:Hp):Prop:=match x with
 |.str _=>T ="str"
 |.int _=>T ="int"
 |.ref p=>(T ="list" /\ ∃ xs,dS K H p xs)∨(T ="tuple" /\ ∃ o,K.lookup p=some o/\o.cls=.type "tuple" /\ o.dict=none) ∨
  (T ="dict" /\ ((∃ gU,H p=some (.dK gU))∨∃ gU,H p=some (.dT gU)))∨(T ="set" /\ ∃ S n,H p=some (.set S n))
 |_=>False
theorem QG {pz:List (Addr×Obj)}{σ:St}{H:Hp}{s:ah}{T:String}{x:V}{v:Value}(I:Inv X pz σ H s)(r:RelV x v)(ty:PF X.K T x H):
  s.TypeIs v T/\∀ a,v=.ref a->∃ ob,s.heap.get? a=some ob/\ob.dict=none:=by
 cases x with
 |str z =>
  obtain⟨t,rfl⟩:=r
  cases (show T ="str" from ty)
  exact⟨typeIs_str s z t,fun _ e=>nomatch e⟩
 |int i =>
  obtain⟨t,rfl⟩:=r
  cases (show T ="int" from ty)
  exact⟨typeIs_int s i t,fun _ e=>nomatch e⟩
 |ref p =>
  cases r
  rcases ty with⟨rfl,xs,hq⟩|⟨rfl,o,hk,hc,hd⟩|⟨rfl,hk⟩|⟨rfl,S,n,hk⟩
  ·obtain⟨aD,_,pl,_⟩:=I.list hq
   refine⟨pl.isList.typeIs,fun a e=>?_⟩
   cases e
   obtain⟨o,n,e,c,hd,_⟩:=pl
   exact⟨o,e,hd⟩
  ·refine⟨⟨o,I.jQ p o hk,hc⟩,fun a e=>?_⟩
   cases e
   exact⟨o,I.jQ _ o hk,hd⟩
  ·have z:∃ o,s.heap.get? p=some o/\o.ExactDict:=by
    rcases hk with⟨gU,hk⟩|⟨gU,hk⟩
    ·obtain⟨_,_,_,_,o,_,_,e,ex,_⟩:=I.bJ p _ hk
     exact⟨o,e,ex⟩
    ·obtain⟨_,_,_,_,o,_,_,e,ex,_⟩:=I.bJ p _ hk
     exact⟨o,e,ex⟩
   obtain⟨o,e,ex⟩:=z
   refine⟨⟨o,e,ex.1⟩,fun a e2=>?_⟩
   cases e2
   exact⟨o,e,ex.2.1⟩
  ·obtain⟨o,_,_,_,e,ex,_⟩:=I.bJ p _ hk
   refine⟨⟨o,e,ex.1⟩,fun a e2=>?_⟩
   cases e2
   exact⟨o,e,ex.2.1⟩
 |_=>exact i7 ty
noncomputable def Lb (K:ae)(T:String)(r:V->List V->Hp->VK->Prop)(to:TE):TE:=fun σ H Q=>to σ H fun x H1=>PF K T x H1/\r x [] H1 Q
noncomputable def Ms (K:ae)(T:String)(r:V->List V->Hp->VK->Prop)(to:TE)(t:TA):TE:=fun σ H Q=>to σ H fun x H1=>PF K T x H1/\t σ H1 fun xs H2=>r x xs H2 Q
variable {o e:b7}{es:List b7}{to:TE}{t:TA}{name:Str}{apos gD:Pos}{T id:String}{r:V->List V->Hp->VK->Prop}
theorem ZC (pa:PlainAttrs T)(slot:Slot T name id)(hty:xk (.builtin id)=pure (.type "method_descriptor"))(hm:TM X id r)(ho:PE X o to)
 (eQ:gk o name X.env (eval o X.env)=eval o X.env:=by rfl)(eT:(apos.endLine==gD.line)=true:=by rfl):PE X (.Call (.Attribute o name apos) [] [] gD) (Lb X.K T r to):=by
 intro pz s σ H Q I h
 refine wpAny_Call_method0_late eQ eT (bA (ho pz s σ H _ I h) fun v s1 ⟨x,H1,I1,r1,ty,q1⟩=>?_)
 obtain⟨h1,h2⟩:=QG I1 r1 ty
 exact⟨T,id,pa,slot,hty,h1,h2,nq rfl (PySem.evalArgs_none (hm pz s1 σ H1 x [] v [] Q I1 r1 .nil q1))⟩
theorem T6 (pa:PlainAttrs T)(slot:Slot T name id)(hty:xk (.builtin id)=pure (.type "method_descriptor"))(hm:TM X id r)(ho:PE X o to)(ha:PA X (e::es) t)
 (eQ:gk o name X.env (eval o X.env)=eval o X.env:=by rfl)
 (jZ:((dq gD (ar (e::es) X.env)).all (fun x=>!x.1)&&(om gD (kg [] X.env)).all (fun x=>x.1.isSome)
  && decide ((e::es).length+([]:List j4).length+(if([]:List j4).isEmpty then 0 else 1)<30))=true:=by rfl)
 (eT:(apos.endLine==gD.line)=true:=by rfl)(hs:ar (e::es) X.env=(false,eval e X.env)::ar es X.env:=by rfl)(gE:(dq gD (ar es X.env)).any (·.1)=false:=by rfl):
 PE X (.Call (.Attribute o name apos) (e::es) [] gD) (Ms X.K T r to t):=by
 intro pz s σ H Q I h
 refine wpAny_Call_method_late eQ jZ eT rfl (bA (ho pz s σ H _ I h) fun v s1 ⟨x,H1,I1,r1,ty,q1⟩=>?_)
 obtain⟨h1,h2⟩:=QG I1 r1 ty
 refine⟨T,id,pa,slot,hty,h1,h2,?_⟩
 have hA:=ha gD pz s1 σ H1 _ I1 q1
 rw[hs]at hA ⊢
 refine nq (by show(false||(dq gD (ar es X.env)).any (·.1))=false;rw[gE]<;>rfl) (oo ?_)
 exact bA hA fun us s2 ⟨vs,H2,I2,r2,q2⟩=>hm pz s2 σ H2 x vs v us Q I2 r1 r2 q2
end
end L2
namespace L2
open PySem PySem.Spec PyProof.Rows
def Ae (X:Cx)(id:String)(r:V->List V->Hp->VK->Prop):Prop :=
 ∀(pz:List (Addr×Obj))(s:ah)(σ:St)(H:Hp)(x:V)(xs:List V)(v:Value)(us:List Value)(Q:VK),Inv X pz σ H s->RelV x v->aR xs us->r x xs H Q ->
 wpAny (model X.prog X.w) X.A (call (.builtin id) (v::us)) (EP X pz σ Q) X.xe s
theorem aR.one:∀{x:V}{us:List Value},aR [x] us->∃ u,us=[u]/\RelV x u
 |_,_,.cons r .nil=>⟨_,rfl,r⟩
theorem aR.zero:∀{us:List Value},aR [] us->us=[]
 |_,.nil=>rfl
theorem aR.dropLast {xs:List V}{us:List Value}(h:aR xs us):aR xs.dropLast us.dropLast:=by
 induction h with
 |nil=>exact .nil
 |cons r t ih =>
 cases t with
 |nil=>exact .nil
 |cons q t'=>exact .cons r ih
theorem aR.reverse {xs:List V}{us:List Value}(h:aR xs us):aR xs.reverse us.reverse:=by
 induction h with
 |nil=>exact .nil
 |cons r t ih=>rw[kz,kz];exact aR.append ih (.cons r .nil)
theorem aR.rep {xs:List V}{us:List Value}(h:aR xs us):∀ k:Nat,aR (ao k xs).flatten (ao k us).flatten
 |0=>.nil
 |k+1=>by
  rw[gf,gf,gg,gg]
  exact aR.append h (aR.rep h k)
theorem LB {α:Type}(l:List α):l.eraseIdx (l.length-1)=l.dropLast:=by
 induction l with
 |nil=>rfl
 |cons a r ih =>
  cases r with
  |nil=>rfl
  |cons b r =>
   have e:(a::b::r).length-1=((b::r).length-1)+1:=by
    have h1:(a::b::r).length=r.length+2:=rfl
    have h2:(b::r).length=r.length+1:=rfl
    omega
   rw[e,List.eraseIdx_cons_succ,ih]
   all_goals rfl
theorem wj (aD:List Value):∀(k:Nat)(acc:List Value),
  n4 (fun x1 x2=>x1++x2) acc.toArray (ao k aD.toArray)=(acc++(ao k aD).flatten).toArray
 |0,acc=>by simp
 |k+1,acc=>by
  have e:acc.toArray++aD.toArray=(acc++aD).toArray:=by simp
  have e2:(acc++aD)++(ao k aD).flatten=acc++(ao (k+1) aD).flatten:=by
   rw[gf,gg,rk]
  rw[<-e2,<-wj aD k (acc++aD),<-e,gf,mv]
section
variable {X:Cx}{pz:List (Addr×Obj)}{σ:St}{H:Hp}{s:ah}{l b:Addr}{xs ys zs:List V}
theorem Inv.L5 {aD kI:List Value}{n:Nat}{f:Array Value->Array Value}{t':Nat}(I:Inv X pz σ H s)(hH:H l=some (.lst xs))
 (e:s.heap.get? l=some { cls:=.type "list", data:=.seq aD.toArray n })(hf:f aD.toArray=kI.toArray)(hv:aR ys kI)(hz:ys.length<=sizeLine):
 Inv X pz σ (upd H l (.lst ys)) { s with heap:=s.heap.update l (jr f),toks:=t' }:=by
 have q:=PySem.IsL.update e f
 rw[hf]at q
 refine I.write (x:=l) (e:=l) (by rw[hH];exact trivial) (.inl rfl) (fun b' u hb hu=>(bg s.heap (jr f) (gp hb)).trans hu) ⟨_,q⟩ ?_
 exact⟨hz,kI,_,hv,q⟩
theorem Inv.E4 {aD:List Value}{t':Nat}(I:Inv X pz σ H s)(hv:aR ys aD)(hz:ys.length<=sizeLine):
 Inv X pz σ (upd H s.heap.objs.size (.lst ys)) { s with heap:=s.heap.push { cls:=.type "list", data:=.seq aD.toArray },toks:=t' } :=
 I.laid (fun _ _ q=>au _ q) (bb _) ⟨hz,aD,0,hv,bp _ rfl⟩
theorem Inv.fresh (I:Inv X pz σ H s):H s.heap.objs.size=none:=I.bJ.fresh (bb _)
theorem Inv.qE (I:Inv X pz σ H s)(hH:H l=some (.lst xs)):xs.length<=sizeLine/\∃(aD:List Value)(n:Nat),aR xs aD/\xs.length=aD.length/\s.heap.get? l=some { cls:=.type "list", data:=.seq aD.toArray n }:=by
 obtain⟨z,aD,n,r,e⟩:=I.bJ l _ hH
 exact⟨z,aD,n,r,r.length,e⟩
theorem yV {n:Nat}(h:n<=sizeLine):dy n=false:=by
 unfold dy
 exact decide_eq_false (by omega)
end
section
variable {X:Cx}
def WQ:V->List V->Hp->VK->Prop:=fun x vs H Q=>∃ l xs y,x=.ref l/\vs=[y]/\H l=some (.lst xs)/\xs.length<sizeLine/\Q .non (upd H l (.lst (xs++[y])))
theorem nH:Ae X "list.append" WQ:=by
 intro pz s σ H x vs v us Q I rx rv h
 obtain⟨l,xs,y,rfl,rfl,hH,hz,q⟩:=h
 cases rx
 obtain⟨u,rfl,ru⟩:=rv.one
 obtain⟨z,aD,n,r,hl,e⟩:=I.qE hH
 refine j6 F.slot_list_append ⟨_,e,rfl⟩ F.entry_list_append (F.args_list_append_2 _ _) (PySem.list_append l aD.toArray n u (by rw[av];omega)) ⟨e,?_⟩
 refine⟨.non,_,I.L5 (kI:=aD++[u]) hH e (by simp) (r.append (.cons ru .nil)) ?_,rfl,q⟩
 rw[aq,List.length_singleton]
 omega
def VB:V->List V->Hp->VK->Prop:=fun x vs H Q=>∃ l b xs zs,x=.ref l/\vs=[.ref b]/\H l=some (.lst xs)/\H b=some (.lst zs)/\xs.length+zs.length<=sizeLine/\Q .non (upd H l (.lst (xs++zs)))
theorem uY:Ae X "list.extend" VB:=by
 intro pz s σ H x vs v us Q I rx rv h
 obtain⟨l,b,xs,zs,rfl,rfl,hH,hB,hz,q⟩:=h
 cases rx
 obtain⟨u,rfl,ru⟩:=rv.one
 cases ru
 obtain⟨z,aD,n,r,hl,e⟩:=I.qE hH
 obtain⟨z2,lX,n2,r2,hl2,e2⟩:=I.qE hB
 have kE:aD.toArray.size+lX.toArray.size<=sizeLine:=by rw[av,av];omega
 have hlong:¬(!aD.toArray.isEmpty&&dy (aD.toArray.size+lX.toArray.size))=true:=by
  rw[yV kE,b9]
  exact ki
 refine j6 xm ⟨_,e,rfl⟩ wq (vp _ _)
  (AutoSeq1.list_extend_list_list_0 l aD.toArray n b lX.toArray n2 hlong (by rw[av];omega) (by omega)) ⟨e,e2,?_⟩
 refine⟨.non,_,I.L5 (kI:=aD++lX) hH e (by simp) (r.append r2) ?_,rfl,q⟩
 rw[aq]
 omega
def Kh:V->List V->Hp->VK->Prop:=fun x vs H Q=>∃ l xs y,x=.ref l/\vs=[]/\H l=some (.lst xs)/\xs[xs.length-1]? = some y/\Q y (upd H l (.lst xs.dropLast))
theorem G7:Ae X "list.pop" Kh:=by
 intro pz s σ H x vs v us Q I rx rv h
 obtain⟨l,xs,y,rfl,rfl,hH,hy,q⟩:=h
 cases rx
 have hus:=rv.zero
 subst hus
 obtain⟨z,aD,n,r,hl,e⟩:=I.qE hH
 obtain⟨u,hu,ru⟩:=r.get hy
 have hy':aD.toArray[aD.toArray.size-1]? = some u:=by
  show aD.toArray[aD.length-1]? = some u
  rw[<-Array.getElem?_toList,<-hl]
  exact hu
 refine j6 F.slot_list_pop ⟨_,e,rfl⟩ F.entry_list_pop (F.args_list_pop_1 _) (MeetsSeq.list_pop_last l aD.toArray n u hy' (by rw[av];omega)) ⟨e,?_⟩
 refine⟨y,_,I.L5 (kI:=aD.dropLast) hH e ?_ r.dropLast ?_,ru,q⟩
 ·show aD.toArray.eraseIdxIfInBounds (aD.toArray.size-1)=aD.dropLast.toArray
  rw[av,List.eraseIdxIfInBounds_toArray,LB]
 ·rw[gy]
  omega
noncomputable def Ei:R2:=fun x y H Q=>∃ l b xs zs,x=.ref l/\y=.ref b/\H l=some (.lst xs)/\H b=some (.lst zs)/\xs.length+zs.length<=sizeLine/\∀ p,H p=none->Q (.ref p) (upd H p (.lst (xs++zs)))
theorem Ee:gT X (h9 .Add) Ei:=by
 intro pz s σ H x y v u Q I rx ry h
 obtain⟨l,b,xs,zs,rfl,rfl,hH,hB,hz,q⟩:=h
 cases rx
 cases ry
 obtain⟨z,aD,n,r,hl,e⟩:=I.qE hH
 obtain⟨z2,lX,n2,r2,hl2,e2⟩:=I.qE hB
 refine PySem.P.add_list e e2 ?_ (by rw[av,av];omega)
 have ea:aD.toArray++lX.toArray=(aD++lX).toArray:=by simp
 rw[ea]
 exact⟨.ref _,_,I.E4 (t':=s.toks) (r.append r2) (by rw[aq];omega),rfl,q _ I.fresh⟩
noncomputable def Z9:R2:=fun x y H Q=>∃ l k xs,x=.ref l/\y=.int k/\H l=some (.lst xs)/\-(2 ^ 63)<=k/\k<2 ^ 63/\xs.length*k.toNat<=sizeLine /\
 ∀ p,H p=none->Q (.ref p) (upd H p (.lst (ao k.toNat xs).flatten))
theorem len_rep {α:Type}(xs:List α)(k:Nat):(ao k xs).flatten.length=k*xs.length:=by
 induction k with
 |zero=>simp
 |succ k ih=>rw[gf,gg,aq,ih,yd,Nat.add_comm]
theorem Bn:gT X (h9 .Mult) Z9:=by
 intro pz s σ H x y v u Q I rx ry h
 obtain⟨l,k,xs,rfl,rfl,hH,h1,h2,hz,q⟩:=h
 cases rx
 obtain⟨t,rfl⟩:=ry
 obtain⟨z,aD,n,r,hl,e⟩:=I.qE hH
 have hlen:aD.toArray.size*k.toNat<=sizeLine:=by rw[av,<-hl];exact hz
 have hcap:¬aD.toArray.size*k.toNat>(2 ^ 63-1) / 8:=by
  have:(sizeLine:Nat)<=(2 ^ 63-1) / 8:=by decide
  omega
 have lY:¬(!Builtin.List.listFitsIndex k)=true:=by
  rw[zt h1 h2]
  exact ki
 have hlong:¬dy (aD.toArray.size*k.toNat)=true:=by
  rw[yV hlen]
  exact ki
 have hnew:n4 (fun x1 x2=>x1++x2) #[] (ao (if aD.toArray.isEmpty=true then 0 else k.toNat) aD.toArray)=(ao k.toNat aD).flatten.toArray:=by
  have f0:∀ m:Nat,n4 (fun x1 x2=>x1++x2) #[] (ao m aD.toArray)=(ao m aD).flatten.toArray:=fun m=>by
   have:=wj aD m []
   rw[ba]at this
   exact this
  rw[f0]
  cases aD with
  |nil=>simp
  |cons a r'=>rw[if_neg (by simp)]
 refine qw (T :="list") (U :="int") (by decide) ⟨_,e,rfl⟩ (fun s'=>xo s' k t) noFill_list_mul F.fills_int_mul zf repeat_list F.slot_int_index.lookup
  (j6 zf (xo s k t) F.entry_int_rmul (F.args_int_rmul_2 _ _) (int___rmul___int_list k t l aD.toArray n)
   ⟨e,rfl,⟨_,e,rfl⟩,j6 F.slot_list_mul ⟨_,e,rfl⟩ F.entry_list_mul (F.args_list_mul_2 _ _) (AutoListH.list___mul___list_int_3 l aD.toArray n k t lY hcap hlong) ⟨e,?_⟩⟩)
 rw[hnew]
 exact⟨.ref _,_,I.E4 (t':=s.toks) (r.rep k.toNat) (by rw[len_rep,Nat.mul_comm];exact hz),rfl,q _ I.fresh⟩
end
end L2
namespace Att
open PySem PySem.W PySem.Calls PyProof.Rows
theorem A9 {P:Qm}{h:Heap}:∀(ns:List Int)(vs:List Value),WellAll P h vs (ns.map WData.int)->zl vs ns:=by
 intro ns
 induction ns with
 |nil =>
 intro vs w
 rw[l6]at w
 cases w
 exact .nil
 |cons n ns ih =>
 intro vs w
 rw[az]at w
 cases w with
 |cons a b =>
  cases a
  exact .cons _ _ (ih _ b)
theorem O2 {l:Qq}{n:Nat}(hn:l.most=some n){P:Qm}{h:Heap}{args:List WData}{vals:List Value}
  (hpre:l.row.toRowW.claim.pre args=true)(hwl:WellAll P h vals args):
  ∃ a vs ns,vals=[ku a]/\args=[WData.list (ns.map WData.int)]/\h.get? a=some { cls:=.type "list", data:=.seq vs.toArray }/\zl vs ns/\ns.length<=n:=by
 have hsh:WShape.hasAll [] args [.list .int]=true:=(pre_splitW hpre).1
 have hc:l.pre.holds [] { args:=args }=true:=(pre_splitW hpre).2
 obtain⟨d,r,rfl,h1,h2⟩:=hasAllW_cons hsh
 obtain rfl:=hasAllW_nil h2
 obtain⟨xs,rfl,h3⟩:=hasW_list h1
 obtain⟨ns,rfl⟩:=items_int h3
 have hlen:ns.length<=n:=by
  unfold OpenLaw.pre at hc
  have h4:(WTm.not (.lt (.lit (.int (n:Int))) (.len (.arg 0)))).holds [] { args:=[.list (ns.map .int)] }=true:=by
   have h4:=(holds_andW hc).1
   rw[hn]at h4
   exact h4
  have h5:=condW_of h4 (w_not (w_lt w_lit (w_len_list (w_arg rfl))))
  rw[aa]at h5
  refine yo fun q=>?_
  have q':(n:Int)<((ns.length:Nat):Int):=by omega
  first
   |(rw[decide_eq_true q']at h5;exact absurd h5 (by decide))
   |(simp at h5;omega)
 cases hwl with
 |cons w1 w2 =>
  cases w2
  cases w1 with
  |list ho CO=>exact⟨_,_,ns,rfl,rfl,ho,A9 ns _ CO,hlen⟩
theorem PB (l:Qq)(args:List WData):l.row.toRowW.claim.post args (.bool true) args=true :=
 postW_of (r:=l.row.toRowW) (X:=(true==true))
 (show WShape.has [] (.bool true) .bool=true by first|rfl|decide|simp [WShape.has,WShape.arms,WShape.armsAll])
 (show(WTm.eq .res (.lit (.bool true))).value [] { args:=args,res:=some (.bool true),after:=args }=some (.bool (true==true))from w_eq_bool (w_res rfl) w_lit) rfl
theorem IW {l:Qq}{n:Nat}{q:bq}{loose:List Str}{XP:(Str->Option Value)->Heap->Prop}{YP:cq->Heap->Prop}{d:DefRec}
 (hn:l.most=some n)(hdf:d.params.defaults=[])
 (call:∀(w:cq)(s₀ s₁:ah)(mg mb:Str->Option Value)(fa:Addr)(o:Obj)(pm cd doc:Value)(a:Addr)(vs:List Value)(ns:List Int),
  Ground q loose [] XP w s₀ mg mb s₁.heap->YP w s₁.heap ->
  s₁.heap.get? fa=some o->o.data=.func (docDef d.name d.params d.body d.scope pm cd doc)->s₁.heap.CodeRec cd d.name->mg d.name=some (.ref fa) ->
  s₁.heap.get? a=some { cls:=.type "list", data:=.seq vs.toArray }->zl vs ns->ns.length<=n->s₁.gens = #[] ->
  ky (model l.prog w) uo (.call (.ref fa) ⟨[.ref a],[]⟩) (fun r s'=>r=.ok (.ret (.bool true))/\OldK s₁.heap s'.heap/\s'.os=s₁.os/\px s'.gens) s₁):
 WalkO q loose XP YP l.row.toRowW d [] (fun f vs=>zu f vs):=by
 intro w s₀ s₁ mg mb G Y fa o pm cd doc dV kV ho hd hcd hD hmg hg args vals as hpre hlay hrd hwl hlo
 obtain rfl:dV=.none:=Dflts.none hD hdf
 obtain rfl:kV=.none:=Dflts.noKw hD
 obtain⟨a,vs,ns,rfl,rfl,hobj,hints,hlen⟩:=O2 hn hpre hwl
 refine enter_call (l5 (call w s₀ s₁ mg mb fa o pm cd doc a vs ns G Y ho (fd_plain hd) hcd hmg hobj hints hlen hg) fun r s' hq=>?_)
 obtain⟨rfl,h2,h3,h4⟩:=hq
 exact⟨.inl ⟨.bool true,.bool true,[],rfl,fun _=>rfl,.bool true,PB l _,fun _=>⟨List.Pairwise.nil,fun _ hm=>(nomatch hm)⟩⟩,h2,h3,h4⟩
end Att
namespace L2
open PySem PySem.Spec PyProof.Rows
theorem DG:∀{vs:List Value}{ns:List Int},zl vs ns->aR (ns.map V.int) vs
 |_,_,.nil=>.nil
 |_,_,.cons n t h=>.cons ⟨t,rfl⟩ (DG h)
def MJ (H:Hp):Prop:=∀ b,H b=none∨∃ o xs,H b=some (.frz o (.lst xs))
theorem SI {P:bq}{w:cq}{K:ae}{mg mb:Str->Option Value}{CX:qS}{k:Nat}{fa a:Addr}{fd:fx}{x:Str}{sp:Sp}{s₁:ah}{vs:List Value}{ns:List Int}
  (KX:K.In s₁.heap)(hns:s₁.heap.Ns br mg)(hb:s₁.heap.Ns zo mb)(hbb:∀ x:Str,x ≠"__name__" -> mb x=cu x)(hlim:s₁.heap.NoLimit)(hg:s₁.gens = #[])
  (ha:s₁.heap.get? a=some { cls:=.type "list", data:=.seq vs.toArray })(hi:zl vs ns)(hl:ns.length<=sizeLine)(hr:dC k uo)
  (F:∀ base:Heap,K.In base->base.Ns br mg->cM P w K mg base CX k fa fd [x] sp)(hbind:∀(s:ah)(u:Value),we s fd ⟨[u],[]⟩ [(x,u)])
  (hsp:∀ H:Hp,MJ H->dS K H a (ns.map V.int)->sp [.ref a] H (fun v _=>v=.bl true) fun _ _ _=>False)
  (hCX:∀ H e s',CX [] H s₁ (fun _ _ _=>False) e s'->False):
  ky (model P w) uo (.call (.ref fa) ⟨[.ref a],[]⟩) (fun r s'=>r=.ok (.ret (.bool true))/\OldK s₁.heap s'.heap/\s'.os=s₁.os/\px s'.gens) s₁:=by
 have rv:=DG hi
 have lenV:=hi.length
 have core:∀ H:Hp,MJ H->dS K H a (ns.map V.int)->dN P w H s₁.heap->(∀ b,H b≠none->b=a)->(H a≠none->K.lookup a=none) ->
   ky (model P w) uo (.call (.ref fa) ⟨[.ref a],[]⟩) (fun r s'=>r=.ok (.ret (.bool true))/\OldK s₁.heap s'.heap/\s'.os=s₁.os/\px s'.gens) s₁:=by
  intro H hO hS bJ hA hK
  have base_of:∀{b:Addr}{o:Obj},s₁.heap.get? b=some o->H b=none->(sM s₁.heap H).get? b=some o:=fun e n=>RL e n
  have noA:∀{b:Addr}{o:Obj}{es:Array DictEntry}{ep:Nat},s₁.heap.get? b=some o->o.data=.dict es ep->H b=none:=fun{b o es ep} e d=>by
   cases q:H b with
   |none=>rfl
   |some u =>
    have e':b=a:=hA b (by rw[q];simp)
    subst e'
    rw[ha]at e;cases e
    have d':Data.seq vs.toArray _=Data.dict es ep:=d
    cases d'
  have nsK:∀{b:Addr}{m:Str->Option Value},s₁.heap.Ns b m->(sM s₁.heap H).Ns b m:=fun{b m} ⟨o,es,ep,e,d,r⟩=>⟨o,es,ep,base_of e (noA e d),d,r⟩
  have hKb:K.In (sM s₁.heap H):=fun b o e=>base_of (KX b o e) (by
   cases q:H b with
   |none=>rfl
   |some u =>
    have e':b=a:=hA b (by rw[q];simp)
    subst e'
    rw[hK (by rw[q];simp)]at e;cases e)
  have hM:Mod K mg (sM s₁.heap H):=⟨hKb,nsK hns,⟨mb,nsK hb,hbb⟩,let⟨mc,h1,h2⟩:=hlim;⟨mc,nsK h1,h2⟩⟩
  have e0:LY P w K mg (sM s₁.heap H) uo [] s₁ H:=⟨rfl,hM,fun b o e=>W0 e,Nat.le_of_eq (OP _ _),trivial,fun b hb=>absurd (show b∈([]:List Addr)from hb) (by simp),bJ,.of_eq hg⟩
  refine l5 ((F _ hKb (nsK hns)).run uo [] s₁ H ⟨[.ref a],[]⟩ [.ref a] [.ref a] _ _ hr e0 (hbind s₁ (.ref a)) (.cons rfl .nil) (hsp H hO hS)) fun r s' h=>?_
  cases r with
  |error e=>exact(hCX H e s' h).elim
  |ok fl =>
   cases fl with
   |next=>exact i7 h
   |brk=>exact i7 h
   |cont=>exact i7 h
   |ret u =>
    obtain⟨v,H',os,bare,un,hok',r',q⟩:=h
    have q':v=.bl true:=q
    subst q'
    obtain rfl:u=ud true:=r'
    refine⟨rfl,OldK.of_keep fun b o e=>?_,os,bare⟩
    cases q:H b with
    |none=>exact un.keep b o e q (by intro z;exact absurd (show b∈([]:List Addr)from z) (by simp)) (by simp)
    |some u =>
     rcases hO b with z|⟨ob,xs,z⟩
     ·rw[q]at z;cases z
     ·have z2:=un.iA b ob _ z
      obtain⟨e1,_⟩:=bJ b _ z
      obtain⟨e2,_⟩:=hok' b _ z2
      rw[e]at e1;cases e1
      exact e2
 cases hk:K.lookup a with
 |some o =>
  have e:=KX a o hk
  rw[ha]at e
  cases e
  refine core (fun _=>none) (fun _=>.inl rfl) (.inr ⟨_,vs.toArray,_,hk,rfl,rfl,rfl,by rw[av,lenV];exact hl,by simpa using rv⟩) (fun b u z=>by have z':(none:Option HO)=some u:=z;cases z') (fun b z=>absurd rfl z) fun z=>absurd rfl z
 |none =>
  refine core (fun b=>if b=a then some (.frz { cls:=.type "list", data:=.seq vs.toArray } (.lst (ns.map V.int)))else none) (fun b=>?_) (.inl (.inr ⟨{ cls:=.type "list", data:=.seq vs.toArray },if_pos rfl⟩)) (fun b u z=>?_) (fun b z=>?_) fun _=>hk
  ·by_cases hb:b=a
   ·exact .inr ⟨_,_,if_pos hb⟩
   ·exact .inl (if_neg hb)
  ·by_cases hb:b=a
   ·have z':=(if_pos hb).symm.trans z
    cases z'
    subst hb
    exact⟨ha,by rw[aa];exact hl,vs,_,rv,ha⟩
   ·have z':=(if_neg hb).symm.trans z
    cases z'
  ·by_cases hb:b=a
   ·exact hb
   ·exact absurd (if_neg hb) z
end L2
namespace L2
open PySem PySem.Spec PyProof.Rows
theorem VY {l:zg}{n k:Nat}{q:bq}{loose:List Str}{XP:(Str->Option Value)->Heap->Prop}{YP:cq->Heap->Prop}{d:DefRec}{K:Qm->ae}{CX:cq->qS}{sp:cq->Sp}{x:Str}
 (hn:l.most=some n)(hn2:n<=sizeLine)(hdf:d.params.defaults=[])(hr:dC k uo)
 (hY:∀(w:cq)(h:Heap),YP w h->(K w.params).In h)
 (F:∀(w:cq)(mg:Str->Option Value)(fa:Addr)(h:Heap),(K w.params).In h->h.Ns br mg->mg d.name=some (.ref fa) ->
  ∃ fd:fx,(∀(s:ah)(u:Value),we s fd ⟨[u],[]⟩ [(x,u)]) /\
  ∀ base:Heap,(K w.params).In base->base.Ns br mg->cM l.prog w (K w.params) mg base (CX w) k fa fd [x] (sp w))
 (hsp:∀(w:cq)(H:Hp)(a:Addr)(ns:List Int),ns.length<=n->MJ H->dS (K w.params) H a (ns.map V.int)->sp w [.ref a] H (fun v _=>v=.bl true) fun _ _ _=>False)
 (hCX:∀(w:cq)(H:Hp)(s:ah)(e:Value)(s':ah),CX w [] H s (fun _ _ _=>False) e s'->False):
 Oq q loose XP YP l.row.toRowW d [] (fun f vs=>zu f vs):=by
 refine Att.IW hn hdf fun w s₀ s₁ mg mb fa o pm cd doc a vs ns G Y ho hd hcd hmg hobj hints hlen hg=>?_
 have KX:=hY w _ Y
 obtain⟨fd,hb,hF⟩:=F w mg fa _ KX G.T.g hmg
 exact SI KX G.T.g G.T.b G.T.builtins G.T.nolimit hg hobj hints (bz hlen hn2) hr hF hb (fun H hO hS=>hsp w H a ns hlen hO hS) fun H e s'=>hCX w H s₁ e s'
end L2
namespace L2
open PySem PySem.Spec PyProof.Rows
noncomputable def kT (s:Stmt):Arguments:=match s with
 |.FunctionDef _ a _ _ _ _ _ _ _ _=>a
 |_=>{ posonlyargs:=[],args:=[],vararg:=none,kwonlyargs:=[],kw_defaults:=[],kwarg:=none,defaults:=[] }
noncomputable def gI (s:Stmt):List Stmt:=match s with
 |.FunctionDef _ _ b _ _ _ _ _ _ _=>b
 |_=>[]
noncomputable def aH (s:Stmt):Scope:=match s with
 |.FunctionDef _ _ _ _ _ _ sc _ _ _=>sc
 |_=>{ kind:=.function,names:=[],isGenerator:=false,isCoroutine:=false }
noncomputable abbrev gH:qS:=fun _ _ _ _ _ _=>False
noncomputable abbrev E0:XK:=fun _ _ _=>False
theorem Ip {X:Cx}:iG gH X E0:=fun _ _ _ _ _ _ _ h=>h.elim
structure wC (K:ae)(x qual:Str)(st:Stmt)(f:Addr)(fd:fx):Prop where
 ex:∃(oc:Value)(od:Option Addr)(kV doc pm:Value)(an:Option Addr)(aT ct:Value)(osl:Array (Option Value)),
 fd=je x qual (kT st) (gI st) (aH st) .none kV doc pm an aT ct/\K.lookup f=some ⟨oc,od,.func fd,osl⟩/\lx K aT qual=true
 kp:dv K (.ref f)=true
section
variable {P:bq}{w:cq}{K:ae}{mg:Str->Option Value}{base:Heap}
theorem wC.ok {x qual:Str}{st:Stmt}{f:Addr}{fd:fx}{N ps:List Str}{k:Nat}{sp:Sp}(F:wC K x qual st f fd)(S:kW N ps (aH st))(len:∀ vs H Q E,sp vs H Q E->vs.length=ps.length)
 (hbody:∀(aT:Value)(A:cg)(outer:List Env)(s:ah)(H:Hp)(vs:List V)(Q:VK)(E:XK),dC k (A.deeper (gh qual (aH st) s.heap.objs.size f aT))->sp vs H Q E ->
  ∃ t,iN (cW gH P w K mg base N qual (aH st) f aT A outer s H E).mF (gI st) t/\t { nx:=fun _ H'=>Q .non H',rt:=Q } (start N vs) H):cM P w K mg base gH (k+1) f fd ps sp:=by
 obtain⟨oc,od,kV,doc,pm,an,aT,ct,osl,rfl,lk,hcd⟩:=F.ex
 refine US lk hcd S len fun A outer s H vs Q E hr hsp=>?_
 obtain⟨t,h,q⟩:=hbody aT A outer s H vs Q E hr hsp
 exact⟨t,h.mF,q⟩
theorem wC.binds {x qual:Str}{st:Stmt}{f:Addr}{fd:fx}{ps:List Str}(F:wC K x qual st f fd)
 (h:∀(kV doc pm:Value)(an:Option Addr)(aT ct:Value)(us:List Value),us.length=ps.length->Py (je x qual (kT st) (gI st) (aH st) .none kV doc pm an aT ct) ⟨us,[]⟩=pure (ps.zip us)):Binds K fd ps []:=by
 obtain⟨oc,od,kV,doc,pm,an,aT,ct,osl,rfl,lk,hcd⟩:=F.ex
 exact .all (h kV doc pm an aT ct)
theorem IA {x qual:Str}{st:Stmt}{f:Addr}{oc:Value}{od an:Option Addr}{osl:Array (Option Value)}{kV doc pm aT ct:Value}(l:K.lookup f=some ⟨oc,od,.func (je x qual (kT st) (gI st) (aH st) .none kV doc pm an aT ct),osl⟩)
 (c:lx K aT qual=true)(k:dv K (.ref f)=true):wC K x qual st f (je x qual (kT st) (gI st) (aH st) .none kV doc pm an aT ct):=⟨⟨oc,od,kV,doc,pm,an,aT,ct,osl,rfl,l,c⟩,k⟩
end
theorem NQ {n:Nat}(h:n<=1000):n<sizeLine:=qk h (by decide)
section
variable {X:Cx}
theorem pv (i:Nat){x:Str}{pos:Pos}(hN:X.N[i]? = some x:=by rfl)(hv:TU X.env.scope x:=by first|exact Or.inl rfl|exact Or.inr (Or.inl rfl)|exact Or.inr (Or.inr rfl))(hd:(x==("__debug__" : Str))=false:=by decide)
 (hcd:(x==("__classdict__" : Str))=false:=by decide):PE X (.Name x pos) (LI i):=Cm hN hv hd hcd
end
end L2
end
section
namespace L3
inductive D where
 |non|bl (b:Bool)|int (i:Int)|str (x:List Nat)|tup (ds:List D)|ref (a:Nat)|cH (ks vs:List D)|bD (ds:List D)|exc (c:Nat)
inductive MO where
 |lst (ds:List D)
 |dic (ks vs:List D)
 /-- an instance of the class of this name: aD attributes -/
 |ins (c:List Nat)(fs:List (List Nat×D))
 /-- a dict that is filled: aD keys are tuples of texts and of such tuples -/
 |tab (ks vs:List D)
noncomputable abbrev aB:=Nat->Option MO
noncomputable def put (st:aB)(a:Nat)(o:MO):aB:=fun b=>if b=a then some o else st b
inductive qT where
 |add|sub|mul|fdiv|mod|pow
inductive nF where
 |eq|ne|lt|le|gt|ge|is_|isnot|in_|gS
inductive Ty where
 |int|str|bool|list|tuple|dict|err (c:Nat)
inductive BI where
 |len|all|any|max|min|sum|abs|list|tuple|int|str|bool|pN|sorted
inductive MT where
 |append|extend|pop|index|count|join|split|get|insert|remove|startswith|endswith|partition
inductive IK where
 |range|zip|enum|rev|items|keys|values
inductive Ex where
 |c (d:D)|v (i:Nat)
 |tup (es:List Ex)|lst (es:List Ex)
 |bin (op:qT)(a b:Ex)|neg (a:Ex)
 |cmp (op:nF)(a b:Ex)|chain (op op':nF)(a b c:Ex)
 |and_ (a b:Ex)|or_ (a b:Ex)|not_ (a:Ex)|ite (c a b:Ex)
 |call (f:Nat)(es:List Ex)|callx (f:Nat)(es:List Ex)|mclx (c m:List Nat)(f:Nat)(o:Ex)(es:List Ex)|bi (f:BI)(es:List Ex)|isi (a:Ex)(ts:List Ty)
 |bX (m:MT)(o:Ex)(es:List Ex)
 |ix (a b:Ex)|sl (a:Ex)(lo hi:List Ex)
 /-- f(g(..)), g what is walked on the spot -/
 |bit (f:BI)(k:IK)(es:List Ex)
 |comp (n:Nat)(aV:List Nat)(tg:List Nat)(one:Bool)(k:Option IK)(aD:List Ex)(ifs:List Ex)(elt:Ex)
 |dic (ks vs:List Ex)
 /-- o.f of an instance of the class c; C(..), f aD __init__; o.m(..), f the def -/
 |fld (c f:List Nat)(o:Ex)|mk (c:List Nat)(f:Nat)(es:List Ex)|mcl (c m:List Nat)(f:Nat)(o:Ex)(es:List Ex)
 /-- {}; k in d; d[k] -/
 |dnew|d1 (k v:Ex)|din (neg:Bool)(k d:Ex)|dix (d k:Ex)
inductive Tg where
 |nm (i:Nat)|tp (is:List Nat)|ix (o i:Ex)|fl (c f:List Nat)(o:Ex)|dk (o i:Ex)
inductive Sx where
 |ex (e:Ex)|asg (t:Tg)(e:Ex)|aug (i:Nat)(op:qT)(e:Ex)
 |iff (c:Ex)(a b:List Sx)|whl (c:Ex)(b:List Sx)|kJ (t:Tg)(k:Option IK)(aD:List Ex)(b:List Sx)
 |ret (e:Ex)|brk|cnt|pass|rais (c:Nat)(es:List Ex)
 |tryy (b:List Sx)(c:Nat)(n:Option Nat)(h:List Sx)
structure Fn where
 np:Nat
 nl:Nat
 body:List Sx
structure Prog where
 fns:Nat->Option Fn
 /-- class c is class c' or stands under it -/
 sub:Nat->Nat->Bool
noncomputable abbrev St:=List (Option D)
abbrev VK:=D->aB->Prop
abbrev XK:=Nat->aB->Prop
abbrev aS:=Nat->List D->aB->VK->XK->Prop
noncomputable abbrev aK:Nat:=16777216
noncomputable abbrev lN:Nat:=80
def W (x:String):List Nat:=x.toList.map Char.toNat
def Ext (st aA:aB):Prop:=∀ a o,st a=some o->aA a=some o
def fK (σ:St)(i:Nat)(Q:D->Prop):Prop:=match σ[i]? with
 |some (some d)=>Q d
 |_=>False
mutual
noncomputable def cK:D->D->Bool
 |.non,.non=>true
 |.bl a,.bl b=>a==b
 |.bl a,.int b=>(if a then 1 else 0)==b
 |.int a,.bl b=>a==(if b then 1 else 0)
 |.int a,.int b=>a==b
 |.str a,.str b=>a==b
 |.tup as,.tup bs=>jD as bs
 |_,_=>false
noncomputable def jD:List D->List D->Bool
 |[],[]=>true
 |a::as,b::bs=>cK a b&&jD as bs
 |_,_=>false
end
mutual
noncomputable def bB:D->Bool
 |.non=>true
 |.bl _=>true
 |.int _=>true
 |.str _=>true
 |.tup ds=>bF ds
 |_=>false
noncomputable def bF:List D->Bool
 |[]=>true
 |d::ds=>bB d&&bF ds
end
mutual
noncomputable def dF:D->Nat
 |.tup ds=>cF ds+1
 |_=>0
noncomputable def cF:List D->Nat
 |[]=>0
 |d::ds=>max (dF d) (cF ds)
end
def plain (d:D):Prop:=bB d=true/\dF d<=lN
def oN (ds:List D):Prop:=bF ds=true/\cF ds<=lN
noncomputable def UK:Option MO->Bool
 |some (.lst ds)=>bF ds&&decide (cF ds<=lN)
 |_=>false
mutual
noncomputable def gQ (st:aB):D->Bool
 |.non=>true
 |.bl _=>true
 |.int _=>true
 |.str _=>true
 |.tup ds=>hJ st ds
 |.ref a=>UK (st a)
 |.bD ds=>bF ds&&decide (cF ds<=lN)
 |_=>false
noncomputable def hJ (st:aB):List D->Bool
 |[]=>true
 |d::ds=>gQ st d&&hJ st ds
end
noncomputable def CY:Option MO->Option MO->Bool
 |some (.lst xs),some (.lst ys)=>jD xs ys
 |_,_=>false
mutual
noncomputable def bO (st:aB):D->D->Bool
 |.non,.non=>true
 |.bl a,.bl b=>a==b
 |.bl a,.int b=>(if a then 1 else 0)==b
 |.int a,.bl b=>a==(if b then 1 else 0)
 |.int a,.int b=>a==b
 |.str a,.str b=>a==b
 |.tup as,.tup bs=>jF st as bs
 |.ref a,.ref b=>CY (st a) (st b)
 |.bD xs,.ref b=>CY (some (.lst xs)) (st b)
 |.ref a,.bD ys=>CY (st a) (some (.lst ys))
 |.bD xs,.bD ys=>jD xs ys
 |_,_=>false
noncomputable def jF (st:aB):List D->List D->Bool
 |[],[]=>true
 |a::as,b::bs=>bO st a b&&jF st as bs
 |_,_=>false
end
def plainS (st:aB)(d:D):Prop:=gQ st d=true/\dF d<=lN
def dR (st:aB)(ds:List D):Prop:=hJ st ds=true/\cF ds<=lN
def TZ (x y:D)(st:aB)(P:Bool->Prop):Prop:=plainS st x/\plainS st y/\P (bO st x y)
noncomputable def occurs (x:List Nat):List Nat->Bool
 |[]=>x.isEmpty
 |c::r=>x.isPrefixOf (c::r)||occurs x r
def bW (st:aB)(a:Nat)(K:List D->Prop):Prop:=match st a with
 |some (.lst ds)=>K ds
 |_=>False
def cP {α:Type}(o:Option α)(K:α->Prop):Prop:=match o with
 |some x=>K x
 |none=>False
def dW (st:aB)(a:Nat)(K:List D->Prop)(M:List D->List D->Prop):Prop:=match st a with
 |some (.lst ds)=>K ds
 |some (.dic ks vs)=>M ks vs
 |_=>False
def G3:D->D->aB->(Bool->Prop)->Prop
 |x,.tup ds,st,P=>plainS st x/\dR st ds/\P (ds.any fun d=>bO st d x)
 |x,.ref a,st,P=>dW st a (fun ds=>plainS st x/\dR st ds/\P (ds.any fun d=>bO st d x)) fun ks _=>plain x/\oN ks/\P (ks.any fun d=>cK d x)
 |.str w,.cH ks _,_,P=>P (ks.any fun d=>cK d (.str w))
 |x,.bD ds,st,P=>plainS st x/\dR st ds/\P (ds.any fun d=>bO st d x)
 |.str w,.str z,_,P=>P (occurs w z)
 |_,_,_,_=>False
def sP (f:Int->Int->Bool):D->D->(Bool->Prop)->Prop
 |.int i,.int j,P=>P (f i j)
 |_,_,_=>False
noncomputable def EY:D->Bool
 |.non=>true
 |_=>false
noncomputable def SX (b:Bool):D->Bool
 |.bl c=>c==b
 |_=>false
def AF:D->D->(Bool->Prop)->Prop
 |x,.non,P=>P (EY x)
 |x,.bl b,P=>P (SX b x)
 |_,_,_=>False
def cO:nF->D->D->aB->(Bool->Prop)->Prop
 |.eq,x,y,st,P=>TZ x y st P
 |.ne,x,y,st,P=>TZ x y st fun b=>P (!b)
 |.lt,x,y,_,P=>sP (fun i j=>decide (i<j)) x y P
 |.le,x,y,_,P=>sP (fun i j=>decide (i<=j)) x y P
 |.gt,x,y,_,P=>sP (fun i j=>decide (j<i)) x y P
 |.ge,x,y,_,P=>sP (fun i j=>decide (j<=i)) x y P
 |.is_,x,y,_,P=>AF x y P
 |.isnot,x,y,_,P=>AF x y fun b=>P (!b)
 |.in_,x,y,st,P=>G3 x y st P
 |.gS,x,y,st,P=>G3 x y st fun b=>P (!b)
def qQ (i:Int):Prop:=-18446744073709551616<i/\i<18446744073709551616
def fX (ds:List D)(st:aB)(Q:VK):Prop:=ds.length<=aK/\∀ p,st p=none->Q (.ref p) (put st p (.lst ds))
def hV:qT->D->D->aB->VK->Prop
 |.add,.int i,.int j,st,Q=>Q (.int (i+j)) st
 |.add,.str a,.str b,st,Q=>a.length+b.length<=aK/\Q (.str (a++b)) st
 |.add,.tup a,.tup b,st,Q=>a.length+b.length<=aK/\Q (.tup (a++b)) st
 |.add,.ref a,.ref b,st,Q=>bW st a fun xs=>bW st b fun ys=>fX (xs++ys) st Q
 |.sub,.int i,.int j,st,Q=>Q (.int (i-j)) st
 |.mul,.int i,.int j,st,Q=>(qQ i∨qQ j)/\Q (.int (i*j)) st
 |.mul,.ref a,.int k,st,Q=>bW st a fun xs=>xs.length*k.toNat<=aK/\(-9223372036854775808<=k/\k<9223372036854775808)/\fX (ao k.toNat xs).flatten st Q
 |.mul,.tup xs,.int k,st,Q=>(0<xs.length/\xs.length<=1000/\1<=k/\k<1000)/\Q (.tup (ao k.toNat xs).flatten) st
 |.mul,.str xs,.int k,st,Q=>(xs.length<=1000/\0<=k/\k<1000)/\Q (.str (ao k.toNat xs).flatten) st
 |.fdiv,.int i,.int j,st,Q=>(0<j/\j<1073741824)/\Q (.int (i / j)) st
 |.mod,.int i,.int j,st,Q=>0<j/\Q (.int (i % j)) st
 |.pow,.int i,.int j,st,Q=>(0<=j/\j<=1000000/\i.natAbs<18446744073709551616)/\Q (.int (i ^ j.toNat)) st
 |_,_,_,_,_=>False
def vT:D->aB->VK->Prop
 |.int i,st,Q=>Q (.int (-i)) st
 |_,_,_=>False
noncomputable def QM:List (List Nat×D)->List Nat->Option D
 |[],_=>none
 |(g,d)::r,f=>if g=f then some d else QM r f
noncomputable def Aq (f:List Nat)(d:D):List (List Nat×D)->List (List Nat×D)
 |[]=>[(f,d)]
 |(g,x)::r=>if g=f then(g,d)::r else(g,x)::Aq f d r
def xJ (st:aB)(a:Nat)(K:List Nat->List (List Nat×D)->Prop):Prop:=match st a with
 |some (.ins c fs)=>K c fs
 |_=>False
def tabAt (st:aB)(a:Nat)(K:List D->List D->Prop):Prop:=match st a with
 |some (.tab ks vs)=>K ks vs
 |_=>False
def HW (c f:List Nat):D->aB->VK->Prop
 |.ref a,st,Q=>xJ st a fun c' fs=>c'=c/\cP (QM fs f) fun d=>Q d st
 |_,_,_=>False
def OC (c f:List Nat)(v:D):D->aB->(aB->Prop)->Prop
 |.ref a,st,Q=>xJ st a fun c' fs=>c'=c/\fs.length<900/\Q (put st a (.ins c (Aq f v fs)))
 |_,_,_=>False
mutual
noncomputable def Kn:D->Bool
 |.str _=>true
 |.bl _=>true
 |.tup ds=>LM ds
 |_=>false
noncomputable def LM:List D->Bool
 |[]=>true
 |d::ds=>Kn d&&LM ds
end
def keyed:D->Prop
 |.tup ds=>LM ds=true/\cF ds<=7
 |_=>False
noncomputable def TC:List D->List D->D->Option D
 |k::ks,v::vs,x=>if cK k x then some v else TC ks vs x
 |_,_,_=>none
def FU (x:D):D->aB->(Bool->Prop)->Prop
 |.ref a,st,P=>tabAt st a fun ks _=>keyed x/\P (ks.any fun k=>cK k x)
 |_,_,_=>False
def FY (x:D):D->aB->VK->Prop
 |.ref a,st,Q=>tabAt st a fun ks vs=>keyed x/\cP (TC ks vs x) fun d=>Q d st
 |_,_,_=>False
def JY (x v:D):D->aB->(aB->Prop)->Prop
 |.ref a,st,Q=>tabAt st a fun ks vs=>keyed x/\(ks.any fun k=>cK k x)=false/\ks.length<10000/\Q (put st a (.tab (ks++[x]) (vs++[v])))
 |_,_,_=>False
def L7 (c m:List Nat):D->aB->Prop
 |.ref a,st=>xJ st a fun c' fs=>c'=c/\QM fs m=none
 |_,_=>False
def dJ:D->aB->(Bool->Prop)->Prop
 |.non,_,P=>P false
 |.bl b,_,P=>P b
 |.int i,_,P=>P (i != 0)
 |.str x,_,P=>x.length<=aK/\P (!x.isEmpty)
 |.tup ds,_,P=>P (!ds.isEmpty)
 |.ref a,st,P=>dW st a (fun ds=>P (!ds.isEmpty)) fun ks _=>P (!ks.isEmpty)
 |.bD ds,_,P=>P (!ds.isEmpty)
 |_,_,_=>False
def fS (sub:Nat->Nat->Bool):D->aB->Ty->(Bool->Prop)->Prop
 |.non,_,_,P=>P false
 |.bl _,_,.bool,P=>P true
 |.bl _,_,.int,P=>P true
 |.bl _,_,_,P=>P false
 |.int _,_,.int,P=>P true
 |.int _,_,_,P=>P false
 |.str _,_,.str,P=>P true
 |.str _,_,_,P=>P false
 |.tup _,_,.tuple,P=>P true
 |.tup _,_,_,P=>P false
 |.ref a,st,.list,P=>dW st a (fun _=>P true) fun _ _=>P false
 |.ref a,st,.dict,P=>dW st a (fun _=>P false) fun _ _=>P true
 |.ref a,st,_,P=>dW st a (fun _=>P false) fun _ _=>P false
 |.bD _,_,.list,P=>P true
 |.bD _,_,_,P=>P false
 |.exc c,_,.err c',P=>P (sub c c')
 |_,_,_,_=>False
def qK (sub:Nat->Nat->Bool)(d:D)(st:aB):List Ty->(Bool->Prop)->Prop
 |[],_=>False
 |[t],P=>fS sub d st t P
 |t::u::ts,P=>fS sub d st t fun b=>if b=true then P true else qK sub d st (u::ts) P
noncomputable def mB (n:Nat)(i:Int):Option Nat:=if 0<=i then(if i<n then some i.toNat else none)else if -(n:Int)<=i then some (i+n).toNat else none
noncomputable def eJ {α:Type}(xs:List α)(i:Int):Option α:=(mB xs.length i).bind fun j=>xs[j]?
noncomputable def oE:List D->List D->D->Option D
 |k::ks,v::vs,x=>if cK k x then some v else oE ks vs x
 |_,_,_=>none
def sG:D->D->aB->VK->Prop
 |.tup ds,.int i,st,Q=>cP (eJ ds i) fun d=>Q d st
 |.bD ds,.int i,st,Q=>cP (eJ ds i) fun d=>Q d st
 |.str z,.int i,st,Q=>z.length<=aK/\cP (eJ z i) fun c=>Q (.str [c]) st
 |.cH ks vs,.str w,st,Q=>cP (oE ks vs (.str w)) fun d=>Q d st
 |.ref a,y,st,Q=>dW st a (fun ds=>match y with
  |.int i=>cP (eJ ds i) fun d=>Q d st
  |_=>False) fun ks vs=>plain y/\oN ks/\cP (oE ks vs y) fun d=>Q d st
 |_,_,_,_=>False
noncomputable def bM (n d:Nat):Option Int->Nat
 |none=>d
 |some v=>if v<0 then(v+(n:Int)).toNat else min v.toNat n
noncomputable def cut {α:Type}(xs:List α)(lo hi:Option Int):List α:=(xs.drop (bM xs.length 0 lo)).take (bM xs.length xs.length hi-bM xs.length 0 lo)
def mY:List D->(Option Int->Prop)->Prop
 |[],P=>P none
 |[.int i],P=>P (some i)
 |_,_=>False
def yM:D->Option Int->Option Int->aB->VK->Prop
 |.tup ds,lo,hi,st,Q=>Q (.tup (cut ds lo hi)) st
 |.str z,lo,hi,st,Q=>z.length<=aK/\Q (.str (cut z lo hi)) st
 |.ref a,lo,hi,st,Q=>bW st a fun ds=>∀ p,st p=none->Q (.ref p) (put st p (.lst (cut ds lo hi)))
 |_,_,_,_,_=>False
def fB:D->aB->(List Nat->List D->Prop)->Prop
 |.tup ds,_,K=>K [] ds
 |.ref a,st,K=>bW st a fun ds=>K [a] ds
 |.bD ds,_,K=>K [] ds
 |_,_,_=>False
def mZ:D->aB->(List Nat->List D->Prop)->Prop
 |.tup ds,_,K=>K [] ds
 |.str x,_,K=>x.length<=aK/\K [] (x.map fun c=>.str [c])
 |.ref a,st,K=>bW st a fun ds=>K [a] ds
 |.bD ds,_,K=>K [] ds
 |_,_,_=>False
noncomputable def zip2:List D->List D->List D
 |x::xs,y::ys=>.tup [x,y]::zip2 xs ys
 |_,_=>[]
noncomputable def S7:Nat->List D->List D
 |_,[]=>[]
 |i,x::xs=>.tup [.int i,x]::S7 (i+1) xs
noncomputable def iB (lo:Int)(n:Nat):List D:=(bc n).map fun k=>.int (lo+(k:Nat))
noncomputable def XD (hi:Int)(n:Nat):List D:=(bc n).map fun k=>.int (hi-(k:Nat))
def fN (i:Int):Prop:=-4611686018427387904<=i/\i<4611686018427387904
def iJ:Option IK->List D->aB->(List Nat->List D->Prop)->Prop
 |none,[x],st,P=>mZ x st P
 |some .range,[.int j],_,P=>fN j/\P [] (iB 0 j.toNat)
 |some .range,[.int i,.int j],_,P=>fN i/\fN j/\P [] (iB i (j-i).toNat)
 |some .range,[.int i,.int j,.int c],_,P=>c = -1/\fN i/\fN j/\P [] (XD i (i-j).toNat)
 |some .zip,[.ref a,.ref b],st,P=>bW st a fun xs=>bW st b fun ys=>P [a,b] (zip2 xs ys)
 |some .enum,[.ref a],st,P=>bW st a fun xs=>P [a] (S7 0 xs)
 |some .rev,[x],st,P=>fB x st fun as xs=>P as xs.reverse
 |_,_,_,_=>False
noncomputable def boolsOf:List D->Option (List Bool)
 |[]=>some []
 |.bl b::r=>(boolsOf r).map (b :: ·)
 |_=>none
noncomputable def intsOf:List D->Option (List Int)
 |[]=>some []
 |.int i::r=>(intsOf r).map (i :: ·)
 |_=>none
def nQ:D->aB->(Nat->Prop)->Prop
 |.tup ds,_,P=>P ds.length
 |.str x,_,P=>x.length<=aK/\P x.length
 |.ref a,st,P=>dW st a (fun ds=>P ds.length) fun ks _=>P ks.length
 |.bD ds,_,P=>P ds.length
 |_,_,_=>False
noncomputable def ZZ:Int->List Int->Int
 |m,[]=>m
 |m,i::r=>ZZ (if i>m then i else m) r
noncomputable def Dv:Int->List Int->Int
 |m,[]=>m
 |m,i::r=>Dv (if i<m then i else m) r
def cS:BI->List D->aB->VK->Prop
 |.all,xs,st,Q=>cP (boolsOf xs) fun bs=>Q (.bl (bs.all id)) st
 |.any,xs,st,Q=>cP (boolsOf xs) fun bs=>Q (.bl (bs.any id)) st
 |.max,xs,st,Q=>cP (intsOf xs) fun is=>match is with
  |i::r=>Q (.int (ZZ i r)) st
  |[]=>False
 |.min,xs,st,Q=>cP (intsOf xs) fun is=>match is with
  |i::r=>Q (.int (Dv i r)) st
  |[]=>False
 |.sum,xs,st,Q=>cP (intsOf xs) fun is=>Q (.int is.sum) st
 |.list,xs,st,Q=>fX xs st Q
 |.tuple,xs,st,Q=>xs.length<=aK/\Q (.tup xs) st
 |_,_,_,_=>False
noncomputable def strsOf:List D->Option (List (List Nat))
 |[]=>some []
 |.str w::r=>(strsOf r).map (w :: ·)
 |_=>none
noncomputable def uT:List (List Nat)->List (List Nat)->Nat
 |_,[]=>0
 |seen,w::r=>(if seen.any (·== w)then 0 else 1)+uT (seen++[w]) r
noncomputable def dg (n:Nat):List Nat:=if n<10 then[48+n]else dg (n / 10)++[48+n % 10]
termination_by n
decreasing_by omega
noncomputable def val (w:List Nat):Nat:=w.foldl (fun a c=>10*a+(c-48)) 0
noncomputable def lV (c:Nat):Bool:=decide (48<=c)&&decide (c<=57)
def fP:BI->List D->aB->VK->Prop
 |.len,[d],st,Q=>nQ d st fun n=>Q (.int (n:Nat)) st
 |.pN,[.tup ds],st,Q=>cP (strsOf ds) fun ws=>ws.length<4000/\Q (.int (uT [] ws:Nat)) st
 |.max,[.int i,.int j],st,Q=>Q (.int (if j>i then j else i)) st
 |.min,[.int i,.int j],st,Q=>Q (.int (if j<i then j else i)) st
 |.abs,[.int i],st,Q=>Q (.int (if i<0 then -i else i)) st
 |.str,[.int i],st,Q=>(0<=i/\i<1000000)/\Q (.str (dg i.toNat)) st
 |.int,[.str w],st,Q=>(1<=w.length/\w.length<=6/\w.all lV=true)/\Q (.int (val w:Nat)) st
 |.int,[.int i],st,Q=>Q (.int i) st
 |.int,[.bl b],st,Q=>Q (.int (if b then 1 else 0)) st
 |.bool,[.int i],st,Q=>Q (.bl (i != 0)) st
 |.bool,[.bl b],st,Q=>Q (.bl b) st
 |f,[d],st,Q=>fB d st fun _ xs=>cS f xs st Q
 |_,_,_,_=>False
def pF:D->aB->(List D->Prop)->Prop
 |.tup ds,_,K=>K ds
 |.ref a,st,K=>bW st a K
 |_,_,_=>False
noncomputable def findD (st:aB)(d:D):List D->Option Nat
 |[]=>none
 |e::r=>if bO st e d=true then some 0 else(findD st d r).map (·+ 1)
noncomputable def aW (c:Nat):List Nat->List (List Nat)
 |[]=>[[]]
 |x::s=>if x=c then[]::aW c s else match aW c s with
 |w::r=>(x::w)::r
 |[]=>[[x]]
noncomputable def part (c:Nat)(s:List Nat):List Nat×List Nat:=(s.takeWhile (·!= c),(s.dropWhile (·!= c)).drop 1)
noncomputable def cY (s:List Nat):List (List Nat)->List Nat
 |[]=>[]
 |[w]=>w
 |w::v::r=>w++s++cY s (v::r)
def dZ:MT->D->List D->aB->VK->Prop
 |.append,.ref a,[d],st,Q=>bW st a fun xs=>xs.length<aK/\Q .non (put st a (.lst (xs++[d])))
 |.extend,.ref a,[d],st,Q=>bW st a fun xs=>pF d st fun ys=>xs.length+ys.length<=aK/\Q .non (put st a (.lst (xs++ys)))
 |.pop,.ref a,[],st,Q=>bW st a fun xs=>cP (xs[xs.length-1]?) fun d=>Q d (put st a (.lst xs.dropLast))
 |.join,.str s,[d],st,Q=>pF d st fun ds=>cP (strsOf ds) fun ws=>(ws.map jk).sum+ws.length*s.length<=aK/\Q (.str (cY s ws)) st
 |.startswith,.str z,[.str w,.int i],st,Q=>(z.length<=aK/\0<=i/\i<=z.length)/\Q (.bl (w.isPrefixOf (z.drop i.toNat))) st
 |.endswith,.str z,[.str w],st,Q=>z.length<=aK/\Q (.bl (w.isSuffixOf z)) st
 |.split,.str z,[.str [c]],st,Q=>z.length<aK/\fX ((aW c z).map .str) st Q
 |.partition,.str z,[.str [c]],st,Q=>z.length<=aK/\Q (.tup [.str (part c z).1,.str (if z.any (·== c)=true then[c]else[]),.str (part c z).2]) st
 |.get,.cH ks vs,[.str w],st,Q=>Q ((oE ks vs (.str w)).getD .non) st
 |.index,x,[d],st,Q=>fB x st fun _ ds=>plainS st d/\dR st ds/\cP (findD st d ds) fun i=>Q (.int (i:Nat)) st
 |_,_,_,_,_=>False
def mP:MT->D->aB->Prop
 |.append,.ref a,st=>bW st a fun _=>True
 |.extend,.ref a,st=>bW st a fun _=>True
 |.pop,.ref a,st=>bW st a fun _=>True
 |.index,x,st=>fB x st fun _ _=>True
 |.join,.str _,_=>True
 |.startswith,.str _,_=>True
 |.endswith,.str _,_=>True
 |.split,.str _,_=>True
 |.partition,.str _,_=>True
 |.get,.cH _ _,_=>True
 |_,_,_=>False
def iP:Bool->List Nat->D->St->(St->Prop)->Prop
 |true,[i],x,σ,P=>P (σ.set i (some x))
 |false,is,.tup ds,σ,P=>ds.length=is.length/\P ((is.zip ds).foldl (fun σ p=>σ.set p.1 (some p.2)) σ)
 |_,_,_,_,_=>False
def fD (g:aB->Prop)(turn:D->aB->(Option D->aB->Prop)->Prop):List D->List D->aB->(List D->aB->Prop)->Prop
 |[],acc,st,R=>g st/\R acc st
 |x::xs,acc,st,R=>g st/\acc.length<aK/\turn x st fun o aA=>fD g turn xs (match o with|none=>acc|some d=>acc++[d]) aA R
def same (as:List Nat)(st aA:aB):Prop:=∀ a∈as,aA a=st a
mutual
def aF (C:aS)(sub:Nat->Nat->Bool)(E:XK):Ex->St->aB->VK->Prop
 |.c d,_,st,Q=>Q d st
 |.v i,σ,st,Q=>fK σ i fun d=>Q d st
 |.tup es,σ,st,Q=>bC C sub E es σ st fun ds aA=>Q (.tup ds) aA
 |.lst es,σ,st,Q=>bC C sub E es σ st fun ds aA=>fX ds aA Q
 |.bin op a b,σ,st,Q=>aF C sub E a σ st fun x aC=>aF C sub E b σ aC fun y aG=>hV op x y aG Q
 |.neg a,σ,st,Q=>aF C sub E a σ st fun x aC=>vT x aC Q
 |.cmp op a b,σ,st,Q=>aF C sub E a σ st fun x aC=>aF C sub E b σ aC fun y aG=>cO op x y aG fun k=>Q (.bl k) aG
 |.chain op op' a b c,σ,st,Q=>aF C sub E a σ st fun x aC=>aF C sub E b σ aC fun y aG=>cO op x y aG fun k =>
  if k=true then aF C sub E c σ aG fun z aQ=>cO op' y z aQ fun k=>Q (.bl k) aQ else Q (.bl false) aG
 |.and_ a b,σ,st,Q=>aF C sub E a σ st fun x aC=>dJ x aC fun k=>if k=true then aF C sub E b σ aC Q else Q x aC
 |.or_ a b,σ,st,Q=>aF C sub E a σ st fun x aC=>dJ x aC fun k=>if k=true then Q x aC else aF C sub E b σ aC Q
 |.not_ a,σ,st,Q=>aF C sub E a σ st fun x aC=>dJ x aC fun k=>Q (.bl (!k)) aC
 |.ite c a b,σ,st,Q=>aF C sub E c σ st fun x aC=>dJ x aC fun k=>if k=true then aF C sub E a σ aC Q else aF C sub E b σ aC Q
 |.call f es,σ,st,Q=>bC C sub E es σ st fun ds aA=>C f ds aA Q (fun _ _=>False)
 |.callx f es,σ,st,Q=>bC C sub E es σ st fun ds aA=>C f ds aA Q E
 |.bi f es,σ,st,Q=>bC C sub E es σ st fun ds aA=>fP f ds aA Q
 |.isi a ts,σ,st,Q=>aF C sub E a σ st fun x aC=>qK sub x aC ts fun k=>Q (.bl k) aC
 |.bX m o es,σ,st,Q=>aF C sub E o σ st fun x aC=>mP m x aC/\bC C sub E es σ aC fun ds aG=>dZ m x ds aG Q
 |.ix a b,σ,st,Q=>aF C sub E a σ st fun x aC=>aF C sub E b σ aC fun y aG=>sG x y aG Q
 |.sl a lo hi,σ,st,Q=>aF C sub E a σ st fun x aC=>bC C sub E lo σ aC fun ls aG=>mY ls fun l=>bC C sub E hi σ aG fun hs aQ=>mY hs fun h=>yM x l h aQ Q
 |.bit f k es,σ,st,Q=>bC C sub E es σ st fun ds aC=>iJ (some k) ds aC fun _ xs=>cS f xs aC Q
 |.comp n aV tg one k aD ifs elt,σ,st,Q=>bC C sub E aD σ st fun ds aC=>iJ k ds aC fun as xs =>
  fD (same as aC) (fun x aG K=>iP one tg x (ao n none++aV.map fun i=>(σ[i]?).getD none) fun σ' =>
  eE C sub E ifs σ' aG fun b aQ=>if b=true then aF C sub E elt σ' aQ fun d bY=>K (some d) bY else K none aQ) xs [] aC fun ds dY=>fX ds dY Q
 |.dic _ _,_,_,_=>False
 |.fld c f o,σ,st,Q=>aF C sub E o σ st fun x aC=>HW c f x aC Q
 |.mk c f es,σ,st,Q=>bC C sub E es σ st fun ds aC=>∀ p,aC p=none->C f (.ref p::ds) (put aC p (.ins c [])) (fun d aG=>d=.non/\Q (.ref p) aG) (fun _ _=>False)
 |.mcl c m f o es,σ,st,Q=>aF C sub E o σ st fun x aC=>L7 c m x aC/\bC C sub E es σ aC fun ds aG=>C f (x::ds) aG Q (fun _ _=>False)
 |.mclx c m f o es,σ,st,Q=>aF C sub E o σ st fun x aC=>L7 c m x aC/\bC C sub E es σ aC fun ds aG=>C f (x::ds) aG Q E
 |.dnew,σ,st,Q=>∀ p,st p=none->Q (.ref p) (put st p (.tab [] []))
 |.d1 k v,σ,st,Q=>∀ p,st p=none->aF C sub E k σ (put st p (.tab [] [])) fun x aC=>aF C sub E v σ aC fun y aG=>JY x y (.ref p) aG fun aQ=>Q (.ref p) aQ
 |.din neg k d,σ,st,Q=>aF C sub E k σ st fun x aC=>aF C sub E d σ aC fun y aG=>FU x y aG fun b=>Q (.bl (if neg=true then !b else b)) aG
 |.dix d k,σ,st,Q=>aF C sub E d σ st fun y aC=>aF C sub E k σ aC fun x aG=>FY x y aG Q
def bC (C:aS)(sub:Nat->Nat->Bool)(E:XK):List Ex->St->aB->(List D->aB->Prop)->Prop
 |[],_,st,Q=>Q [] st
 |e::es,σ,st,Q=>aF C sub E e σ st fun d aA=>bC C sub E es σ aA fun ds aY=>Q (d::ds) aY
/-- all tests, one after another -/
def eE (C:aS)(sub:Nat->Nat->Bool)(E:XK):List Ex->St->aB->(Bool->aB->Prop)->Prop
 |[],_,st,Q=>Q true st
 |e::es,σ,st,Q=>aF C sub E e σ st fun d aA=>dJ d aA fun k=>if k=true then eE C sub E es σ aA Q else Q false aA
end
structure eB where
 nx:St->aB->Prop
 rt:D->aB->Prop
 bk:St->aB->Prop
 ct:St->aB->Prop
 ex:Nat->St->aB->Prop
def notRef:D->Prop
 |.ref _=>False
 |_=>True
def yY:D->D->D->aB->(aB->Prop)->Prop
 |.ref a,.int k,v,st,Q=>bW st a fun xs=>cP (mB xs.length k) fun j=>Q (put st a (.lst (xs.set j v)))
 |_,_,_,_,_=>False
def lR (C:aS)(sub:Nat->Nat->Bool)(E:XK):Tg->D->St->aB->(St->aB->Prop)->Prop
 |.nm i,d,σ,st,Q=>Q (σ.set i (some d)) st
 |.tp is,d,σ,st,Q=>iP false is d σ fun σ'=>Q σ' st
 |.ix o i,d,σ,st,Q=>aF C sub E o σ st fun x aC=>aF C sub E i σ aC fun y aG=>yY x y d aG fun aQ=>Q σ aQ
 |.fl c f o,d,σ,st,Q=>aF C sub E o σ st fun x aC=>OC c f d x aC fun aG=>Q σ aG
 |.dk o i,d,σ,st,Q=>aF C sub E o σ st fun x aC=>aF C sub E i σ aC fun y aG=>JY y d x aG fun aQ=>Q σ aQ
def vE (g:aB->Prop)(turn:D->(St->aB->Prop)->St->aB->Prop)(N:St->aB->Prop):List D->St->aB->Prop
 |[],σ,st=>g st/\N σ st
 |x::xs,σ,st=>g st/\turn x (vE g turn N xs) σ st
def nE (turn:(St->aB->Prop)->St->aB->Prop):Nat->St->aB->Prop
 |0,_,_=>False
 |n+1,σ,st=>turn (nE turn n) σ st
noncomputable def FQ (n:Option Nat)(o:Option D)(σ:St):St:=match n with
 |some i=>σ.set i o
 |none=>σ
noncomputable def GL (sub:Nat->Nat->Bool)(c:Nat)(n:Option Nat)(P:eB)(h:eB->St->aB->Prop):eB :=
 ⟨P.nx,P.rt,P.bk,P.ct,fun c' σ' aA=>if sub c' c=true then
 h ⟨fun σ2 aG=>P.nx (FQ n none σ2) aG,P.rt,fun _ _=>False,fun _ _=>False,fun _ _ _=>False⟩ (FQ n (some (.exc c')) σ') aA else P.ex c' σ' aA⟩
noncomputable def nD:aS:=fun _ _ _ _ _=>False
mutual
def wpS (C:aS)(sub:Nat->Nat->Bool):Sx->eB->St->aB->Prop
 |.ex e,P,σ,st=>aF C sub (fun c aA=>P.ex c σ aA) e σ st fun _ aA=>P.nx σ aA
 |.asg t e,P,σ,st=>aF C sub (fun c aA=>P.ex c σ aA) e σ st fun d aA=>lR C sub (fun c aA=>P.ex c σ aA) t d σ aA P.nx
 |.aug i op e,P,σ,st=>fK σ i fun x=>aF C sub (fun c aA=>P.ex c σ aA) e σ st fun y aA=>notRef x/\hV op x y aA fun d aY=>P.nx (σ.set i (some d)) aY
 |.iff c a b,P,σ,st=>aF C sub (fun c aA=>P.ex c σ aA) c σ st fun d aA=>dJ d aA fun k=>if k=true then bU C sub a P σ aA else bU C sub b P σ aA
 |.whl c b,P,σ,st=>∃ n,nE (fun next σ st=>aF C sub (fun c aA=>P.ex c σ aA) c σ st fun d aA=>dJ d aA fun k =>
  if k=true then bU C sub b { P with nx:=next,ct:=next,bk:=P.nx } σ aA else P.nx σ aA) n σ st
 |.kJ t k aD b,P,σ,st=>bC C sub (fun c aA=>P.ex c σ aA) aD σ st fun ds aC=>iJ k ds aC fun as xs=>vE (same as aC) (fun x next σ st=>lR C sub (fun c aA=>P.ex c σ aA) t x σ st fun σ' aA=>bU C sub b { P with nx:=next,ct:=next,bk:=P.nx } σ' aA) P.nx xs σ aC
 |.ret e,P,σ,st=>aF C sub (fun c aA=>P.ex c σ aA) e σ st P.rt
 |.brk,P,σ,st=>P.bk σ st
 |.cnt,P,σ,st=>P.ct σ st
 |.pass,P,σ,st=>P.nx σ st
 |.rais c es,P,σ,st=>bC C sub (fun c aA=>P.ex c σ aA) es σ st fun _ aA=>P.ex c σ aA
 |.tryy b c n h,P,σ,st=>bU C sub b (GL sub c n P fun P' σ' aA=>bU nD sub h P' σ' aA) σ st
def bU (C:aS)(sub:Nat->Nat->Bool):List Sx->eB->St->aB->Prop
 |[],P,σ,st=>P.nx σ st
 |s::ss,P,σ,st=>wpS C sub s { P with nx:=bU C sub ss P } σ st
end
noncomputable def start (np nl:Nat)(ds:List D):St:=ds.map some++ao (nl-np) none
noncomputable def aI (G:Prog):Nat->aS
 |0=>fun _ _ _ _ _=>False
 |k+1=>fun f ds st Q E=>match G.fns f with
 |none=>False
 |some fn=>ds.length=fn.np/\bU (aI G k) G.sub fn.body ⟨fun _ aA=>Q .non aA,Q,fun _ _=>False,fun _ _=>False,fun c _ aA=>E c aA⟩ (start fn.np fn.nl ds) st
theorem EA {σ:St}{i:Nat}{Q Q':D->Prop}(h:∀ d,Q d->Q' d):fK σ i Q->fK σ i Q':=by
 unfold fK;split
 ·exact h _
 ·exact id
theorem lW {st:aB}{a:Nat}{K K':List D->Prop}{M M':List D->List D->Prop}(h:∀ ds,K ds->K' ds)(h':∀ ks vs,M ks vs->M' ks vs):dW st a K M->dW st a K' M':=by
 unfold dW;split
 ·exact h _
 ·exact h' _ _
 ·exact id
theorem cZ {st:aB}{a:Nat}{K K':List D->Prop}(h:∀ ds,K ds->K' ds):bW st a K->bW st a K':=by
 unfold bW;split
 ·exact h _
 ·exact id
theorem dP {α:Type}{o:Option α}{K K':α->Prop}(h:∀ x,K x->K' x):cP o K->cP o K':=by
 unfold cP;split
 ·exact h _
 ·exact id
theorem iZ {d:D}{st:aB}{P P':Bool->Prop}(h:∀ b,P b->P' b):dJ d st P->dJ d st P':=by
 unfold dJ;split
 all_goals first|exact h _|exact id|exact(fun x=>⟨x.1,h _ x.2⟩)|exact lW (fun _=>h _) fun _ _=>h _
theorem kZ {ds:List D}{st:aB}{Q Q':VK}(h:∀ d st,Q d st->Q' d st):fX ds st Q->fX ds st Q':=fun x=>⟨x.1,fun p hp=>h _ _ (x.2 p hp)⟩
theorem DA {op:qT}{x y:D}{st:aB}{Q Q':VK}(h:∀ d st,Q d st->Q' d st):hV op x y st Q->hV op x y st Q':=by
 unfold hV
 split
 all_goals first|exact h _ _|exact id|exact(fun z=>⟨z.1,h _ _ z.2⟩)|exact cZ (fun _=>cZ fun _=>kZ h)|exact cZ (fun _ z=>⟨z.1,z.2.1,kZ h z.2.2⟩)
theorem QA {x:D}{st:aB}{Q Q':VK}(h:∀ d st,Q d st->Q' d st):vT x st Q->vT x st Q':=by
 unfold vT;split
 ·exact h _ _
 ·exact id
theorem HQ {x y:D}{st:aB}{P P':Bool->Prop}(h:∀ b,P b->P' b):TZ x y st P->TZ x y st P':=fun z=>⟨z.1,z.2.1,h _ z.2.2⟩
theorem GR {x y:D}{st:aB}{P P':Bool->Prop}(h:∀ b,P b->P' b):G3 x y st P->G3 x y st P':=by
 unfold G3
 split
 all_goals first|exact(fun z=>⟨z.1,z.2.1,h _ z.2.2⟩)|exact h _|exact id|exact lW (fun _ z=>⟨z.1,z.2.1,h _ z.2.2⟩) fun _ _ z=>⟨z.1,z.2.1,h _ z.2.2⟩
theorem qA {f:Int->Int->Bool}{x y:D}{P P':Bool->Prop}(h:∀ b,P b->P' b):sP f x y P->sP f x y P':=by
 unfold sP;split
 ·exact h _
 ·exact id
theorem HZ {x y:D}{P P':Bool->Prop}(h:∀ b,P b->P' b):AF x y P->AF x y P':=by
 unfold AF
 split
 all_goals first|exact h _|exact id
theorem vX {op:nF}{x y:D}{st:aB}{P P':Bool->Prop}(h:∀ b,P b->P' b):cO op x y st P->cO op x y st P':=by
 cases op
 ·exact HQ h
 ·exact HQ fun b=>h (!b)
 ·exact qA h
 ·exact qA h
 ·exact qA h
 ·exact qA h
 ·exact HZ h
 ·exact HZ fun b=>h (!b)
 ·exact GR h
 ·exact GR fun b=>h (!b)
theorem BJ {sub:Nat->Nat->Bool}{x:D}{st:aB}{t:Ty}{P P':Bool->Prop}(h:∀ b,P b->P' b):fS sub x st t P->fS sub x st t P':=by
 unfold fS
 split
 all_goals first|exact h _|exact id|exact lW (fun _=>h _) fun _ _=>h _
theorem DK {sub:Nat->Nat->Bool}{x:D}{st:aB}{P P':Bool->Prop}(h:∀ b,P b->P' b):∀{ts:List Ty},qK sub x st ts P->qK sub x st ts P'
 |[]=>id
 |[t]=>BJ h
 |t::u::ts=>by
  unfold qK
  refine BJ fun b=>?_
  split
  ·exact h _
  ·exact DK h
theorem RQ {x y:D}{st:aB}{Q Q':VK}(h:∀ d st,Q d st->Q' d st):sG x y st Q->sG x y st Q':=by
 unfold sG
 split
 all_goals first|exact id|exact dP (fun _=>h _ _)|exact(fun z=>⟨z.1,dP (fun _=>h _ _) z.2⟩)|exact(fun z=>⟨z.1,z.2.1,dP (fun _=>h _ _) z.2.2⟩)|skip
 refine lW (fun _=>?_) (fun _ _ z=>⟨z.1,z.2.1,dP (fun _=>h _ _) z.2.2⟩)
 split
 ·exact dP fun _=>h _ _
 ·exact id
theorem BC {ds:List D}{P P':Option Int->Prop}(h:∀ o,P o->P' o):mY ds P->mY ds P':=by
 unfold mY;split
 all_goals first|exact h _|exact id
theorem R4 {x:D}{lo hi:Option Int}{st:aB}{Q Q':VK}(h:∀ d st,Q d st->Q' d st):yM x lo hi st Q->yM x lo hi st Q':=by
 unfold yM
 split
 ·exact h _ _
 ·exact fun z=>⟨z.1,h _ _ z.2⟩
 ·exact cZ fun _ z p hp=>h _ _ (z p hp)
 ·exact id
theorem K8 {d:D}{st:aB}{K K':List Nat->List D->Prop}(h:∀ as xs,K as xs->K' as xs):mZ d st K->mZ d st K':=by
 unfold mZ
 split
 all_goals first|exact h _ _|exact id|exact(fun z=>⟨z.1,h _ _ z.2⟩)|exact cZ (fun _=>h _ _)
theorem vY {d:D}{st:aB}{K K':List Nat->List D->Prop}(h:∀ as xs,K as xs->K' as xs):fB d st K->fB d st K':=by
 unfold fB
 split
 all_goals first|exact h _ _|exact id|exact cZ (fun _=>h _ _)
theorem uX {k:Option IK}{ds:List D}{st:aB}{P P':List Nat->List D->Prop}(h:∀ as xs,P as xs->P' as xs):iJ k ds st P->iJ k ds st P':=by
 unfold iJ
 split
 ·exact K8 h
 ·exact fun z=>⟨z.1,h _ _ z.2⟩
 ·exact fun z=>⟨z.1,z.2.1,h _ _ z.2.2⟩
 ·exact fun z=>⟨z.1,z.2.1,z.2.2.1,h _ _ z.2.2.2⟩
 ·exact cZ fun _=>cZ fun _=>h _ _
 ·exact cZ fun _=>h _ _
 ·exact vY fun _ _=>h _ _
 ·exact id
theorem OD {d:D}{st:aB}{P P':Nat->Prop}(h:∀ n,P n->P' n):nQ d st P->nQ d st P':=by
 unfold nQ
 split
 all_goals first|exact h _|exact id|exact(fun z=>⟨z.1,h _ z.2⟩)|exact lW (fun _=>h _) fun _ _=>h _
theorem yB {f:BI}{xs:List D}{st:aB}{Q Q':VK}(h:∀ d st,Q d st->Q' d st):cS f xs st Q->cS f xs st Q':=by
 unfold cS
 split
 all_goals first|exact id|exact kZ h|exact(fun z=>⟨z.1,h _ _ z.2⟩)|exact dP (fun _=>h _ _)|skip
 all_goals refine dP fun is=>?_
 all_goals cases is
 all_goals first|exact id|exact h _ _
theorem Q3 {f:BI}{ds:List D}{st:aB}{Q Q':VK}(h:∀ d st,Q d st->Q' d st):fP f ds st Q->fP f ds st Q':=by
 unfold fP
 split
 all_goals first|exact id|exact h _ _|exact(fun z=>⟨z.1,h _ _ z.2⟩)|exact OD (fun _=>h _ _)|exact vY (fun _ _=>yB h)|exact dP (fun _ z=>⟨z.1,h _ _ z.2⟩)
theorem DU {d:D}{st:aB}{K K':List D->Prop}(h:∀ xs,K xs->K' xs):pF d st K->pF d st K':=by
 unfold pF
 split
 all_goals first|exact h _|exact id|exact cZ h
theorem MU {m:MT}{o:D}{ds:List D}{st:aB}{Q Q':VK}(h:∀ d st,Q d st->Q' d st):dZ m o ds st Q->dZ m o ds st Q':=by
 unfold dZ
 split
 ·exact cZ fun _ z=>⟨z.1,h _ _ z.2⟩
 ·exact cZ fun _=>DU fun _ z=>⟨z.1,h _ _ z.2⟩
 ·exact cZ fun _=>dP fun _=>h _ _
 ·exact DU fun _=>dP fun _ z=>⟨z.1,h _ _ z.2⟩
 ·exact fun z=>⟨z.1,h _ _ z.2⟩
 ·exact fun z=>⟨z.1,h _ _ z.2⟩
 ·exact fun z=>⟨z.1,kZ h z.2⟩
 ·exact fun z=>⟨z.1,h _ _ z.2⟩
 ·exact h _ _
 ·exact vY fun _ _ z=>⟨z.1,z.2.1,dP (fun _=>h _ _) z.2.2⟩
 ·exact id
theorem BA {one:Bool}{tg:List Nat}{x:D}{σ:St}{P P':St->Prop}(h:∀ σ,P σ->P' σ):iP one tg x σ P->iP one tg x σ P':=by
 unfold iP
 split
 ·exact h _
 ·exact fun z=>⟨z.1,h _ z.2⟩
 ·exact id
theorem AE {g:aB->Prop}{turn qC:D->aB->(Option D->aB->Prop)->Prop}{R R':List D->aB->Prop}
 (ht:∀ x st K K',(∀ o st,K o st->K' o st)->turn x st K->qC x st K')(h:∀ ds st,R ds st->R' ds st):∀{xs acc:List D}{st:aB},fD g turn xs acc st R->fD g qC xs acc st R'
 |[],_,_,z=>⟨z.1,h _ _ z.2⟩
 |_::_,_,_,z=>⟨z.1,z.2.1,ht _ _ _ _ (fun _ _ y=>AE ht h y) z.2.2⟩
theorem zY {st:aB}{a:Nat}{K K':List Nat->List (List Nat×D)->Prop}(h:∀ c fs,K c fs->K' c fs):xJ st a K->xJ st a K':=by
 unfold xJ;split
 ·exact h _ _
 ·exact id
theorem sS {st:aB}{a:Nat}{K K':List D->List D->Prop}(h:∀ c fs,K c fs->K' c fs):tabAt st a K->tabAt st a K':=by
 unfold tabAt;split
 ·exact h _ _
 ·exact id
theorem N0 {c f:List Nat}{x:D}{st:aB}{Q Q':VK}(h:∀ d st,Q d st->Q' d st):HW c f x st Q->HW c f x st Q':=by
 unfold HW;split
 ·exact zY fun _ _ z=>⟨z.1,dP (fun _=>h _ _) z.2⟩
 ·exact id
theorem SR {c f:List Nat}{v x:D}{st:aB}{Q Q':aB->Prop}(h:∀ st,Q st->Q' st):OC c f v x st Q->OC c f v x st Q':=by
 unfold OC;split
 ·exact zY fun _ _ z=>⟨z.1,z.2.1,h _ z.2.2⟩
 ·exact id
theorem NB {x y:D}{st:aB}{P P':Bool->Prop}(h:∀ b,P b->P' b):FU x y st P->FU x y st P':=by
 unfold FU;split
 ·exact sS fun _ _ z=>⟨z.1,h _ z.2⟩
 ·exact id
theorem OZ {x y:D}{st:aB}{Q Q':VK}(h:∀ d st,Q d st->Q' d st):FY x y st Q->FY x y st Q':=by
 unfold FY;split
 ·exact sS fun _ _ z=>⟨z.1,dP (fun _=>h _ _) z.2⟩
 ·exact id
theorem IQ {x v y:D}{st:aB}{Q Q':aB->Prop}(h:∀ st,Q st->Q' st):JY x v y st Q->JY x v y st Q':=by
 unfold JY;split
 ·exact sS fun _ _ z=>⟨z.1,z.2.1,z.2.2.1,h _ z.2.2.2⟩
 ·exact id
def bN (C C':aS):Prop:=∀ f ds st Q Q' E E',(∀ d st,Q d st->Q' d st)->(∀ c st,E c st->E' c st)->C f ds st Q E->C' f ds st Q' E'
mutual
theorem aP {C C':aS}{sub}{E E':XK}(hC:bN C C')(hE:∀ c st,E c st->E' c st):∀(e:Ex){σ:St}{st:aB}{Q Q':VK},(∀ d st,Q d st->Q' d st)->aF C sub E e σ st Q->aF C' sub E' e σ st Q'
 |.c d,σ,st,Q,Q',h=>by exact h _ _
 |.v i,σ,st,Q,Q',h=>by exact EA fun d=>h _ _
 |.tup es,σ,st,Q,Q',h=>by exact cE hC hE es fun _ _=>h _ _
 |.lst es,σ,st,Q,Q',h=>by exact cE hC hE es fun _ _=>kZ h
 |.bin op a b,σ,st,Q,Q',h=>by exact aP hC hE a fun _ _=>aP hC hE b fun _ _=>DA h
 |.neg a,σ,st,Q,Q',h=>by
  exact aP hC hE a fun _ _=>QA h
 |.cmp op a b,σ,st,Q,Q',h=>by exact aP hC hE a fun _ _=>aP hC hE b fun _ _=>vX fun _=>h _ _
 |.chain op op' a b c,σ,st,Q,Q',h=>by
  refine aP hC hE a fun _ _=>aP hC hE b fun _ _=>vX fun k=>?_
  split
  ·exact aP hC hE c fun _ _=>vX fun _=>h _ _
  ·exact h _ _
 |.and_ a b,σ,st,Q,Q',h=>by
  refine aP hC hE a fun _ _=>iZ fun k=>?_
  split
  ·exact aP hC hE b h
  ·exact h _ _
 |.or_ a b,σ,st,Q,Q',h=>by
  refine aP hC hE a fun _ _=>iZ fun k=>?_
  split
  ·exact h _ _
  ·exact aP hC hE b h
 |.not_ a,σ,st,Q,Q',h=>by exact aP hC hE a fun _ _=>iZ fun k=>h _ _
 |.ite c a b,σ,st,Q,Q',h=>by
  refine aP hC hE c fun _ _=>iZ fun k=>?_
  split
  ·exact aP hC hE a h
  ·exact aP hC hE b h
 |.call f es,σ,st,Q,Q',h=>by exact cE hC hE es fun _ _=>hC _ _ _ _ _ _ _ h (fun _ _ z=>z)
 |.callx f es,σ,st,Q,Q',h=>by exact cE hC hE es fun _ _=>hC _ _ _ _ _ _ _ h hE
 |.bi f es,σ,st,Q,Q',h=>by exact cE hC hE es fun _ _=>Q3 h
 |.isi a ts,σ,st,Q,Q',h=>by exact aP hC hE a fun _ _=>DK fun _=>h _ _
 |.bX m o es,σ,st,Q,Q',h=>by exact aP hC hE o fun _ _ z=>⟨z.1,cE hC hE es (fun _ _=>MU h) z.2⟩
 |.ix a b,σ,st,Q,Q',h=>by exact aP hC hE a fun _ _=>aP hC hE b fun _ _=>RQ h
 |.sl a lo hi,σ,st,Q,Q',h=>by exact aP hC hE a fun _ _=>cE hC hE lo fun _ _=>BC fun _=>cE hC hE hi fun _ _=>BC fun _=>R4 h
 |.bit f k es,σ,st,Q,Q',h=>by exact cE hC hE es fun _ _=>uX fun _ _=>yB h
 |.comp n aV tg one k aD ifs elt,σ,st,Q,Q',h=>by
  refine cE hC hE aD fun d aC=>uX fun as xs=>?_
  intro z
  refine AE (fun x st K K' hK=>?_) (fun _ _=>kZ h) z
  refine BA fun σ'=>DV hC hE ifs fun b st=>?_
  split
  ·exact aP hC hE elt fun _ _=>hK _ _
  ·exact hK _ _
 |.dic _ _,σ,st,Q,Q',h=>by exact id
 |.fld c f o,σ,st,Q,Q',h=>by exact aP hC hE o fun _ _=>N0 h
 |.mk c f es,σ,st,Q,Q',h=>by exact cE hC hE es fun _ _ z p hp=>hC _ _ _ _ _ _ _ (fun _ _ y=>⟨y.1,h _ _ y.2⟩) (fun _ _ z=>z) (z p hp)
 |.mcl c m f o es,σ,st,Q,Q',h=>by exact aP hC hE o fun _ _ z=>⟨z.1,cE hC hE es (fun _ _=>hC _ _ _ _ _ _ _ h (fun _ _ z=>z)) z.2⟩
 |.mclx c m f o es,σ,st,Q,Q',h=>by exact aP hC hE o fun _ _ z=>⟨z.1,cE hC hE es (fun _ _=>hC _ _ _ _ _ _ _ h hE) z.2⟩
 |.dnew,σ,st,Q,Q',h=>by exact fun z p hp=>h _ _ (z p hp)
 |.d1 k v,σ,st,Q,Q',h=>by exact fun z p hp=>aP hC hE k (fun _ _=>aP hC hE v fun _ _=>IQ fun _=>h _ _) (z p hp)
 |.din neg k d,σ,st,Q,Q',h=>by exact aP hC hE k fun _ _=>aP hC hE d fun _ _=>NB fun _=>h _ _
 |.dix d k,σ,st,Q,Q',h=>by exact aP hC hE d fun _ _=>aP hC hE k fun _ _=>OZ h
theorem cE {C C':aS}{sub}{E E':XK}(hC:bN C C')(hE:∀ c st,E c st->E' c st):∀(es:List Ex){σ:St}{st:aB}{Q Q':List D->aB->Prop},(∀ d st,Q d st->Q' d st)->bC C sub E es σ st Q->bC C' sub E' es σ st Q'
 |[],σ,st,Q,Q',h=>by exact h _ _
 |e::es,σ,st,Q,Q',h=>by exact aP hC hE e fun _ _=>cE hC hE es fun _ _=>h _ _
theorem DV {C C':aS}{sub}{E E':XK}(hC:bN C C')(hE:∀ c st,E c st->E' c st):∀(es:List Ex){σ:St}{st:aB}{Q Q':Bool->aB->Prop},(∀ d st,Q d st->Q' d st)->eE C sub E es σ st Q->eE C' sub E' es σ st Q'
 |[],σ,st,Q,Q',h=>by exact h _ _
 |e::es,σ,st,Q,Q',h=>by
  refine aP hC hE e fun _ _=>iZ fun k=>?_
  split
  ·exact DV hC hE es h
  ·exact h _ _
end
structure eB.Le (P P':eB):Prop where
 nx:∀ σ st,P.nx σ st->P'.nx σ st
 rt:∀ d st,P.rt d st->P'.rt d st
 bk:∀ σ st,P.bk σ st->P'.bk σ st
 ct:∀ σ st,P.ct σ st->P'.ct σ st
 ex:∀ c σ st,P.ex c σ st->P'.ex c σ st
theorem OW {o i v:D}{st:aB}{Q Q':aB->Prop}(h:∀ st,Q st->Q' st):yY o i v st Q->yY o i v st Q':=by
 unfold yY
 split
 ·exact cZ fun _=>dP fun _=>h _
 ·exact id
theorem sU {C C':aS}{sub}{E E':XK}(hC:bN C C')(hE:∀ c st,E c st->E' c st){d:D}{Q Q':St->aB->Prop}(h:∀ σ st,Q σ st->Q' σ st):∀(t:Tg){σ:St}{st:aB},lR C sub E t d σ st Q->lR C' sub E' t d σ st Q'
 |.nm i,_,_=>by exact h _ _
 |.tp is,_,_=>by exact BA fun _=>h _ _
 |.ix o i,_,_=>by exact aP hC hE o fun _ _=>aP hC hE i fun _ _=>OW fun _=>h _ _
 |.fl c f o,_,_=>by exact aP hC hE o fun _ _=>SR fun _=>h _ _
 |.dk o i,_,_=>by exact aP hC hE o fun _ _=>aP hC hE i fun _ _=>IQ fun _=>h _ _
theorem DY {g:aB->Prop}{turn qC:D->(St->aB->Prop)->St->aB->Prop}{N N':St->aB->Prop}
 (ht:∀ x M M' σ st,(∀ σ st,M σ st->M' σ st)->turn x M σ st->qC x M' σ st)(h:∀ σ st,N σ st->N' σ st):∀{xs:List D}{σ:St}{st:aB},vE g turn N xs σ st->vE g qC N' xs σ st
 |[],_,_,z=>⟨z.1,h _ _ z.2⟩
 |_::_,_,_,z=>⟨z.1,ht _ _ _ _ _ (fun _ _=>DY ht h) z.2⟩
theorem yK {turn qC:(St->aB->Prop)->St->aB->Prop}(ht:∀ M M' σ st,(∀ σ st,M σ st->M' σ st)->turn M σ st->qC M' σ st):∀{n:Nat}{σ:St}{st:aB},nE turn n σ st->nE qC n σ st
 |0,_,_,z=>z
 |n+1,_,_,z=>ht _ _ _ _ (fun _ _=>yK ht) z
theorem JK:bN nD nD:=fun _ _ _ _ _ _ _ _ _ x=>x
mutual
theorem wpS_mono {C C':aS}{sub}(hC:bN C C'):∀(s:Sx){P P':eB}{σ:St}{st:aB},P.Le P'->wpS C sub s P σ st->wpS C' sub s P' σ st
 |.ex e,P,P',σ,st,h=>by exact aP hC (fun _ _=>h.ex _ _ _) e fun _ _=>h.nx _ _
 |.asg t e,P,P',σ,st,h=>by exact aP hC (fun _ _=>h.ex _ _ _) e fun _ _=>sU hC (fun _ _=>h.ex _ _ _) h.nx t
 |.aug i op e,P,P',σ,st,h=>by
  exact EA fun x=>aP hC (fun _ _=>h.ex _ _ _) e fun _ _ z=>⟨z.1,DA (fun _ _=>h.nx _ _) z.2⟩
 |.iff c a b,P,P',σ,st,h=>by
  refine aP hC (fun _ _=>h.ex _ _ _) c fun _ _=>iZ fun k=>?_
  split
  ·exact iE hC a h
  ·exact iE hC b h
 |.whl c b,P,P',σ,st,h=>by
  rintro⟨n,z⟩
  refine⟨n,yK (fun M M' σ st hM=>aP hC (fun _ _=>h.ex _ _ _) c fun _ _=>iZ fun k=>?_) z⟩
  split
  ·exact iE hC b ⟨hM,h.rt,h.nx,hM,h.ex⟩
  ·exact h.nx _ _
 |.kJ t k aD b,P,P',σ,st,h=>by
  refine cE hC (fun _ _=>h.ex _ _ _) aD fun _ _=>uX fun as xs=>?_
  exact DY (fun x M M' σ st hM=>sU hC (fun _ _=>h.ex _ _ _) (fun _ _=>iE hC b (P:={ P with nx:=M,ct:=M,bk:=P.nx }) (P':={ P' with nx:=M',ct:=M',bk:=P'.nx }) ⟨hM,h.rt,h.nx,hM,h.ex⟩) t) h.nx
 |.ret e,P,P',σ,st,h=>by exact aP hC (fun _ _=>h.ex _ _ _) e h.rt
 |.brk,P,P',σ,st,h=>by exact h.bk _ _
 |.cnt,P,P',σ,st,h=>by exact h.ct _ _
 |.pass,P,P',σ,st,h=>by exact h.nx _ _
 |.rais c es,P,P',σ,st,h=>by exact cE hC (fun _ _=>h.ex _ _ _) es fun _ _=>h.ex _ _ _
 |.tryy b c n hh,P,P',σ,st,h=>by
  refine iE hC b ⟨h.nx,h.rt,h.bk,h.ct,fun c' σ st=>?_⟩
  show(if sub c' c=true then _ else _)->(if sub c' c=true then _ else _)
  split
  ·exact iE JK hh ⟨fun _ _=>h.nx _ _,h.rt,fun _ _=>id,fun _ _=>id,fun _ _ _=>id⟩
  ·exact h.ex _ _ _
theorem iE {C C':aS}{sub}(hC:bN C C'):∀(ss:List Sx){P P':eB}{σ:St}{st:aB},P.Le P'->bU C sub ss P σ st->bU C' sub ss P' σ st
 |[],P,P',σ,st,h=>by exact h.nx _ _
 |s::ss,P,P',σ,st,h=>by exact wpS_mono hC s ⟨fun _ _=>iE hC ss h,h.rt,h.bk,h.ct,h.ex⟩
end
theorem kX (G:Prog):∀{j k:Nat},j<=k->bN (aI G j) (aI G k)
 |0,k,_=>fun _ _ _ _ _ _ _ _ _ x=>x.elim
 |j+1,0,h=>by omega
 |j+1,k+1,h=>fun f ds st Q Q' E E' hQ hE=>by
  simp only[aI]
  split
  ·exact id
  ·have hj:j<=k:=by omega
   exact fun z=>⟨z.1,iE (kX G hj) _ (P:=⟨fun _ aA=>Q .non aA,Q,fun _ _=>False,fun _ _=>False,fun c _ aA=>E c aA⟩) (P':=⟨fun _ aA=>Q' .non aA,Q',fun _ _=>False,fun _ _=>False,fun c _ aA=>E' c aA⟩) ⟨fun _ _=>hQ _ _,hQ,fun _ _=>id,fun _ _=>id,fun _ _ _=>hE _ _⟩ z.2⟩
section
variable {C:aS}{sub:Nat->Nat->Bool}{E:XK}{σ:St}{st:aB}{Q:VK}{P:Bool->Prop}{e a b c:Ex}{es:List Ex}{x y:D}{i j:Int}{u v:List Nat}{ds xs ys ks vs:List D}{p q:Nat}{K:List D->Prop}{M:List D->List D->Prop}
theorem aL {R:eB}:bU C sub [] R σ st=R.nx σ st:=rfl
theorem P5 {R:eB}{s:Sx}{ss:List Sx}:bU C sub (s::ss) R σ st=wpS C sub s { R with nx:=bU C sub ss R } σ st:=rfl
theorem gA {R:eB}{s:Sx}{ss:List Sx}(h:wpS C sub s { R with nx:=bU C sub ss R } σ st):bU C sub (s::ss) R σ st:=h
theorem cN (h:st p=some (.lst ds)):dW st p K M=K ds:=by unfold dW;rw[h]
theorem aE (h:st p=some (.lst ds)):bW st p K=K ds:=by unfold bW;rw[h]
theorem aX {α:Type}{x:α}{K:α->Prop}:cP (some x) K=K x:=rfl
theorem P4 {α:Type}{K:α->Prop}:cP none K=False:=rfl
theorem ZD {d:D}{r:St}{R:D->Prop}:fK (some d::r) 0 R=R d:=rfl
theorem Co {o:Option D}{r:St}{n:Nat}{R:D->Prop}:fK (o::r) (n+1) R=fK r n R:=rfl
theorem bS {o:MO}:put st p o p=some o:=by unfold put;rw[if_pos rfl]
theorem cR {o:MO}(h:q≠p):put st p o q=st q:=by unfold put;rw[if_neg h]
theorem XO {o u:MO}(h:st p=none)(h':st q=some u):put st p o q=some u:=by
 rw[cR];exact h'
 intro e;rw[e,h]at h';cases h'
theorem VC {o u:MO}:put (put st p o) p u=put st p u:=by funext b;unfold put;split<;>rfl
theorem XH:dJ .non st P=P false:=rfl
theorem FD {k:Bool}:dJ (.bl k) st P=P k:=rfl
theorem VZ:dJ (.int i) st P=P (i != 0):=rfl
theorem XZ:dJ (.tup ds) st P=P (!ds.isEmpty):=rfl
theorem YJ:dJ (.ref p) st P=dW st p (fun ds=>P (!ds.isEmpty)) fun ks _=>P (!ks.isEmpty):=rfl
theorem Q6:dJ (.bD ds) st P=P (!ds.isEmpty):=rfl
theorem Dl:cO .eq x y st P=(plainS st x/\plainS st y/\P (bO st x y)):=rfl
theorem O7:cO .ne x y st P=(plainS st x/\plainS st y/\P (!bO st x y)):=rfl
theorem De:cO .lt (.int i) (.int j) st P=P (decide (i<j)):=rfl
theorem Dn:cO .le (.int i) (.int j) st P=P (decide (i<=j)):=rfl
theorem cmp_gt:cO .gt (.int i) (.int j) st P=P (decide (j<i)):=rfl
theorem ZV:cO .ge (.int i) (.int j) st P=P (decide (j<=i)):=rfl
theorem XY:cO .is_ x .non st P=P (EY x):=rfl
theorem VT {k:Bool}:cO .is_ x (.bl k) st P=P (SX k x):=rfl
theorem SG:cO .isnot x .non st P=P (!EY x):=rfl
theorem RK {k:Bool}:cO .isnot x (.bl k) st P=P (!SX k x):=rfl
theorem MP:cO .in_ x (.tup ds) st P=(plainS st x/\dR st ds/\P (ds.any fun d=>bO st d x)):=rfl
theorem L6:cO .in_ x (.ref p) st P=dW st p (fun ds=>plainS st x/\dR st ds/\P (ds.any fun d=>bO st d x)) fun ks _=>plain x/\oN ks/\P (ks.any fun d=>cK d x):=rfl
theorem JD {w:List Nat}:cO .in_ (.str w) (.cH ks vs) st P=P (ks.any fun d=>cK d (.str w)):=rfl
theorem MG:cO .in_ (.str u) (.str v) st P=P (occurs u v):=rfl
theorem JL:cO .gS x (.tup ds) st P=(plainS st x/\dR st ds/\P (!ds.any fun d=>bO st d x)):=rfl
theorem yL:cO .gS x (.ref p) st P=dW st p (fun ds=>plainS st x/\dR st ds/\P (!ds.any fun d=>bO st d x)) fun ks _=>plain x/\oN ks/\P (!ks.any fun d=>cK d x):=rfl
theorem FZ {w:List Nat}:cO .gS (.str w) (.cH ks vs) st P=P (!ks.any fun d=>cK d (.str w)):=rfl
theorem IZ:cO .gS (.str u) (.str v) st P=P (!occurs u v):=rfl
theorem add_int:hV .add (.int i) (.int j) st Q=Q (.int (i+j)) st:=rfl
theorem add_str:hV .add (.str u) (.str v) st Q=(u.length+v.length<=aK/\Q (.str (u++v)) st):=rfl
theorem UY:hV .add (.tup xs) (.tup ys) st Q=(xs.length+ys.length<=aK/\Q (.tup (xs++ys)) st):=rfl
theorem WW:hV .add (.ref p) (.ref q) st Q=bW st p fun xs=>bW st q fun ys=>fX (xs++ys) st Q:=rfl
theorem sub_int:hV .sub (.int i) (.int j) st Q=Q (.int (i-j)) st:=rfl
theorem mul_int:hV .mul (.int i) (.int j) st Q=((qQ i∨qQ j)/\Q (.int (i*j)) st):=rfl
theorem mul_str {z:List Nat}:hV .mul (.str z) (.int i) st Q=((z.length<=1000/\0<=i/\i<1000)/\Q (.str (ao i.toNat z).flatten) st):=rfl
theorem XC:hV .mul (.tup xs) (.int i) st Q=((0<xs.length/\xs.length<=1000/\1<=i/\i<1000)/\Q (.tup (ao i.toNat xs).flatten) st):=rfl
theorem R1:hV .fdiv (.int i) (.int j) st Q=((0<j/\j<1073741824)/\Q (.int (i / j)) st):=rfl
theorem mod_int:hV .mod (.int i) (.int j) st Q=(0<j/\Q (.int (i % j)) st):=rfl
theorem pow_int:hV .pow (.int i) (.int j) st Q=((0<=j/\j<=1000000/\i.natAbs<18446744073709551616)/\Q (.int (i ^ j.toNat)) st):=rfl
theorem neg_int:vT (.int i) st Q=Q (.int (-i)) st:=rfl
theorem WM {t:Ty}:qK sub x st [t] P=fS sub x st t P:=rfl
theorem UZ {t t':Ty}{ts:List Ty}:qK sub x st (t::t'::ts) P=fS sub x st t fun b=>if b=true then P true else qK sub x st (t'::ts) P:=rfl
theorem nK:sG (.tup ds) (.int i) st Q=cP (eJ ds i) fun d=>Q d st:=rfl
theorem J0:sG (.bD ds) (.int i) st Q=cP (eJ ds i) fun d=>Q d st:=rfl
theorem IB:sG (.str u) (.int i) st Q=(u.length<=aK/\cP (eJ u i) fun c=>Q (.str [c]) st):=rfl
theorem VW {w:List Nat}:sG (.cH ks vs) (.str w) st Q=cP (oE ks vs (.str w)) fun d=>Q d st:=rfl
theorem dE (h:st p=some (.lst ds)):sG (.ref p) (.int i) st Q=cP (eJ ds i) fun d=>Q d st:=by
 show dW st p _ _=_
 rw[cN h]
theorem iV {α:Type}{xs:List α}{n:Nat}(h:n<xs.length):eJ xs (n:Int)=xs[n]?:=by
 unfold eJ mB
 rw[if_pos (by omega),if_pos (by omega)]
 simp
theorem HD {α:Type}{x:α}{r:List α}:eJ (x::r) 0=some x:=iV (n:=0) (by simp)
theorem S0 {α:Type}{x y:α}{r:List α}:eJ (x::y::r) 1=some y:=iV (n:=1) (by simp)
theorem RJ {α:Type}{x y z:α}{r:List α}:eJ (x::y::z::r) 2=some z:=iV (n:=2) (by simp)
theorem Mi {α:Type}{x y z w:α}{r:List α}:eJ (x::y::z::w::r) 3=some w:=iV (n:=3) (by simp)
theorem Li {α:Type}{x y z w t:α}{r:List α}:eJ (x::y::z::w::t::r) 4=some t:=iV (n:=4) (by simp)
theorem Dr {R:Option Int->Prop}:mY [] R=R none:=rfl
theorem Cb {R:Option Int->Prop}:mY [.int i] R=R (some i):=rfl
theorem IJ {lo hi:Option Int}:yM (.tup ds) lo hi st Q=Q (.tup (cut ds lo hi)) st:=rfl
theorem Z6 {z:List Nat}{lo hi:Option Int}:yM (.str z) lo hi st Q=(z.length<=aK/\Q (.str (cut z lo hi)) st):=rfl
theorem ZT {lo hi:Option Int}:yM (.ref p) lo hi st Q=bW st p fun ds=>∀ p,st p=none->Q (.ref p) (put st p (.lst (cut ds lo hi))):=rfl
theorem Fz {α:Type}{d:α}{ds:List α}:cut (d::ds) (some 1) none=ds:=by simp [cut,bM]
theorem wZ {α:Type}{xs:List α}{lo hi:Option Int}:(cut xs lo hi).length<=xs.length:=by simp only[cut,jo,fk];omega
theorem W9 {R:List Nat->List D->Prop}:iJ none [x] st R=mZ x st R:=rfl
theorem RE {R:List Nat->List D->Prop}:mZ (.tup ds) st R=R [] ds:=rfl
theorem Q9 {R:List Nat->List D->Prop}:mZ (.str u) st R=(u.length<=aK/\R [] (u.map fun c=>.str [c])):=rfl
theorem S3 {R:List Nat->List D->Prop}:mZ (.ref p) st R=bW st p fun ds=>R [p] ds:=rfl
theorem PR {R:List Nat->List D->Prop}:mZ (.bD ds) st R=R [] ds:=rfl
theorem U6 {R:List Nat->List D->Prop}:fB (.tup ds) st R=R [] ds:=rfl
theorem YG {R:List Nat->List D->Prop}:fB (.ref p) st R=bW st p fun ds=>R [p] ds:=rfl
theorem QL {R:List Nat->List D->Prop}:fB (.bD ds) st R=R [] ds:=rfl
theorem MV {R:List Nat->List D->Prop}:iJ (some .range) [.int j] st R=(fN j/\R [] (iB 0 j.toNat)):=rfl
theorem MI {R:List Nat->List D->Prop}:iJ (some .range) [.int i,.int j] st R=(fN i/\fN j/\R [] (iB i (j-i).toNat)):=rfl
theorem WH {R:List Nat->List D->Prop}:iJ (some .rev) [x] st R=fB x st fun as xs=>R as xs.reverse:=rfl
theorem PM:fP .len [x] st Q=nQ x st fun n=>Q (.int (n:Nat)) st:=rfl
theorem XW {R:Nat->Prop}:nQ (.tup ds) st R=R ds.length:=rfl
theorem GV {R:Nat->Prop}:nQ (.bD ds) st R=R ds.length:=rfl
theorem len_str {R:Nat->Prop}:nQ (.str u) st R=(u.length<=aK/\R u.length):=rfl
theorem WG {R:Nat->Prop}:nQ (.ref p) st R=dW st p (fun ds=>R ds.length) fun ks _=>R ks.length:=rfl
theorem O1:fP .all [x] st Q=fB x st fun _ xs=>cS .all xs st Q:=rfl
theorem NN:fP .any [x] st Q=fB x st fun _ xs=>cS .any xs st Q:=rfl
theorem Bu:fP .max [x] st Q=fB x st fun _ xs=>cS .max xs st Q:=by cases x<;>rfl
theorem YX:fP .min [x] st Q=fB x st fun _ xs=>cS .min xs st Q:=by cases x<;>rfl
theorem Ay:fP .sum [x] st Q=fB x st fun _ xs=>cS .sum xs st Q:=by cases x<;>rfl
theorem KG:fP .list [x] st Q=fB x st fun _ xs=>cS .list xs st Q:=rfl
theorem HY:fP .tuple [x] st Q=fB x st fun _ xs=>cS .tuple xs st Q:=rfl
theorem DS {ds:List D}:fP .pN [.tup ds] st Q=cP (strsOf ds) fun ws=>ws.length<4000/\Q (.int (uT [] ws:Nat)) st:=rfl
theorem WJ:fP .max [.int i,.int j] st Q=Q (.int (if j>i then j else i)) st:=rfl
theorem Ad:fP .int [.int i] st Q=Q (.int i) st:=rfl
theorem WU {k:Bool}:fP .int [.bl k] st Q=Q (.int (if k then 1 else 0)) st:=rfl
theorem Ck:cS .all xs st Q=cP (boolsOf xs) fun bs=>Q (.bl (bs.all id)) st:=rfl
theorem Cf:cS .any xs st Q=cP (boolsOf xs) fun bs=>Q (.bl (bs.any id)) st:=rfl
theorem YN:cS .sum xs st Q=cP (intsOf xs) fun is=>Q (.int is.sum) st:=rfl
theorem VQ:cS .list xs st Q=fX xs st Q:=rfl
theorem RW:cS .tuple xs st Q=(xs.length<=aK/\Q (.tup xs) st):=rfl
theorem YM:pF (.tup ds) st K=K ds:=rfl
theorem J8:pF (.ref p) st K=bW st p K:=rfl
theorem LU:mP .append (.ref p) st=bW st p fun _=>True:=rfl
theorem K7:mP .extend (.ref p) st=bW st p fun _=>True:=rfl
theorem X8:mP .pop (.ref p) st=bW st p fun _=>True:=rfl
theorem QR {z:List Nat}:mP .join (.str z) st=True:=rfl
theorem CH {z:List Nat}:mP .startswith (.str z) st=True:=rfl
theorem G2 {z:List Nat}:mP .endswith (.str z) st=True:=rfl
theorem OB {z:List Nat}:mP .split (.str z) st=True:=rfl
theorem EH {z:List Nat}:mP .partition (.str z) st=True:=rfl
theorem JU {z w:List Nat}:dZ .endswith (.str z) [.str w] st Q=(z.length<=aK/\Q (.bl (w.isSuffixOf z)) st):=rfl
theorem oV {z:List Nat}{c:Nat}:dZ .split (.str z) [.str [c]] st Q=(z.length<aK/\fX ((aW c z).map .str) st Q):=rfl
theorem FX {z:List Nat}{c:Nat}:dZ .partition (.str z) [.str [c]] st Q=(z.length<=aK/\Q (.tup [.str (part c z).1,.str (if z.any (·== c)=true then[c]else[]),.str (part c z).2]) st):=rfl
theorem OU {i:Int}:fP .str [.int i] st Q=((0<=i/\i<1000000)/\Q (.str (dg i.toNat)) st):=rfl
theorem W4 {w:List Nat}:fP .int [.str w] st Q=((1<=w.length/\w.length<=6/\w.all lV=true)/\Q (.int (val w:Nat)) st):=rfl
theorem YF {ks vs:List D}:mP .get (.cH ks vs) st=True:=rfl
theorem U3 {s:List Nat}{d:D}:dZ .join (.str s) [d] st Q=pF d st fun ds=>cP (strsOf ds) fun ws=>(ws.map jk).sum+ws.length*s.length<=aK/\Q (.str (cY s ws)) st:=rfl
theorem EJ {z w:List Nat}{i:Int}:dZ .startswith (.str z) [.str w,.int i] st Q=((z.length<=aK/\0<=i/\i<=z.length)/\Q (.bl (w.isPrefixOf (z.drop i.toNat))) st):=rfl
theorem Be {ks vs:List D}{w:List Nat}:dZ .get (.cH ks vs) [.str w] st Q=Q ((oE ks vs (.str w)).getD .non) st:=rfl
theorem nH:dZ .append (.ref p) [x] st Q=bW st p fun xs=>xs.length<aK/\Q .non (put st p (.lst (xs++[x]))):=rfl
theorem uY:dZ .extend (.ref p) [x] st Q=bW st p fun xs=>pF x st fun ys=>xs.length+ys.length<=aK/\Q .non (put st p (.lst (xs++ys))):=rfl
theorem G7:dZ .pop (.ref p) [] st Q=bW st p fun xs=>cP (xs[xs.length-1]?) fun d=>Q d (put st p (.lst xs.dropLast)):=rfl
theorem J9 {R:aB->Prop}:yY (.ref p) (.int i) x st R=bW st p fun xs=>cP (mB xs.length i) fun j=>R (put st p (.lst (xs.set j x))):=rfl
theorem Cq {n:Nat}{R:St->Prop}:iP true [n] x σ R=R (σ.set n (some x)):=rfl
theorem M8 {is:List Nat}{R:St->Prop}:iP false is (.tup ds) σ R=(ds.length=is.length/\R ((is.zip ds).foldl (fun σ p=>σ.set p.1 (some p.2)) σ)):=by cases is<;>rfl
end
theorem Ext.refl {st:aB}:Ext st st:=fun _ _ h=>h
theorem Ext.trans {a b c:aB}(h:Ext a b)(h':Ext b c):Ext a c:=fun x o e=>h' x o (h x o e)
theorem Ext.new {st:aB}{p:Nat}{o:MO}(h:st p=none):Ext st (put st p o):=fun a u e=>XO h e
theorem GS {st aA:aB}:same [] st aA:=fun _ h=>nomatch h
theorem comp_map {g:aB->Prop}{turn:D->aB->(Option D->aB->Prop)->Prop}{R:List D->aB->Prop}(f:D->D):∀(xs acc:List D)(st:aB),
  (∀ aA,Ext st aA->g aA)->(∀ x∈xs,∀ aA (K:Option D->aB->Prop),Ext st aA->(∀ aY,Ext aA aY->K (some (f x)) aY)->turn x aA K) ->
  acc.length+xs.length<=aK->(∀ aA,Ext st aA->R (acc++xs.map f) aA)->fD g turn xs acc st R
 |[],acc,st,hg,_,_,hR=>⟨hg st .refl,by simpa using hR st .refl⟩
 |x::xs,acc,st,hg,ht,hl,hR=>by
  refine⟨hg st .refl,by simp at hl;omega,ht x (by simp) st _ .refl fun aY h''=>?_⟩
  refine comp_map f xs (acc++[f x]) aY (fun aA h=>hg aA (h''.trans h)) (fun y hy aA K h=>ht y (by simp [hy]) aA K (h''.trans h)) (by simp at hl ⊢;omega) fun aA h=>?_
  simpa using hR aA (h''.trans h)
mutual
theorem sX {st:aB}:∀ d:D,bB d=true->gQ st d=true
 |.non,_=>rfl
 |.bl _,_=>rfl
 |.int _,_=>rfl
 |.str _,_=>rfl
 |.tup ds,h=>by simp only[bB]at h;simp only[gQ];exact kY ds h
 |.ref _,h=>by simp [bB]at h
 |.cH _ _,h=>by simp [bB]at h
 |.bD _,h=>by simp [bB]at h
 |.exc _,h=>by simp [bB]at h
theorem kY {st:aB}:∀ ds:List D,bF ds=true->hJ st ds=true
 |[],_=>rfl
 |d::ds,h=>by
  simp only[bF,ay]at h
  simp only[hJ,ay]
  exact⟨sX d h.1,kY ds h.2⟩
end
theorem plain.s {d:D}(h:plain d){st:aB}:plainS st d:=⟨sX d h.1,h.2⟩
theorem oN.s {ds:List D}(h:oN ds){st:aB}:dR st ds:=⟨kY ds h.1,h.2⟩
theorem D2 {x:List Nat}:plain (.str x):=⟨rfl,dj _⟩
theorem DC {i:Int}:plain (.int i):=⟨rfl,dj _⟩
theorem HB {b:Bool}:plain (.bl b):=⟨rfl,dj _⟩
theorem DI:plain .non:=⟨rfl,dj _⟩
theorem AA {x:List Nat}{st:aB}:plainS st (.str x):=D2.s
theorem MW {i:Int}{st:aB}:plainS st (.int i):=DC.s
theorem QK {b:Bool}{st:aB}:plainS st (.bl b):=HB.s
theorem sO {st:aB}:plainS st .non:=DI.s
theorem jN:∀ xs:List (List Nat),oN (xs.map .str)
 |[]=>⟨rfl,dj _⟩
 |x::xs=>by
  have h:=jN xs
  exact⟨by simp only[az,bF,bB,g5];exact h.1,by simp only[az,cF,dF];exact Nat.max_le.mpr ⟨Nat.zero_le _,h.2⟩⟩
theorem iS {st:aB}{x y:List Nat}:bO st (.str x) (.str y)=(x==y):=by simp only[bO]
theorem V9 {st:aB}{x y:Int}:bO st (.int x) (.int y)=(x==y):=by simp only[bO]
theorem Bl {st:aB}{x y:Bool}:bO st (.bl x) (.bl y)=(x==y):=by simp only[bO]
theorem WA {x y:List Nat}:cK (.str x) (.str y)=(x==y):=by simp only[cK]
theorem HA {st:aB}(x:List Nat):∀ xs:List (List Nat),((xs.map D.str).any fun d=>bO st d (.str x))=xs.contains x
 |[]=>rfl
 |y::xs=>by
  simp only[az,j7,iS,HA x xs,kj]
  congr 1
  exact Bool.beq_comm
end L3
end
section
namespace L3
open PySem PySem.Spec PyProof.Rows L2
mutual
noncomputable def TY (w:cq):D->Int
 |.str x=>hashStr w ⟨x.toArray⟩
 |.bl b=>reduceHash (if b=true then 1 else 0)
 |.tup ds=>reduceHash (Builtin.Tuple.tupleHashOf (PQ w ds))
 |_=>0
noncomputable def PQ (w:cq):List D->List Int
 |[]=>[]
 |d::ds=>TY w d::PQ w ds
end
noncomputable def Me (w:cq)(x:D×Addr×Value):DictEntry:=⟨TY w x.1,.ref x.2.1,x.2.2⟩
def Jb (a:Addr)(xs:List (D×Addr×Value))(w:cq)(h:Heap):Prop:=∃ o es ep,h.get? a=some o/\o.ExactDict/\o.data=.dict es ep/\es.toList=xs.map (Me w)
noncomputable def Lr (a:Addr)(xs:List (D×Addr×Value)):HO:=.ext fun _ w h=>Jb a xs w h
def clsAt (K:ae)(c:List Nat)(C:Addr):Prop:=fv K br ⟨c.toArray⟩=some (some (.ref C))
theorem clsAt.inj {K:ae}{c:List Nat}{C C':Addr}(h:clsAt K c C)(h':clsAt K c C'):C=C':=by
 have:=h.symm.trans h'
 injection this with e;injection e with e;injection e
def mR (K:ae)(H:Hp)(a:Addr)(vs:List V):Prop :=
 (∃ o,H a=some (.frz o (.lst vs)))∨∃(o:Obj)(aD:Array Value)(n:Nat),K.lookup a=some o/\o.cls=.type "list" /\ o.dict=none/\o.data=.seq aD n/\aD.size<=sizeLine/\aR vs aD.toList
theorem mR.sq {K:ae}{H:Hp}{a:Addr}{vs:List V}:mR K H a vs->dS K H a vs
 |.inl ⟨o,h⟩=>.inl (.inr ⟨o,h⟩)
 |.inr h=>.inr h
noncomputable def pV:zv->D
 |.bool b=>.bl b
 |.int i=>.int i
 |.str x=>.str x.cps.toList
 |_=>.non
noncomputable def mT:zv->Bool
 |.none=>true
 |.bool _=>true
 |.int _=>true
 |.str _=>true
 |_=>false
def Z3 (K:ae)(a:Addr)(ks vs:List D):Prop:=∃ T:List (Str×PyData),vq r9 (fun b=>K.lookup b) a T=true/\(T.all fun p=>mT p.2)=true/\ks=T.map (fun p=>.str p.1.cps.toList)/\vs=T.map (fun p=>pV p.2)
mutual
inductive Rep (K:ae)(H:Hp):D->V->Prop where
 |non:Rep K H .non .non
 |bl (b:Bool):Rep K H (.bl b) (.bl b)
 |int (i:Int):Rep K H (.int i) (.int i)
 |str (x:List Nat):Rep K H (.str x) (.str ⟨x.toArray⟩)
 |tup {ds:List D}{a:Addr}{vs:List V}(h:eG K H a vs)(r:aJ K H ds vs):Rep K H (.tup ds) (.ref a)
 |ref (a:Addr):Rep K H (.ref a) (.ref a)
 |bD {ds:List D}{a:Addr}{vs:List V}(h:mR K H a vs)(r:aJ K H ds vs):Rep K H (.bD ds) (.ref a)
 |cH {ks vs:List D}{a:Addr}(h:Z3 K a ks vs):Rep K H (.cH ks vs) (.ref a)
inductive aJ (K:ae)(H:Hp):List D->List V->Prop where
 |nil:aJ K H [] []
 |cons {d:D}{v:V}{ds:List D}{vs:List V}(h:Rep K H d v)(r:aJ K H ds vs):aJ K H (d::ds) (v::vs)
end
def Fu (K:ae)(H:Hp)(fs:List (List Nat×D))(ws:List (Str×V)):Prop:=ws.map (·.1)=fs.map (fun p=>(⟨p.1.toArray⟩:Str))/\aJ K H (fs.map (·.2)) (ws.map (·.2))
noncomputable def bears:HO->Bool
 |.lst _=>true
 |.ins _ _ _=>true
 |.ext _=>true
 |_=>false
def BW (K:ae)(H:Hp)(a:Addr):MO->Prop
 |.lst ds=>∃ vs,H a=some (.lst vs)/\aJ K H ds vs
 |.dic _ _=>False
 |.ins c fs=>∃ C dx ws,clsAt K c C/\H a=some (.ins C dx ws)/\Fu K H fs ws
 |.tab ks vs=>∃(xs:List (D×Addr×Value))(ws:List V),H a=some (Lr a xs)/\(a==ue)=false/\xs.map (·.1)=ks/\(xs.map (·.1)).Nodup/\aJ K H ks (xs.map fun x=>.ref x.2.1)/\(∀ x∈xs,keyed x.1)/\aR ws (xs.map (·.2.2))/\aJ K H vs ws
def aN (K:ae)(st:aB)(H:Hp):Prop:=∀ a o,st a=some o->BW K H a o
def Step (H:Hp)(st:aB)(H':Hp)(aA:aB):Prop:=∀ a o,H a=some o->st a=none->H' a=some o/\aA a=none
theorem Step.refl {H:Hp}{st:aB}:Step H st H st:=fun _ _ h n=>⟨h,n⟩
theorem Step.trans {H H1 H2:Hp}{st aC aG:aB}(a:Step H st H1 aC)(b:Step H1 aC H2 aG):Step H st H2 aG:=fun x o h n=>let⟨h1,n1⟩:=a x o h n;b x o h1 n1
section
variable {K:ae}{H H' H1:Hp}{st aA aC:aB}{a p:Addr}{d:D}{v:V}{ds:List D}{vs:List V}
theorem BW.bears {m:MO}(h:BW K H a m):∃ o,H a=some o/\L3.bears o=true:=by
 cases m with
 |lst ds=>obtain⟨vs,q,_⟩:=h;exact⟨_,q,rfl⟩
 |dic _ _=>exact h.elim
 |ins c fs=>obtain⟨_,_,_,_,q,_⟩:=h;exact⟨_,q,rfl⟩
 |tab ks vs=>obtain⟨_,_,q,_⟩:=h;exact⟨_,q,rfl⟩
theorem aN.IE (ok:aN K st H){o:HO}(h:H a=some o)(n:L3.bears o=false):st a=none:=by
 cases e:st a with
 |none=>rfl
 |some u =>
 obtain⟨o',e1,e2⟩:=(ok a u e).bears
 rw[h]at e1;cases e1
 rw[n]at e2;cases e2
theorem aN.fresh (ok:aN K st H)(h:H a=none):st a=none:=by
 cases e:st a with
 |none=>rfl
 |some u =>
 obtain⟨o',e1,e2⟩:=(ok a u e).bears
 rw[h]at e1;cases e1
theorem tD (ok:aN K st H)(s:Step H st H' aA)(h:eG K H a vs):eG K H' a vs:=by
 rcases h with(h|⟨o,h⟩)|h
 ·exact .inl (.inl (s a _ h (ok.IE h rfl)).1)
 ·exact .inl (.inr ⟨o,(s a _ h (ok.IE h rfl)).1⟩)
 ·exact .inr h
theorem pT (ok:aN K st H)(s:Step H st H' aA)(h:mR K H a vs):mR K H' a vs:=by
 rcases h with⟨o,h⟩|h
 ·exact .inl ⟨o,(s a _ h (ok.IE h rfl)).1⟩
 ·exact .inr h
mutual
theorem Rep.step (ok:aN K st H)(s:Step H st H' aA):∀{d:D}{v:V},Rep K H d v->Rep K H' d v
 |_,_,.non=>.non
 |_,_,.bl b=>.bl b
 |_,_,.int i=>.int i
 |_,_,.str x=>.str x
 |_,_,.tup h r=>.tup (tD ok s h) (aJ.step ok s r)
 |_,_,.ref a=>.ref a
 |_,_,.bD h r=>.bD (pT ok s h) (aJ.step ok s r)
 |_,_,.cH h=>.cH h
theorem aJ.step (ok:aN K st H)(s:Step H st H' aA):∀{ds:List D}{vs:List V},aJ K H ds vs->aJ K H' ds vs
 |_,_,.nil=>.nil
 |_,_,.cons h r=>.cons (Rep.step ok s h) (aJ.step ok s r)
end
theorem BW.step (ok:aN K st H)(s:Step H st H' aA){m:MO}(h:BW K H a m)(e:H' a=H a):BW K H' a m:=by
 cases m with
 |lst ds=>obtain⟨vs,q,r⟩:=h;exact⟨vs,e.trans q,r.step ok s⟩
 |dic _ _=>exact h
 |ins c fs=>obtain⟨C,dx,ws,q,q2,q3,r⟩:=h;exact⟨C,dx,ws,q,e.trans q2,q3,r.step ok s⟩
 |tab ks vs=>obtain⟨xs,ws,q,q0,q1,q2,q3,q4,q5,r⟩:=h;exact⟨xs,ws,e.trans q,q0,q1,q2,q3.step ok s,q4,q5,r.step ok s⟩
theorem aJ.length:∀{ds:List D}{vs:List V},aJ K H ds vs->ds.length=vs.length
 |_,_,.nil=>rfl
 |_,_,.cons _ r=>by simp [aJ.length r]
theorem aJ.get:∀{ds:List D}{vs:List V}{i:Nat}{d:D},aJ K H ds vs->ds[i]? = some d->∃ v,vs[i]? = some v/\Rep K H d v
 |_,_,_,_,.nil,e=>by simp at e
 |_,_,0,_,.cons h _,e=>by simp at e;subst e;exact⟨_,rfl,h⟩
 |_,_,i+1,d,.cons _ r,e=>by
  obtain⟨v,e1,e2⟩:=aJ.get (i:=i) (d:=d) r (by simpa using e)
  exact⟨v,by simpa using e1,e2⟩
theorem aJ.append:∀{ds es:List D}{vs us:List V},aJ K H ds vs->aJ K H es us->aJ K H (ds++es) (vs++us)
 |_,_,_,_,.nil,s=>s
 |_,_,_,_,.cons h r,s=>.cons h (aJ.append r s)
theorem aJ.take:∀{ds:List D}{vs:List V}(n:Nat),aJ K H ds vs->aJ K H (ds.take n) (vs.take n)
 |_,_,0,_=>by simp;exact .nil
 |_,_,_+1,.nil=>by simp;exact .nil
 |_,_,n+1,.cons h r=>by simp only[List.take_succ_cons];exact .cons h (aJ.take n r)
theorem aJ.drop:∀{ds:List D}{vs:List V}(n:Nat),aJ K H ds vs->aJ K H (ds.drop n) (vs.drop n)
 |_,_,0,r=>by simpa using r
 |_,_,_+1,.nil=>by simp;exact .nil
 |_,_,n+1,.cons _ r=>by simp only[wt];exact aJ.drop n r
theorem aJ.set (h:Rep K H d v):∀{ds:List D}{vs:List V}(i:Nat),aJ K H ds vs->aJ K H (ds.set i d) (vs.set i v)
 |_,_,_,.nil=>by simp;exact .nil
 |_,_,0,.cons _ r=>by simp only[cv];exact .cons h r
 |_,_,i+1,.cons q r=>by simp only[df];exact .cons q (aJ.set h i r)
theorem aJ.dropLast {ds:List D}{vs:List V}(r:aJ K H ds vs):aJ K H ds.dropLast vs.dropLast:=by
 rw[nz,nz,r.length]
 exact r.take _
theorem aJ.reverse:∀{ds:List D}{vs:List V},aJ K H ds vs->aJ K H ds.reverse vs.reverse
 |_,_,.nil=>by simp;exact .nil
 |_,_,.cons h r=>by simp only[kz];exact(aJ.reverse r).append (.cons h .nil)
inductive QD (K:ae)(H:Hp)(st:aB)(R:VK)(v:V)(H':Hp):Prop where
 |mk (d:D)(aA:aB)(s:Step H st H' aA)(ok:aN K aA H')(r:Rep K H' d v)(q:R d aA):QD K H st R v H'
inductive Ka (K:ae)(H:Hp)(st:aB)(R:List D->aB->Prop)(vs:List V)(H':Hp):Prop where
 |mk (ds:List D)(aA:aB)(s:Step H st H' aA)(ok:aN K aA H')(r:aJ K H' ds vs)(q:R ds aA):Ka K H st R vs H'
inductive QX (K:ae)(H:Hp)(st:aB)(R:aB->Prop)(H':Hp):Prop where
 |mk (aA:aB)(s:Step H st H' aA)(ok:aN K aA H')(q:R aA):QX K H st R H'
theorem QD.here {R:VK}(ok:aN K st H)(r:Rep K H d v)(h:R d st):QD K H st R v H:=⟨d,st,.refl,ok,r,h⟩
theorem QD.after {R:VK}(s:Step H st H1 aC)(h:QD K H1 aC R v H'):QD K H st R v H':=let⟨d,aA,s',ok,r,q⟩:=h;⟨d,aA,s.trans s',ok,r,q⟩
theorem mU {o:HO}(hp:H p=none):Step H st (upd H p o) st:=fun a u h n=>by
 have e:a≠p:=fun e=>by rw[e,hp]at h;cases h
 exact⟨by rw[aZ e];exact h,n⟩
theorem C2 {o:HO}{m:MO}(hp:H p=none):Step H st (upd H p o) (put st p m):=fun a u h n=>by
 have e:a≠p:=fun e=>by rw[e,hp]at h;cases h
 exact⟨by rw[aZ e];exact h,by rw[cR e];exact n⟩
theorem aN.new {o:HO}(ok:aN K st H)(hp:H p=none):aN K st (upd H p o):=fun a u e=>by
 have ne:a≠p:=fun z=>by obtain⟨o',q,_⟩:=(ok a u e).bears;rw[z,hp]at q;cases q
 exact(ok a u e).step ok (mU (st:=st) hp) (aZ ne)
theorem aN.fX (ok:aN K st H)(hp:H p=none)(r:aJ K H ds vs):aN K (put st p (.lst ds)) (upd H p (.lst vs)):=fun a u e=>by
 have s:Step H st (upd H p (.lst vs)) (put st p (.lst ds)):=C2 hp
 by_cases ha:a=p
 ·subst ha
  rw[bS]at e;cases e
  exact⟨vs,dH,r.step ok s⟩
 ·rw[cR ha]at e
  exact(ok a u e).step ok s (aZ ha)
theorem QD.CJ {R:VK}(ok:aN K st H)(r:aJ K H ds vs)(hp:H p=none)(h:R (.tup ds) st):QD K H st R (.ref p) (upd H p (.tup vs)) :=
 ⟨.tup ds,st,mU hp,ok.new hp,.tup (eG.of dH) (r.step ok (mU (st:=st) hp)),h⟩
theorem QD.fX {R:VK}(ok:aN K st H)(r:aJ K H ds vs)(hp:H p=none)(h:∀ p,st p=none->R (.ref p) (put st p (.lst ds))):QD K H st R (.ref p) (upd H p (.lst vs)) :=
 ⟨.ref p,put st p (.lst ds),C2 hp,ok.fX hp r,.ref p,h p (ok.fresh hp)⟩
theorem aN.lst (ok:aN K st H)(h:st a=some (.lst ds)):∃ vs,H a=some (.lst vs)/\aJ K H ds vs:=ok a _ h
theorem sJ {o:HO}{m m':MO}(h:st a=some m):Step H st (upd H a o) (put st a m'):=fun b u hb n=>by
 have e:b≠a:=fun e=>by rw[e,h]at n;cases n
 exact⟨by rw[aZ e];exact hb,by rw[cR e];exact n⟩
theorem aN.set (ok:aN K st H){m:MO}(h:st a=some m)(r:aJ K H ds vs):aN K (put st a (.lst ds)) (upd H a (.lst vs)):=fun b u e=>by
 have s:Step H st (upd H a (.lst vs)) (put st a (.lst ds)):=sJ h
 by_cases ha:b=a
 ·subst ha
  rw[bS]at e;cases e
  exact⟨vs,dH,r.step ok s⟩
 ·rw[cR ha]at e
  exact(ok b u e).step ok s (aZ ha)
theorem QD.set {R:VK}(ok:aN K st H){m:MO}(h:st a=some m)(r:aJ K H ds vs)(rd:Rep K H d v)(q:R d (put st a (.lst ds))):QD K H st R v (upd H a (.lst vs)) :=
 ⟨d,put st a (.lst ds),sJ h,ok.set h r,rd.step ok (sJ (m':=.lst ds) h),q⟩
end
def bZ (K:ae)(H:Hp)(σd:St)(σ:L2.St):Prop:=σd.length=σ.length/\∀(i:Nat)(d:D),σd[i]? = some (some d)->∃ v,σ[i]? = some (some v)/\Rep K H d v
theorem bZ.step {K:ae}{H H':Hp}{st aA:aB}{σd:St}{σ:L2.St}(r:bZ K H σd σ)(ok:aN K st H)(s:Step H st H' aA):bZ K H' σd σ :=
 ⟨r.1,fun i d e=>let⟨v,e1,e2⟩:=r.2 i d e;⟨v,e1,e2.step ok s⟩⟩
theorem bZ.set {K:ae}{H:Hp}{σd:St}{σ:L2.St}{d:D}{v:V}(r:bZ K H σd σ)(i:Nat)(h:Rep K H d v):bZ K H (σd.set i (some d)) (σ.set i (some v)):=by
 refine⟨by simpa using r.1,fun j e hj=>?_⟩
 by_cases q:j=i
 ·subst q
  by_cases hl:j<σd.length
  ·rw[fe hl]at hj
   cases hj
   exact⟨v,by rw[fe (by rw[<-r.1];exact hl)],h⟩
  ·rw[kx (by simp;omega)]at hj;cases hj
 ·rw[ey (gp q)]at hj
  obtain⟨u,e1,e2⟩:=r.2 j e hj
  exact⟨u,by rw[ey (gp q)];exact e1,e2⟩
abbrev Y5:=St->aB->VK->Prop
inductive bT (K:ae)(te:Y5)(σ:L2.St)(H:Hp)(Q:L2.VK):Prop where
 |mk (σd:St)(st:aB)(R:VK)(r:bZ K H σd σ)(ok:aN K st H)(q:te σd st R)(hq:∀ v H',QD K H st R v H'->Q v H'):bT K te σ H Q
inductive jP (K:ae)(te:St->aB->(List D->aB->Prop)->Prop)(σ:L2.St)(H:Hp)(Q:List V->Hp->Prop):Prop where
 |mk (σd:St)(st:aB)(R:List D->aB->Prop)(r:bZ K H σd σ)(ok:aN K st H)(q:te σd st R)(hq:∀ vs H',Ka K H st R vs H'->Q vs H'):jP K te σ H Q
inductive iQ (K:ae)(te:Y5)(σ:L2.St)(H:Hp)(Q:Bool->Hp->Prop):Prop where
 |mk (σd:St)(st:aB)(R:Bool->aB->Prop)(r:bZ K H σd σ)(ok:aN K st H)(q:te σd st (fun d aA=>dJ d aA fun b=>R b aA))(hq:∀(b:Bool) H',QX K H st (R b) H'->Q b H'):iQ K te σ H Q
theorem _root_.L2.PE.imp {X:Cx}{e:b7}{t t':L2.TE}(i:∀ σ H Q,t' σ H Q->t σ H Q)(h:PE X e t):PE X e t':=fun pz s σ H Q I q=>h pz s σ H Q I (i σ H Q q)
theorem _root_.L2.PT.imp {X:Cx}{e:b7}{t t':L2.TT}(i:∀ σ H Q,t' σ H Q->t σ H Q)(h:PT X e t):PT X e t':=fun pz s σ H Q I q=>h pz s σ H Q I (i σ H Q q)
theorem _root_.L2.PW.imp {X:Cx}{e:b7}{t t':L2.TT}(i:∀ σ H Q,t' σ H Q->t σ H Q)(h:PW X e t):PW X e t':=fun wh pz s σ H Q I q=>h wh pz s σ H Q I (i σ H Q q)
theorem _root_.L2.PA.imp {X:Cx}{es:List b7}{t t':L2.TA}(i:∀ σ H Q,t' σ H Q->t σ H Q)(h:PA X es t):PA X es t':=fun pos pz s σ H Q I q=>h pos pz s σ H Q I (i σ H Q q)
theorem _root_.L2.PS.imp {X:Cx}{e:Stmt}{t t':L2.TS}(i:∀ D σ H,t' D σ H->t D σ H)(h:PS X e t):PS X e t':=fun pz s σ H D I q=>h pz s σ H D I (i D σ H q)
theorem _root_.L2.iN.imp {X:Cx}{e:List Stmt}{t t':L2.TS}(i:∀ D σ H,t' D σ H->t D σ H)(h:iN X e t):iN X e t':=fun pz s σ H D I q=>h pz s σ H D I (i D σ H q)
theorem fI:sizeLine=aK:=gx
section
variable {X:Cx}{C:aS}{sub:Nat->Nat->Bool}{E:XK}{a b c e:b7}{x y z:Ex}{pos:Pos}
theorem rN {d:D}{v:V}(h:PE X e (tC v))(r:∀ H,Rep X.K H d v):PE X e (bT X.K (aF C sub E (.c d))) :=
 h.imp fun σ H Q ⟨σd,st,R,_,ok,q,hq⟩=>by
 exact hq v H (.here ok (r H) q)
set_option tactic.hygienic true in
theorem TX {i:Nat}(h:PE X e (LI i)):PE X e (bT X.K (aF C sub E (.v i))) :=
 h.imp fun σ H Q ⟨σd,st,R,r,ok,q,hq⟩=>by
 have q:fK σd i (fun d=>R d st):=q
 unfold fK at q
 split at q
 ·rename_i d ed
  obtain⟨v,e1,e2⟩:=r.2 i d ed
  exact⟨v,e1,hq v H (.here ok e2 q)⟩
 ·exact q.elim
theorem Hk:PA X [] (jP X.K (bC C sub E [])) :=
 AO.imp fun σ H Q ⟨σd,st,R,r,ok,q,hq⟩=>by
 exact hq [] H ⟨[],st,.refl,ok,.nil,q⟩
theorem Ej {es:List b7}{xs:List Ex}(h:PE X e (bT X.K (aF C sub E x)))(hs:PA X es (jP X.K (bC C sub E xs)))
 (dA:ar (e::es) X.env=(false,eval e X.env)::ar es X.env):PA X (e::es) (jP X.K (bC C sub E (x::xs))) :=
 (oJ h hs dA).imp fun σ H Q ⟨σd,st,R,r,ok,q,hq⟩=>by
 refine⟨σd,st,_,r,ok,q,fun v H1 ⟨d,aC,s1,aU,r1,q1⟩=>?_⟩
 refine⟨σd,aC,_,r.step ok s1,aU,q1,fun vs H2 ⟨ds,aG,s2,cI,r2,q2⟩=>?_⟩
 exact hq _ _ ⟨d::ds,aG,s1.trans s2,cI,.cons (r1.step aU s2) r2,q2⟩
theorem zG:∀(xs:List Ex){σ:St}{st:aB}{R:List D->aB->Prop},bN C C->bC C sub E xs σ st R->bC C sub E xs σ st (fun ds aA=>ds.length=xs.length/\R ds aA)
 |[],σ,st,R,_,h=>by exact⟨rfl,h⟩
 |x::xs,σ,st,R,hC,h=>by
  refine aP hC (fun _ _ z=>z) x (fun d aA h'=>?_) h
  exact cE hC (fun _ _ z=>z) xs (fun ds aY z=>⟨by simp [z.1],z.2⟩) (zG xs hC h')
theorem Ft {es:List b7}{xs:List Ex}{k:Nat}(hC:bN C C)(hs:PA X es (jP X.K (bC C sub E xs)))(hl:xs.length<=aK):PE X (.Tuple es k pos) (bT X.K (aF C sub E (.tup xs))) :=
 (Cc hs).imp fun σ H Q ⟨σd,st,R,r,ok,q,hq⟩=>by
 refine⟨σd,st,_,r,ok,zG xs hC q,fun vs H1 ⟨ds,aC,s1,aU,r1,l1,q1⟩=>⟨?_,fun p hp=>?_⟩⟩
 ·rw[fI,<-r1.length,l1];exact hl
 ·exact hq _ _ (.after s1 (.CJ aU r1 hp q1))
theorem Fh {es:List b7}{xs:List Ex}(hs:PA X es (jP X.K (bC C sub E xs))):PE X (.List es pos) (bT X.K (aF C sub E (.lst xs))) :=
 (Z1 hs).imp fun σ H Q ⟨σd,st,R,r,ok,q,hq⟩=>by
 refine⟨σd,st,_,r,ok,q,fun vs H1 ⟨ds,aC,s1,aU,r1,q1⟩=>⟨?_,fun p hp=>?_⟩⟩
 ·rw[fI,<-r1.length];exact q1.1
 ·exact hq _ _ (.after s1 (.fX aU r1 hp q1.2))
theorem two {r:R2}{te tf:Y5}{σ:L2.St}{H:Hp}{Q:L2.VK}{σd:St}{st:aB}{W:D->D->aB->Prop}{R:VK}
 (sr:bZ X.K H σd σ)(ok:aN X.K st H)(q:te σd st fun d aC=>tf σd aC fun d' aG=>W d d' aG)(hq:∀ v H',QD X.K H st R v H'->Q v H')
 (op:∀ d d' v v' H2 aG,aN X.K aG H2->Rep X.K H2 d v->Rep X.K H2 d' v'->W d d' aG->r v v' H2 (QD X.K H2 aG R))
 (mono:∀ v v' H (Q Q':L2.VK),(∀ v H,Q v H->Q' v H)->r v v' H Q->r v v' H Q'):Cs r (bT X.K te) (bT X.K tf) σ H Q:=by
 refine⟨σd,st,_,sr,ok,q,fun v H1 ⟨d,aC,s1,aU,r1,q1⟩=>?_⟩
 refine⟨σd,aC,_,sr.step ok s1,aU,q1,fun v' H2 ⟨d',aG,s2,cI,r2,q2⟩=>?_⟩
 refine mono _ _ _ _ _ (fun u H' z=>hq u H' (.after (s1.trans s2) z)) (op d d' v v' H2 aG cI (r1.step aU s2) r2 q2)
theorem G0 {g:Int->Int->V}(v v':V)(H:Hp)(Q Q':L2.VK)(h:∀ v H,Q v H->Q' v H)(z:FI g v v' H Q):FI g v v' H Q':=let⟨i,j,e,e',q⟩:=z;⟨i,j,e,e',h _ _ q⟩
theorem wO {P:Int->Int->Prop}{g:Int->Int->V}(v v':V)(H:Hp)(Q Q':L2.VK)(h:∀ v H,Q v H->Q' v H)(z:rI P g v v' H Q):rI P g v v' H Q':=let⟨i,j,e,e',p,q⟩:=z;⟨i,j,e,e',p,h _ _ q⟩
end
theorem yX:fillsNumberSlot (.type "tuple") "mul" = pure false:=by kernel_rfl
theorem HS:seqRepeat? (.type "tuple")=pure (some (.builtin "tuple.__mul__")):=by kernel_rfl
theorem BV (a:Int)(t:Tok)(l:Addr)(items:Array Value)(n:Nat)(dd:Option Addr)(sl:Array (Option Value)):
 Meets (Builtin.«int.__rmul__» ⟨[.int a t,.ref l],[]⟩) (fun _ R s=>s.heap.get? l=some { cls:=.type "tuple", dict:=dd,data:=.seq items n,slots:=sl }/\R (.ok (.ret Value.notImplemented)) s) :=
 .of_wp fun prog w A R s h=>by obtain⟨hp,g,d,tk,os⟩:=s;obtain⟨hl,h⟩:=h;wp_walk;exact⟨_,rfl,h⟩
section
variable {prog:bq}{w:cq}{A:cg}{E:Value->ah->Prop}{s:ah}
theorem HG {l:Addr}{items:Array Value}{n:Nat}{dd:Option Addr}{sl:Array (Option Value)}{k:Int}{t:Tok}{Q:PySem.Fin->ah->Prop}(hl:s.heap.get? l=some { cls:=.type "tuple", dict:=dd,data:=.seq items n,slots:=sl })
  (h1:1<=k)(h2:k<1000)(hm:0<items.size)(hm2:items.size<=1000)(jH:k=1->Q (.done (.ret (.ref l))) s)
  (h:Q (.done (.ret (.ref s.heap.objs.size))) { s with heap:=s.heap.push { cls:=.type "tuple", data:=.seq ((ao k.toNat items).foldl (·++ ·) #[]) } }):
  wpAny (model prog w) A (Builtin.«tuple.__mul__» ⟨[.ref l,.int k t],[]⟩) Q E s:=by
 have hT:s.TypeIs (.ref l) "tuple":=⟨_,hl,rfl⟩
 unfold Builtin.«tuple.__mul__»
 wp_walk
 rw[if_neg (by simp;omega)]
 show wpAny _ _ (ly (.ref l) >>= _) _ _ s
 refine af (wpAny_tupleItemsOf hl rfl ?_)
 have hne:items.isEmpty=false:=by
  rw[Array.isEmpty_eq_false_iff];intro z;rw[z]at hm;simp at hm
 have jp:wpAny (model prog w) A (if(decide (k<=0)||items.isEmpty)=true then do
     let __do_lift <-gj #[]
     ret __do_lift
    else
     have __do_jp:=fun(__r:Unit) =>
      have __do_jp:=fun(__r:Unit)=>do
       let __do_lift <-
        gj (n4 (fun x1 x2=>x1++x2) #[] (ao k.toNat items))
       ret __do_lift;
      if ql (↑items.size*k)=true then do
       let __r <-unsupported "tuple.__mul__:memory"
       __do_jp __r
      else __do_jp ();
     if ↑items.size*k>(2 ^ 63-1) / 8 then do
      rule "tuple.repeat.no-memory"
      let __do_lift <-Qn (gv "MemoryError") []
      let __r <-raiseNew __do_lift
      __do_jp __r
     else __do_jp ()) Q E s:=by
  rw[if_neg (by rw[hne];simp;omega)]
  have hmul:(items.size:Int)*k<=1000*1000:=zw (by omega) (by omega) (by omega) (by decide)
  have hmul0:0<=(items.size:Int)*k:=Int.mul_nonneg (by omega) (by omega)
  dsimp only
  rw[if_neg (by omega),if_neg (by simp [ql,gx];omega)]
  wp_walk
  have kE:¬(n4 (fun x1 x2=>x1++x2) #[] (ao k.toNat items)).size>sizeLine:=by
   have e1:=wj items.toList k.toNat []
   rw[ba]at e1
   have e2:n4 (fun x1 x2=>x1++x2) #[] (ao k.toNat items)=(ao k.toNat items.toList).flatten.toArray:=by simpa using e1
   rw[e2,av,pf,xq,uq,me,gx]
   have:k.toNat*items.size<=1000*1000:=g7 (by omega) hm2
   omega
  rw[if_neg kE]
  wp_walk
  exact h
 show wpAny _ _ (if(items.isEmpty||k==1)=true then _ else _) _ _ s
 by_cases hk:k=1
 ·subst hk
  rw[if_pos (by simp)]
  wp_walk
  exact jH rfl
 ·rw[if_neg (by rw[hne];simpa using hk)]
  exact jp
end
noncomputable def TB (K:ae):R2:=fun x y H Q=>∃(a:Addr)(k:Int)(xs:List V),x=.ref a/\y=.int k/\eG K H a xs/\0<xs.length/\xs.length<=1000/\1<=k/\k<1000/\(k=1->Q (.ref a) H)/\∀ p,H p=none->Q (.ref p) (upd H p (.tup (ao k.toNat xs).flatten))
theorem VH {X:Cx}:gT X (h9 .Mult) (TB X.K):=by
 intro pz s σ H x y v u Q I rx ry h
 obtain⟨a,k,xs,rfl,rfl,hH,h0,h00,h1,h2,jH,q⟩:=h
 cases rx
 obtain⟨t,rfl⟩:=ry
 obtain⟨aD,r,⟨⟨cls,dd,data,sl⟩,ho,hc,n,hd⟩,z⟩:=I.tuple hH
 simp only at hc hd
 subst hc hd
 have hl:xs.length=aD.length:=r.length
 have hnew:n4 (fun x1 x2=>x1++x2) #[] (ao k.toNat aD.toArray)=(ao k.toNat aD).flatten.toArray:=by
  have:=wj aD k.toNat []
  rw[ba]at this
  exact this
 refine qw (T :="tuple") (U :="int") (by decide) ⟨_,ho,rfl⟩ (fun s'=>xo s' k t) yX PySem.F.fills_int_mul vg HS PySem.F.slot_int_index.lookup
  (j6 vg (xo s k t) PySem.F.entry_int_rmul (PySem.F.args_int_rmul_2 _ _) (BV k t a aD.toArray n dd sl)
   ⟨ho,rfl,⟨_,ho,rfl⟩,ig PySem.F.slot_tuple_mul ⟨_,ho,rfl⟩ PySem.F.entry_tuple_mul (HG ho h1 h2 (by simpa [<-hl]using h0) (by simpa [<-hl]using h00) (fun e=>?_) ?_) (PySem.F.args_tuple_mul_2 _ _)⟩)
 ·exact⟨_,rfl,.ref a,H,I,rfl,jH e⟩
 ·refine⟨_,rfl,.ref s.heap.objs.size,_,I.laid (a:=s.heap.objs.size) (o:=.tup (ao k.toNat xs).flatten) (t':=s.toks) (fun b u e=>au _ e) (bb _) ?_,rfl,q _ (I.bJ.fresh (bb _))⟩
  refine⟨by rw[len_rep,gx];have:k.toNat*xs.length<=1000*1000:=g7 (by omega) h00;omega,_,r.rep k.toNat,?_⟩
  rw[hnew]
  exact mK.new s.heap _
section
variable {X:Cx}
theorem W7 {prog:bq}{w:cq}{A:cg}{E:Value->ah->Prop}{s:ah}{t b:Addr}{ws:List Value}{Q:Value->ah->Prop}(ht:IsTup s.heap t #[])(hb:IsTup s.heap b ws.toArray)
  (h:Q (.ref b) s):wpAny (model prog w) A (h9 .Add (.ref t) (.ref b)) Q E s:=by
 obtain⟨⟨cls,dd,data,sl⟩,ho,hc,n,hd⟩:=id ht
 obtain⟨⟨cls2,dd2,data2,sl2⟩,ho2,hc2,n2,hd2⟩:=id hb
 simp only at hc hd hc2 hd2
 subst hc hd hc2 hd2
 exact xx ⟨_,ho,rfl⟩ ⟨_,ho2,rfl⟩ tw w8 nk my (mh _ _)
  (tuple_addW0 t b #[] ws.toArray n n2 dd dd2 sl sl2 (by simp)) ⟨ho,ho2,h⟩
noncomputable def UQ (K:ae):R2:=fun x y H Q=>∃ a b ys,x=.ref a/\y=.ref b/\eG K H a []/\eG K H b ys/\Q (.ref b) H
theorem U7:gT X (h9 .Add) (UQ X.K):=by
 intro pz s σ H x y v u Q I rx ry h
 obtain⟨a,b,ys,rfl,rfl,ha,hb,q⟩:=h
 cases rx
 cases ry
 obtain⟨aD,r1,p1,_⟩:=I.tuple ha
 obtain⟨lX,r2,p2,_⟩:=I.tuple hb
 have e:aD=[]:=r1.xI.mpr rfl
 subst e
 exact W7 p1 p2 ⟨.ref b,H,I,rfl,q⟩
noncomputable def Ez:R2:=fun x y H Q=>∃ i j,x=.str i/\y=.str j/\i.length+j.length<=sizeLine/\Q (.str (i++j)) H
noncomputable abbrev UM (K:ae):R2:=fun x y H Q=>FI (fun i j=>.int (i+j)) x y H Q∨Ez x y H Q∨UE K x y H Q∨UQ K x y H Q∨Ei x y H Q
theorem WL:gT X (h9 .Add) (UM X.K):=gT.or Dk (gT.or MK (gT.or XM (gT.or U7 Ee)))
theorem D0 (x:Array Nat):∀(n:Nat)(acc:Array Nat),((ao n x).foldl (·++ ·) acc).toList=acc.toList++(ao n x.toList).flatten
 |0,acc=>by simp
 |n+1,acc=>by rw[gf,mv,D0 x n (acc++x),gf,gg,ph,rk]
theorem WB (x:List Nat){n:Int}(h0:0<=n):Pm ⟨x.toArray⟩ n=⟨((ao n.toNat x).flatten).toArray⟩:=by
 unfold Pm
 by_cases h1:n<1
 ·have e:n.toNat=0:=by omega
  rw[if_pos h1,e];rfl
 rw[if_neg h1]
 by_cases h2:n=1
 ·subst h2
  rw[if_pos (by simp)]
  congr 1
  simp
 by_cases h3:x=[]
 ·subst h3
  rw[if_pos (by simp [c7])]
  congr 1
  simp
 ·rw[if_neg (by
   simp only[i9,beq_iff_eq,not_or]
   refine⟨h2,?_⟩
   cases x with
   |nil=>exact absurd rfl h3
   |cons a r=>simp [c7])]
  congr 1
  apply Array.ext'
  rw[D0]
  simp
noncomputable def UA:R2:=fun x y H Q=>∃ z k,x=.str z/\y=.int k/\z.length<=1000/\0<=k/\k<1000/\Q (.str (Pm z k)) H
theorem VS:gT X (h9 .Mult) UA:=by
 intro pz s σ H x y v u Q I rx ry h
 obtain⟨z,k,rfl,rfl,hl,h0,h1,q⟩:=h
 obtain⟨t,rfl⟩:=rx
 obtain⟨t',rfl⟩:=ry
 refine SB.mul ⟨?_,fun a b=>?_,fun a b=>?_⟩ fun t' tk=>⟨.str (Pm z k),H,I.tok _,⟨_,rfl⟩,q⟩
 ·simp only[Bool.or_eq_false_iff,decide_eq_false_iff_not]
  omega
 ·intro hh
  have e:(z.length:Int)*k<=1000*1000:=zw (by omega) (by omega) (by omega) (by omega)
  have:=Int.le_ediv_of_mul_le (show 0<k by omega) (Int.le_trans e (by decide:(1000*1000:Int)<=2 ^ 63-1))
  omega
 ·unfold Builtin.Str.tooLong sizeLine
  have:z.length*k.toNat<=1000*1000:=g7 hl (by omega)
  simp only[decide_eq_false_iff_not]
  omega
noncomputable abbrev TJ (K:ae):R2:=fun x y H Q=>rI MD (fun i j=>.int (i*j)) x y H Q∨Z9 x y H Q∨TB K x y H Q∨UA x y H Q
theorem W5:gT X (h9 .Mult) (TJ X.K):=gT.or ZM (gT.or Bn (gT.or VH VS))
noncomputable def An:qT->Operator
 |.add=>.Add|.sub=>.Sub|.mul=>.Mult|.fdiv=>.FloorDiv|.mod=>.Mod|.pow=>.Pow
noncomputable def LP (K:ae):qT->R2
 |.add=>UM K
 |.sub=>FI fun i j=>.int (i-j)
 |.mul=>TJ K
 |.fdiv=>rI Af fun i j=>.int (i / j)
 |.mod=>rI (fun _ j=>0<j) fun i j=>.int (i % j)
 |.pow=>rI Y8 fun i j=>.int (i ^ j.toNat)
theorem Ab:∀ op:qT,gT X (h9 (An op)) (LP X.K op)
 |.add=>WL
 |.sub=>Ec
 |.mul=>W5
 |.fdiv=>WO
 |.mod=>Al
 |.pow=>Ah
theorem M3 {K:ae}:∀(op:qT)(v v':V)(H:Hp)(Q Q':L2.VK),(∀ v H,Q v H->Q' v H)->LP K op v v' H Q->LP K op v v' H Q'
 |.add,v,v',H,Q,Q',h,z=>by
  rcases z with z|⟨i,j,e,e',l,q⟩|⟨a,b,xs,ys,e,e',s,s',n,l,q,q'⟩|⟨a,b,ys,e,e',s,s',q⟩|⟨l,b,xs,zs,e,e',s,s',n,q⟩
  ·exact .inl (G0 _ _ _ _ _ h z)
  ·exact .inr (.inl ⟨i,j,e,e',l,h _ _ q⟩)
  ·exact .inr (.inr (.inl ⟨a,b,xs,ys,e,e',s,s',n,l,fun z=>h _ _ (q z),fun z p hp=>h _ _ (q' z p hp)⟩))
  ·exact .inr (.inr (.inr (.inl ⟨a,b,ys,e,e',s,s',h _ _ q⟩)))
  ·exact .inr (.inr (.inr (.inr ⟨l,b,xs,zs,e,e',s,s',n,fun p hp=>h _ _ (q p hp)⟩)))
 |.sub,v,v',H,Q,Q',h,z=>G0 _ _ _ _ _ h z
 |.mul,v,v',H,Q,Q',h,z=>by
  rcases z with z|⟨l,k,xs,e,e',s,b1,b2,b3,q⟩|⟨l,k,xs,e,e',s,b1,b2,b3,b4,q0,q⟩|⟨z,k,e,e',b1,b2,b3,q⟩
  ·exact .inl (wO _ _ _ _ _ h z)
  ·exact .inr (.inl ⟨l,k,xs,e,e',s,b1,b2,b3,fun p hp=>h _ _ (q p hp)⟩)
  ·exact .inr (.inr (.inl ⟨l,k,xs,e,e',s,b1,b2,b3,b4,fun z=>h _ _ (q0 z),fun p hp=>h _ _ (q p hp)⟩))
  ·exact .inr (.inr (.inr ⟨z,k,e,e',b1,b2,b3,h _ _ q⟩))
 |.fdiv,v,v',H,Q,Q',h,z=>wO _ _ _ _ _ h z
 |.mod,v,v',H,Q,Q',h,z=>wO _ _ _ _ _ h z
 |.pow,v,v',H,Q,Q',h,z=>wO _ _ _ _ _ h z
end
section
variable {K:ae}{H:Hp}{st:aB}{R:VK}
theorem Rep.int_inv {i:Int}{v:V}(r:Rep K H (.int i) v):v=.int i:=by cases r;rfl
theorem Rep.str_inv {x:List Nat}{v:V}(r:Rep K H (.str x) v):v=.str ⟨x.toArray⟩:=by cases r;rfl
theorem Rep.fZ {b:Bool}{v:V}(r:Rep K H (.bl b) v):v=.bl b:=by cases r;rfl
theorem Rep.gG {v:V}(r:Rep K H .non v):v=.non:=by cases r;rfl
theorem Rep.dQ {a:Addr}{v:V}(r:Rep K H (.ref a) v):v=.ref a:=by cases r;rfl
theorem Rep.bK {ds:List D}{v:V}(r:Rep K H (.tup ds) v):∃ a vs,v=.ref a/\eG K H a vs/\aJ K H ds vs:=by cases r with|tup h r=>exact⟨_,_,rfl,h,r⟩
theorem Rep.HJ {ks vs:List D}{v:V}(r:Rep K H (.cH ks vs) v):∃ a,v=.ref a/\Z3 K a ks vs:=by cases r with|cH h=>exact⟨_,rfl,h⟩
theorem Rep.kS {ds:List D}{v:V}(r:Rep K H (.bD ds) v):∃ a vs,v=.ref a/\mR K H a vs/\aJ K H ds vs:=by cases r with|bD h r=>exact⟨_,_,rfl,h,r⟩
set_option tactic.hygienic true in
theorem cV {a:Nat}{P:List D->Prop}(h:bW st a P):∃ ds,st a=some (.lst ds)/\P ds:=by
 unfold bW at h
 split at h
 ·rename_i ds e;exact⟨ds,e,h⟩
 ·exact h.elim
set_option tactic.hygienic true in
theorem pQ {a:Nat}{P:List D->Prop}{M:List D->List D->Prop}(ok:aN K st H)(h:dW st a P M):∃ ds,st a=some (.lst ds)/\P ds:=by
 unfold dW at h
 split at h
 ·rename_i ds e;exact⟨ds,e,h⟩
 ·rename_i e;exact(ok _ _ e).elim
 ·exact h.elim
theorem gL {α:Type}{o:Option α}{P:α->Prop}(h:cP o P):∃ x,o=some x/\P x:=by
 unfold cP at h
 split at h
 ·exact⟨_,rfl,h⟩
 ·exact h.elim
theorem B6 (x y:List Nat):(⟨x.toArray⟩:Str)++⟨y.toArray⟩=⟨(x++y).toArray⟩:=by
 show Str.mk _=Str.mk _
 simp
theorem aJ.nil_inv {vs:List V}(r:aJ K H [] vs):vs=[]:=by cases r;rfl
theorem aJ.flat {ds:List D}{vs:List V}(r:aJ K H ds vs):∀ k:Nat,aJ K H (ao k ds).flatten (ao k vs).flatten
 |0=>.nil
 |k+1=>by simp only[gf,gg];exact r.append (aJ.flat r k)
set_option tactic.hygienic true in
theorem OS {op:qT}{d d':D}{v v':V}(ok:aN K st H)(r:Rep K H d v)(r':Rep K H d' v')(h:hV op d d' st R):LP K op v v' H (QD K H st R):=by
 unfold hV at h
 split at h
 ·cases r.int_inv;cases r'.int_inv
  exact .inl ⟨_,_,rfl,rfl,.here ok (.int _) h⟩
 ·rename_i a b
  cases r.str_inv;cases r'.str_inv
  refine .inr (.inl ⟨_,_,rfl,rfl,?_,?_⟩)
  ·rw[fI];simpa [c7]using h.1
  ·rw[B6];exact .here ok (.str _) h.2
 ·rename_i ds es
  obtain⟨a,vs,rfl,s1,q1⟩:=r.bK
  obtain⟨b,us,rfl,s2,q2⟩:=r'.bK
  cases ds with
  |nil =>
   cases q1.nil_inv
   exact .inr (.inr (.inr (.inl ⟨a,b,us,rfl,rfl,s1,s2,.here ok r' (by simpa using h.2)⟩)))
  |cons d ds =>
   refine .inr (.inr (.inl ⟨a,b,vs,us,rfl,rfl,s1,s2,?_,?_,fun e=>?_,fun _ p hp=>.CJ ok (q1.append q2) hp h.2⟩))
   ·intro e;subst e;cases q1
   ·rw[fI,<-q1.length,<-q2.length];exact h.1
   ·subst e
    cases q2
    exact .here ok r (by simpa using h.2)
 ·rename_i a b
  cases r.dQ;cases r'.dQ
  obtain⟨xs,e1,h⟩:=cV h
  obtain⟨ys,e2,h⟩:=cV h
  obtain⟨vs,g1,q1⟩:=ok.lst e1
  obtain⟨us,g2,q2⟩:=ok.lst e2
  refine .inr (.inr (.inr (.inr ⟨a,b,vs,us,rfl,rfl,g1,g2,?_,fun p hp=>.fX ok (q1.append q2) hp h.2⟩)))
  rw[fI,<-q1.length,<-q2.length];simpa using h.1
 ·cases r.int_inv;cases r'.int_inv
  exact⟨_,_,rfl,rfl,.here ok (.int _) h⟩
 ·cases r.int_inv;cases r'.int_inv
  exact .inl ⟨_,_,rfl,rfl,h.1.imp (fun z=>z) (fun z=>z),.here ok (.int _) h.2⟩
 ·rename_i a k
  cases r.dQ;cases r'.int_inv
  obtain⟨xs,e1,h1,h2,h⟩:=cV h
  obtain⟨vs,g1,q1⟩:=ok.lst e1
  refine .inr (.inl ⟨a,k,vs,rfl,rfl,g1,by omega,by omega,?_,fun p hp=>.fX ok (q1.flat _) hp h.2⟩)
  rw[fI,<-q1.length];exact h1
 ·rename_i xs k
  obtain⟨a,vs,rfl,f,g⟩:=r.bK
  cases r'.int_inv
  obtain⟨⟨c1,c2,c3,c4⟩,h⟩:=h
  refine .inr (.inr (.inl ⟨a,k,vs,rfl,rfl,f,by rw[<-g.length];exact c1,by rw[<-g.length];exact c2,c3,c4,fun e=>?_,fun p hp=>.CJ ok (g.flat _) hp h⟩))
  subst e
  have e1:(ao (1:Int).toNat xs).flatten=xs:=by simp
  rw[e1]at h
  exact .here ok r h
 ·rename_i xs k
  cases r.str_inv;cases r'.int_inv
  obtain⟨⟨c1,c2,c3⟩,h⟩:=h
  refine .inr (.inr (.inr ⟨_,k,rfl,rfl,by simpa [c7]using c1,c2,c3,?_⟩))
  rw[WB xs c2]
  exact .here ok (.str _) h
 ·cases r.int_inv;cases r'.int_inv
  exact⟨_,_,rfl,rfl,h.1,.here ok (.int _) h.2⟩
 ·cases r.int_inv;cases r'.int_inv
  exact⟨_,_,rfl,rfl,h.1,.here ok (.int _) h.2⟩
 ·cases r.int_inv;cases r'.int_inv
  exact⟨_,_,rfl,rfl,h.1,.here ok (.int _) h.2⟩
 ·exact h.elim
end
section
variable {X:Cx}{C:aS}{sub:Nat->Nat->Bool}{E:XK}{a b c e:b7}{x y z:Ex}{pos:Pos}
theorem Hu {op:qT}(ha:PE X a (bT X.K (aF C sub E x)))(hb:PE X b (bT X.K (aF C sub E y))):PE X (.BinOp a (An op) b pos) (bT X.K (aF C sub E (.bin op x y))) :=
 (Iq (Ab op) ha hb).imp fun σ H Q ⟨σd,st,R,r,ok,q,hq⟩=>by
 exact two (W:=fun d d' aG=>hV op d d' aG R) r ok q hq (fun d d' v v' H2 aG cI r1 r2 h=>OS cI r1 r2 h) (M3 op)
theorem Et (ha:PE X a (bT X.K (aF C sub E x))):PE X (.UnaryOp .USub a pos) (bT X.K (aF C sub E (.neg x))) :=
 (Iv YZ ha).imp fun σ H Q ⟨σd,st,R,r,ok,q,hq⟩=>by
 refine⟨σd,st,_,r,ok,q,fun v H1 ⟨d,aC,s1,aU,r1,q1⟩=>?_⟩
 have q1:vT d aC R:=q1
 unfold vT at q1
 split at q1
 ·cases r1.int_inv
  exact⟨_,rfl,hq _ _ (.after s1 (.here aU (.int _) q1))⟩
 ·exact q1.elim
noncomputable def Mn (d:D)(st:aB):Option Bool:=match d with
 |.non=>some false
 |.bl b=>some b
 |.int i=>some (i != 0)
 |.str x=>if x.length<=aK then some (!x.isEmpty)else none
 |.tup ds=>some (!ds.isEmpty)
 |.ref a=>match st a with
  |some (.lst ds)=>some (!ds.isEmpty)
  |some (.dic ks _)=>some (!ks.isEmpty)
  |some _=>none
  |none=>none
 |.bD ds=>some (!ds.isEmpty)
 |_=>none
set_option tactic.hygienic true in
theorem tE {d:D}{st:aB}{P:Bool->Prop}:dJ d st P↔∃ k,Mn d st=some k/\P k:=by
 cases d with
 |str x =>
  show(x.length<=aK/\P (!x.isEmpty))↔∃ k,(if x.length<=aK then some (!x.isEmpty)else none)=some k/\P k
  split
  ·rename_i h;exact⟨fun z=>⟨_,rfl,z.2⟩,fun⟨k,e,q⟩=>⟨h,by cases e;exact q⟩⟩
  ·rename_i h;exact⟨fun z=>(h z.1).elim,fun⟨k,e,q⟩=>by cases e⟩
 |ref a =>
  show dW st a _ _↔∃ k,(match st a with|some (.lst ds)=>some (!ds.isEmpty)|some (.dic ks _)=>some (!ks.isEmpty)|some _=>none|none=>none)=some k/\P k
  unfold dW
  cases st a with
  |none=>exact⟨fun z=>z.elim,fun⟨k,e,q⟩=>by cases e⟩
  |some o=>cases o with
   |lst ds=>exact⟨fun z=>⟨_,rfl,z⟩,fun⟨k,e,q⟩=>by cases e;exact q⟩
   |dic ks vs=>exact⟨fun z=>⟨_,rfl,z⟩,fun⟨k,e,q⟩=>by cases e;exact q⟩
   |ins _ _=>exact⟨fun z=>z.elim,fun⟨k,e,q⟩=>by cases e⟩
   |tab _ _=>exact⟨fun z=>z.elim,fun⟨k,e,q⟩=>by cases e⟩
 |cH _ _=>exact⟨fun z=>z.elim,fun⟨k,e,q⟩=>by cases e⟩
 |exc _=>exact⟨fun z=>z.elim,fun⟨k,e,q⟩=>by cases e⟩
 |_=>exact⟨fun z=>⟨_,rfl,z⟩,fun⟨k,e,q⟩=>by cases e;exact q⟩
theorem iH {α:Type}(x:List α):(!x.isEmpty)=(((x.length:Nat):Int) != 0):=by
 cases x with
 |nil=>rfl
 |cons a r =>
 simp only[rl,c9,ak]
 symm
 rw[bne_iff_ne];omega
set_option tactic.hygienic true in
theorem uM {K:ae}{H:Hp}{st:aB}{d:D}{v:V}{P:Bool->Prop}(ok:aN K st H)(r:Rep K H d v)(h:dJ d st P):∃ k,RC K v H k/\P k:=by
 unfold dJ at h
 split at h
 ·cases r.gG;exact⟨_,rfl,h⟩
 ·cases r.fZ;exact⟨_,rfl,h⟩
 ·cases r.int_inv;exact⟨_,rfl,h⟩
 ·rename_i x P
  cases r.str_inv
  refine⟨_,⟨by rw[fI];simpa [c7]using h.1,?_⟩,h.2⟩
  rw[iH];simp [c7]
 ·obtain⟨a,vs,rfl,s1,q1⟩:=r.bK
  refine⟨_,.inr (.inl ⟨vs,s1,?_⟩),h⟩
  rw[iH,iH,q1.length]
 ·cases r.dQ
  obtain⟨ds,e,h⟩:=pQ ok h
  obtain⟨vs,g,q⟩:=ok.lst e
  refine⟨_,.inl ⟨vs,dS.of g,?_⟩,h⟩
  rw[iH,iH,q.length]
 ·obtain⟨a,vs,rfl,s1,q1⟩:=r.kS
  refine⟨_,.inl ⟨vs,s1.sq,?_⟩,h⟩
  rw[iH,iH,q1.length]
 ·exact h.elim
theorem S5 (h:PE X e (bT X.K (aF C sub E x)))(he:∀ whole,xg e X.env whole=(do let v <-whole;wc e.pos;lz [v] (Pg v))):PT X e (iQ X.K (aF C sub E x)) :=
 (SJ h he).imp fun σ H Q ⟨σd,st,R,r,ok,q,hq⟩=>by
 refine⟨σd,st,_,r,ok,q,fun v H1 ⟨d,aC,s1,aU,r1,q1⟩=>?_⟩
 obtain⟨k,t,z⟩:=uM aU r1 q1
 exact⟨k,t,hq _ _ ⟨aC,s1,aU,z⟩⟩
theorem Ds (h:PT X e (iQ X.K (aF C sub E x))):PT X (.UnaryOp .Not e pos) (iQ X.K (aF C sub E (.not_ x))) :=
 (E3 h).imp fun σ H Q ⟨σd,st,R,r,ok,q,hq⟩=>by
 exact⟨σd,st,fun b aA=>R (!b) aA,r,ok,q,fun b H1 z=>hq _ _ z⟩
theorem Gj (h:PE X e (bT X.K (aF C sub E x))):PE X (.UnaryOp .Not e pos) (bT X.K (aF C sub E (.not_ x))):=by
 intro pz s σ H Q I ⟨σd,st,R,r,ok,q,hq⟩
 refine UnaryOp_ (bA (h pz s σ H _ I ⟨σd,st,_,r,ok,q,fun v H' z=>z⟩) fun u s1 ⟨v,H1,I1,rv,d,aC,st1s,aU,r1,q1⟩=>?_)
 obtain⟨k,t,z⟩:=uM aU r1 q1
 exact not_of (bA (GZ pz s1 σ H1 v u (fun b H'=>Q (.bl (!b)) H') I1 rv ⟨k,t,hq _ _ (.after st1s (.here aU (.bl _) z))⟩) fun b s2 ⟨H2,I2,w⟩=>⟨.bl (!b),H2,I2,rfl,w⟩)
theorem Bo {op:Qo}(h:PT X e (iQ X.K (aF C sub E x))):PW X (.BoolOp op [e] pos) (iQ X.K (aF C sub E x)):=by
 cases op
 ·exact X4 h
 ·exact NI h
theorem ZG {rest:List b7}(hC:bN C C)(ha:PT X a (iQ X.K (aF C sub E x)))(hb:PW X (.BoolOp .And (b::rest) pos) (iQ X.K (aF C sub E y))):PW X (.BoolOp .And (a::b::rest) pos) (iQ X.K (aF C sub E (.and_ x y))) :=
 (Dg ha hb).imp fun σ H Q ⟨σd,st,R,r,ok,q,hq⟩=>by
 refine⟨σd,st,fun k aC=>if k=true then aF C sub E y σd aC (fun d aA=>dJ d aA fun b=>R b aA)else R false aC,r,ok,aP hC (fun _ _ z=>z) x (fun d aC z=>?_) q,fun k H1 ⟨aC,s1,aU,z⟩=>?_⟩
 ·rw[tE]at z ⊢
  obtain⟨k,t,z⟩:=z
  refine⟨k,t,?_⟩
  cases k with
  |true=>exact z
  |false =>
  have z':dJ d aC fun b=>R b aC:=z
  rw[tE]at z'
  obtain⟨k',t',z'⟩:=z'
  rw[t]at t';cases t'
  exact z'
 ·cases k with
  |true=>exact⟨σd,aC,R,r.step ok s1,aU,z,fun k H2 ⟨aG,s2,cI,w⟩=>hq _ _ ⟨aG,s1.trans s2,cI,w⟩⟩
  |false=>exact hq _ _ ⟨aC,s1,aU,z⟩
theorem Gy {rest:List b7}(hC:bN C C)(ha:PT X a (iQ X.K (aF C sub E x)))(hb:PW X (.BoolOp .Or (b::rest) pos) (iQ X.K (aF C sub E y))):PW X (.BoolOp .Or (a::b::rest) pos) (iQ X.K (aF C sub E (.or_ x y))) :=
 (LS ha hb).imp fun σ H Q ⟨σd,st,R,r,ok,q,hq⟩=>by
 refine⟨σd,st,fun k aC=>if k=true then R true aC else aF C sub E y σd aC (fun d aA=>dJ d aA fun b=>R b aA),r,ok,aP hC (fun _ _ z=>z) x (fun d aC z=>?_) q,fun k H1 ⟨aC,s1,aU,z⟩=>?_⟩
 ·rw[tE]at z ⊢
  obtain⟨k,t,z⟩:=z
  refine⟨k,t,?_⟩
  cases k with
  |false=>exact z
  |true =>
  have z':dJ d aC fun b=>R b aC:=z
  rw[tE]at z'
  obtain⟨k',t',z'⟩:=z'
  rw[t]at t';cases t'
  exact z'
 ·cases k with
  |false=>exact⟨σd,aC,R,r.step ok s1,aU,z,fun k H2 ⟨aG,s2,cI,w⟩=>hq _ _ ⟨aG,s1.trans s2,cI,w⟩⟩
  |true=>exact hq _ _ ⟨aC,s1,aU,z⟩
theorem Eo {rest:List b7}(ha:PE X a (bT X.K (aF C sub E x)))(hb:PE X (.BoolOp .And (b::rest) pos) (bT X.K (aF C sub E y))):PE X (.BoolOp .And (a::b::rest) pos) (bT X.K (aF C sub E (.and_ x y))):=by
 intro pz s σ H Q I ⟨σd,st,R,r,ok,q,hq⟩
 refine BoolOp_and (bA (ha pz s σ H _ I ⟨σd,st,_,r,ok,q,fun v H' z=>z⟩) fun u s1 ⟨v,H1,I1,rv,d,aC,st1s,aU,r1,q1⟩=>?_)
 obtain⟨k,t,z⟩:=uM aU r1 q1
 refine bA (GZ pz s1 σ H1 v u (fun b H'=>b=k/\H'=H1) I1 rv ⟨k,t,rfl,rfl⟩) fun b s2 ⟨H2,I2,e,e'⟩=>?_
 subst e e'
 cases b with
 |true=>exact hb pz s2 σ H2 Q I2 ⟨σd,aC,R,r.step ok st1s,aU,z,fun v H' w=>hq _ _ (.after st1s w)⟩
 |false=>exact⟨v,H2,I2,rv,hq _ _ (.after st1s (.here aU r1 z))⟩
theorem Hj {op:Qo}(h:PE X e (bT X.K (aF C sub E x))):PE X (.BoolOp op [e] pos) (bT X.K (aF C sub E x)):=Bf h
theorem Hw (hc:PT X c (iQ X.K (aF C sub E x)))(ha:PE X a (bT X.K (aF C sub E y)))(hb:PE X b (bT X.K (aF C sub E z))):PE X (.IfExp c a b pos) (bT X.K (aF C sub E (.ite x y z))) :=
 (SN hc ha hb).imp fun σ H Q ⟨σd,st,R,r,ok,q,hq⟩=>by
 refine⟨σd,st,fun k aC=>if k=true then aF C sub E y σd aC R else aF C sub E z σd aC R,r,ok,q,fun k H1 ⟨aC,s1,aU,w⟩=>?_⟩
 cases k with
 |true=>exact⟨σd,aC,R,r.step ok s1,aU,w,fun v H' u=>hq _ _ (.after s1 u)⟩
 |false=>exact⟨σd,aC,R,r.step ok s1,aU,w,fun v H' u=>hq _ _ (.after s1 u)⟩
end
end L3
end
section
namespace L3
open PySem PySem.Spec PyProof.Rows L2 PySem.SeqAt
mutual
theorem yW:∀ d:D,bB d=true->cK d d=true
 |.non,_=>rfl
 |.bl b,_=>by simp [cK]
 |.int i,_=>by simp [cK]
 |.str x,_=>by simp [cK]
 |.tup ds,h=>by simp only[bB]at h;simp only[cK];exact lC ds h
 |.ref _,h=>by simp [bB]at h
 |.cH _ _,h=>by simp [bB]at h
 |.bD _,h=>by simp [bB]at h
 |.exc _,h=>by simp [bB]at h
theorem lC:∀ ds:List D,bF ds=true->jD ds ds=true
 |[],_=>rfl
 |d::ds,h=>by
  simp only[bF,ay]at h
  simp only[jD,ay]
  exact⟨yW d h.1,lC ds h.2⟩
end
theorem lQ:∀{ds:List D}{d:D},bF ds=true->d∈ds->bB d=true
 |e::ds,d,h,m=>by
  simp only[bF,ay]at h
  rcases List.mem_cons.mp m with rfl|m
  ·exact h.1
  ·exact lQ h.2 m
theorem nO:∀{ds:List D}{d:D},d∈ds->dF d<=cF ds
 |e::ds,d,m=>by
  simp only[cF]
  rcases List.mem_cons.mp m with rfl|m
  ·omega
  ·have:=nO m;omega
theorem zM:∀{ds es:List D}(e:Nat->Bool),(∀ j d d',ds[j]? = some d->es[j]? = some d'->e j=cK d d')->((bc (min ds.length es.length)).all e&&ds.length==es.length)=jD ds es
 |[],[],e,h=>by simp [jD]
 |[],_::_,e,h=>by simp [jD]
 |_::_,[],e,h=>by simp [jD]
 |d::ds,d'::es,e,h=>by
  have ih:=zM (fun j=>e (j+1)) fun j x x' e1 e2=>h (j+1) x x' (by simpa using e1) (by simpa using e2)
  have h0:=h 0 d d' rfl rfl
  simp only[jD,ak,vh,kl,ik,km,nr]
  rw[<-ih,h0]
  have hl:(ds.length+1==es.length+1)=(ds.length==es.length):=by simp
  rw[hl,zx]
theorem NG {ds es:List D}(e:Nat->Bool)(hl:ds.length=es.length)(h:∀ j d d',ds[j]? = some d->es[j]? = some d'->e j=cK d d'):(bc ds.length).all e=jD ds es:=by
 rw[<-zM e h,<-hl];simp
theorem FT:∀{ds es:List D},ds.length≠es.length->jD ds es=false
 |[],[],h=>(h rfl).elim
 |[],_::_,h=>rfl
 |_::_,[],h=>rfl
 |d::ds,d'::es,h=>by simp only[jD,FT (ds:=ds) (es:=es) (by simpa using h),b9]
section
variable {X:Cx}{pz:List (Addr×Obj)}{σ:L2.St}{H:Hp}{s:ah}{st:aB}
theorem aR.at {vs:List V}{aD:List Value}(r:aR vs aD){j:Nat}(h:j<aD.toArray.size):∃ v,vs[j]? = some v/\RelV v aD.toArray[j]:=by
 have hl:=r.length
 have hj:j<vs.length:=by simp at h;omega
 obtain⟨u,e1,e2⟩:=aR.get r (bw hj)
 refine⟨vs[j],bw hj,?_⟩
 rw[qx]at e1
 obtain⟨h1,e1⟩:=e1
 simp only[List.getElem_toArray,e1]
 exact e2
theorem aJ.get' {K:ae}:∀{ds:List D}{vs:List V}{i:Nat}{v:V},aJ K H ds vs->vs[i]? = some v->∃ d,ds[i]? = some d/\Rep K H d v
 |_,_,_,_,.nil,e=>by simp at e
 |_,_,0,_,.cons h _,e=>by simp at e;subst e;exact⟨_,rfl,h⟩
 |_,_,i+1,v,.cons _ r,e=>by
  obtain⟨d,e1,e2⟩:=aJ.get' (i:=i) (v:=v) r (by simpa using e)
  exact⟨d,by simpa using e1,e2⟩
set_option tactic.hygienic true in
theorem wW (I:Inv X pz σ H s):∀(n:Nat){d d':D}{v:V},dF d<=n->bB d=true->bB d'=true->Rep X.K H d v->Rep X.K H d' v->d=d':=by
 intro n
 induction n with
 |zero =>
 intro d d' v hn p p' r r'
 cases r<;>cases r'<;>first|rfl|(simp [bB]at p;done)|(simp [bB]at p';done)|(simp [dF]at hn;done)
 |succ n ih =>
 intro d d' v hn p p' r r'
 cases r<;>cases r'<;>first|rfl|(simp [bB]at p;done)|(simp [bB]at p';done)|skip
 rename_i ds a vs h r es us r' h'
 cases I.pO h h'
 have go:∀(ds es:List D)(vs:List V),cF ds<=n->bF ds=true->bF es=true->aJ X.K H ds vs->aJ X.K H es vs->ds=es:=by
  intro ds
  induction ds with
  |nil=>intro es vs _ _ _ r r';cases r;cases r';rfl
  |cons d ds ihs =>
  intro es vs hd pp pp' r r'
  cases r with
  |cons r1 r2=>cases r' with
   |cons r1' r2' =>
   simp only[cF]at hd
   simp only[bF,ay]at pp pp'
   rw[ih (by omega) pp.1 pp'.1 r1 r1',ihs _ _ (by omega) pp.2 pp'.2 r2 r2']
 rw[go ds es vs (by simp only[dF]at hn;omega) (by simpa [bB]using p) (by simpa [bB]using p') r r']
def uB (A:cg)(s:ah)(u u':Value)(b:Bool):Prop:=RcAt A s u u' b/\EqAt A s u u' b/\RcNeAt A s u u' (!b)
noncomputable def mX:D->Bool
 |.non=>true
 |.bl _=>true
 |.int _=>true
 |.str _=>true
 |_=>false
theorem Dw (x y:List Nat):((⟨x.toArray⟩:Str)==⟨y.toArray⟩)=(x==y):=by
 rw[<-Qr]
theorem sY {K:ae}{H:Hp}{A:cg}{s:ah}{d d':D}{v v':V}{u u':Value}(p:mX d=true)(p':mX d'=true)(r:Rep K H d v)(rv:RelV v u)(r':Rep K H d' v')(bG:RelV v' u'):uB A s u u' (cK d d'):=by
 cases d with
 |non=>cases d' with
  |non =>
   cases r.gG;cases rv
   cases r'.gG;cases bG
   exact⟨RcAt.none_none,Pb _,RcNeAt.none_none⟩
  |bl b' =>
   cases r.gG;cases rv
   cases r'.fZ;cases bG
   simp only[cK]
   exact⟨RcAt.none_bool _,EqAt.none_bool _,RcNeAt.none_bool _⟩
  |int i' =>
   cases r.gG;cases rv
   cases r'.int_inv;obtain⟨_,rfl⟩:=bG
   simp only[cK]
   exact⟨RcAt.none_int _ _,EqAt.none_int _ _,RcNeAt.none_int _ _⟩
  |str x' =>
   cases r.gG;cases rv
   cases r'.str_inv;obtain⟨_,rfl⟩:=bG
   simp only[cK]
   exact⟨RcAt.none_str _ _,EqAt.none_str _ _,RcNeAt.none_str _ _⟩
  |_=>cases p'
 |bl b=>cases d' with
  |non =>
   cases r.fZ;cases rv
   cases r'.gG;cases bG
   simp only[cK]
   exact⟨RcAt.bool_none _,EqAt.bool_none _,RcNeAt.bool_none _⟩
  |bl b' =>
   cases r.fZ;cases rv
   cases r'.fZ;cases bG
   simp only[cK]
   exact⟨RcAt.bool_bool _ _,EqAt.bool_bool _ _,RcNeAt.bool_bool _ _⟩
  |int i' =>
   cases r.fZ;cases rv
   cases r'.int_inv;obtain⟨_,rfl⟩:=bG
   simp only[cK]
   exact⟨RcAt.bool_int _ _ _,EqAt.bool_int _ _ _,RcNeAt.bool_int _ _ _⟩
  |str x' =>
   cases r.fZ;cases rv
   cases r'.str_inv;obtain⟨_,rfl⟩:=bG
   simp only[cK]
   exact⟨RcAt.bool_str _ _ _,EqAt.bool_str _ _ _,RcNeAt.bool_str _ _ _⟩
  |_=>cases p'
 |int i=>cases d' with
  |non =>
   cases r.int_inv;obtain⟨_,rfl⟩:=rv
   cases r'.gG;cases bG
   simp only[cK]
   exact⟨RcAt.int_none _ _,EqAt.int_none _ _,RcNeAt.int_none _ _⟩
  |bl b' =>
   cases r.int_inv;obtain⟨_,rfl⟩:=rv
   cases r'.fZ;cases bG
   simp only[cK]
   exact⟨RcAt.int_bool _ _ _,EqAt.int_bool _ _ _,RcNeAt.int_bool _ _ _⟩
  |int i' =>
   cases r.int_inv;obtain⟨_,rfl⟩:=rv
   cases r'.int_inv;obtain⟨_,rfl⟩:=bG
   simp only[cK]
   exact⟨RcAt.int_int _ _ _ _,EqAt.int_int _ _ _ _,RcNeAt.int_int _ _ _ _⟩
  |str x' =>
   cases r.int_inv;obtain⟨_,rfl⟩:=rv
   cases r'.str_inv;obtain⟨_,rfl⟩:=bG
   simp only[cK]
   exact⟨RcAt.int_str _ _ _ _,EqAt.int_str _ _ _ _,RcNeAt.int_str _ _ _ _⟩
  |_=>cases p'
 |str x=>cases d' with
  |non =>
   cases r.str_inv;obtain⟨_,rfl⟩:=rv
   cases r'.gG;cases bG
   simp only[cK]
   exact⟨RcAt.str_none _ _,EqAt.str_none _ _,RcNeAt.str_none _ _⟩
  |bl b' =>
   cases r.str_inv;obtain⟨_,rfl⟩:=rv
   cases r'.fZ;cases bG
   simp only[cK]
   exact⟨RcAt.str_bool _ _ _,EqAt.str_bool _ _ _,RcNeAt.str_bool _ _ _⟩
  |int i' =>
   cases r.str_inv;obtain⟨_,rfl⟩:=rv
   cases r'.int_inv;obtain⟨_,rfl⟩:=bG
   simp only[cK]
   exact⟨RcAt.str_int _ _ _ _,EqAt.str_int _ _ _ _,RcNeAt.str_int _ _ _ _⟩
  |str x' =>
   cases r.str_inv;obtain⟨_,rfl⟩:=rv
   cases r'.str_inv;obtain⟨_,rfl⟩:=bG
   have e:cK (.str x) (.str x')=((⟨x.toArray⟩:Str)==⟨x'.toArray⟩):=by rw[Dw];simp only[cK]
   rw[e]
   exact⟨RcAt.str_str _ _ _ _,EqAt.str_str _ _ _ _,RcNeAt.str_str _ _ _ _⟩
  |_=>cases p'
 |_=>cases p
theorem gX {K:ae}{H:Hp}{A:cg}{s:ah}{l:Addr}{aD:Array Value}{d':D}{v':V}{u':Value}(hl:s.heap.IsTuple l aD)(hu:A.units<cLine)(p':mX d'=true)(r':Rep K H d' v')(bG:RelV v' u'):uB A s (.ref l) u' false/\uB A s u' (.ref l) false:=by
 cases d' with
 |non =>
 cases r'.gG;cases bG
 exact⟨⟨RcAt.tuple_none hl hu,EqAt.tuple_none hl hu,RcNeAt.tuple_none hl hu⟩,⟨RcAt.none_tuple hl hu,EqAt.none_tuple hl hu,RcNeAt.none_tuple hl hu⟩⟩
 |bl b =>
 cases r'.fZ;cases bG
 exact⟨⟨RcAt.tuple_bool _ hl hu,EqAt.tuple_bool _ hl hu,RcNeAt.tuple_bool _ hl hu⟩,⟨RcAt.bool_tuple _ hl hu,EqAt.bool_tuple _ hl hu,RcNeAt.bool_tuple _ hl hu⟩⟩
 |int i =>
 cases r'.int_inv;obtain⟨_,rfl⟩:=bG
 exact⟨⟨RcAt.tuple_int _ _ hl hu,EqAt.tuple_int _ _ hl hu,RcNeAt.tuple_int _ _ hl hu⟩,⟨RcAt.int_tuple _ _ hl hu,EqAt.int_tuple _ _ hl hu,RcNeAt.int_tuple _ _ hl hu⟩⟩
 |str x =>
 cases r'.str_inv;obtain⟨_,rfl⟩:=bG
 exact⟨⟨RcAt.tuple_str _ _ hl hu,EqAt.tuple_str _ _ hl hu,RcNeAt.tuple_str _ _ hl hu⟩,⟨RcAt.str_tuple _ _ hl hu,EqAt.str_tuple _ _ hl hu,RcNeAt.str_tuple _ _ hl hu⟩⟩
 |_=>cases p'
theorem kP {K:ae}{H:Hp}{A:cg}{s:ah}{l:Addr}{aD:Array Value}{d':D}{v':V}{u':Value}(hl:s.heap.IsList l aD)(hu:A.units<cLine)(p':mX d'=true)(r':Rep K H d' v')(bG:RelV v' u'):uB A s (.ref l) u' false/\uB A s u' (.ref l) false:=by
 cases d' with
 |non =>
 cases r'.gG;cases bG
 exact⟨⟨RcAt.list_none hl hu,EqAt.list_none hl hu,RcNeAt.list_none hl hu⟩,⟨RcAt.none_list hl hu,EqAt.none_list hl hu,RcNeAt.none_list hl hu⟩⟩
 |bl b =>
 cases r'.fZ;cases bG
 exact⟨⟨RcAt.list_bool _ hl hu,EqAt.list_bool _ hl hu,RcNeAt.list_bool _ hl hu⟩,⟨RcAt.bool_list _ hl hu,EqAt.bool_list _ hl hu,RcNeAt.bool_list _ hl hu⟩⟩
 |int i =>
 cases r'.int_inv;obtain⟨_,rfl⟩:=bG
 exact⟨⟨RcAt.list_int _ _ hl hu,EqAt.list_int _ _ hl hu,RcNeAt.list_int _ _ hl hu⟩,⟨RcAt.int_list _ _ hl hu,EqAt.int_list _ _ hl hu,RcNeAt.int_list _ _ hl hu⟩⟩
 |str x =>
 cases r'.str_inv;obtain⟨_,rfl⟩:=bG
 exact⟨⟨RcAt.list_str _ _ hl hu,EqAt.list_str _ _ hl hu,RcNeAt.list_str _ _ hl hu⟩,⟨RcAt.str_list _ _ hl hu,EqAt.str_list _ _ hl hu,RcNeAt.str_list _ _ hl hu⟩⟩
 |_=>cases p'
theorem G5 (I:Inv X pz σ H s){A:cg}{a b:Addr}{vs us:List V}{b0:Bool}(e:Nat->Bool)(ha:eG X.K H a vs)(hb:eG X.K H b us)(hu:A.units<cLine)(hs:a=b->b0=true)
  (he:∀ j v v' u u',vs[j]? = some v->us[j]? = some v'->RelV v u->RelV v' u'->EqAt A.in1 s u u' (e j))(hb0:((bc (min vs.length us.length)).all e&&vs.length==us.length)=b0):uB A s (.ref a) (.ref b) b0:=by
 obtain⟨aD,r1,p1,_⟩:=I.tuple ha
 obtain⟨jts,r2,p2,_⟩:=I.tuple hb
 have l1:aD.toArray.size=vs.length:=by rw[av];exact r1.length.symm
 have l2:jts.toArray.size=us.length:=by rw[av];exact r2.length.symm
 have hi:∀ j (h1:j<aD.toArray.size)(h2:j<jts.toArray.size),EqAt A.in1 s aD.toArray[j] jts.toArray[j] (e j):=fun j h1 h2=>by
  obtain⟨v,e1,q1⟩:=aR.at r1 h1
  obtain⟨v',e2,q2⟩:=aR.at r2 h2
  exact he j v v' _ _ e1 e2 q1 q2
 have rc:RcAt A s (.ref a) (.ref b) b0:=by
  have:=RcAt.tuples (e:=e) p1 p2 hu hi
  rw[l1,l2,hb0]at this
  exact this
 have rn:RcNeAt A s (.ref a) (.ref b) (!b0):=by
  have:=RcNeAt.tuples (e:=e) p1 p2 hu hi
  rw[l1,l2,hb0]at this
  exact this
 refine⟨rc,?_,rn⟩
 by_cases q:a=b
 ·rw[hs q,q];exact Pb _
 ·exact Pn q rc
theorem SD (I:Inv X pz σ H s){A:cg}{a b:Addr}{vs us:List V}{b0:Bool}(e:Nat->Bool)(ha:dS X.K H a vs)(hb:dS X.K H b us)(hu:A.units<cLine)(hs:a=b->b0=true)
  (he:∀ j v v' u u',vs[j]? = some v->us[j]? = some v'->RelV v u->RelV v' u'->EqAt A.in1 s u u' (e j))(hn:vs.length≠us.length->b0=false)(hb0:vs.length=us.length->(bc vs.length).all e=b0):uB A s (.ref a) (.ref b) b0:=by
 obtain⟨aD,r1,p1,_⟩:=I.list ha
 obtain⟨jts,r2,p2,_⟩:=I.list hb
 have l1:aD.toArray.size=vs.length:=by rw[av];exact r1.length.symm
 have l2:jts.toArray.size=us.length:=by rw[av];exact r2.length.symm
 have hi:∀ j (h1:j<aD.toArray.size)(h2:j<jts.toArray.size),EqAt A.in1 s aD.toArray[j] jts.toArray[j] (e j):=fun j h1 h2=>by
  obtain⟨v,e1,q1⟩:=aR.at r1 h1
  obtain⟨v',e2,q2⟩:=aR.at r2 h2
  exact he j v v' _ _ e1 e2 q1 q2
 have both:RcAt A s (.ref a) (.ref b) b0/\RcNeAt A s (.ref a) (.ref b) (!b0):=by
  by_cases hl:vs.length=us.length
  ·have:=RcAt.lists (e:=e) p1.isList p2.isList (by rw[l1,l2,hl]) hu hi
   have rn:=RcNeAt.lists (e:=e) p1.isList p2.isList (by rw[l1,l2,hl]) hu hi
   rw[l1,hb0 hl]at this rn
   exact⟨this,rn⟩
  ·rw[hn hl]
   have hz:(aD.toArray.size != jts.toArray.size)=true:=by rw[l1,l2,bne_iff_ne];exact hl
   exact⟨RcAt.lists_lengths p1.isList p2.isList hz hu,RcNeAt.lists_lengths p1.isList p2.isList hz hu⟩
 refine⟨both.1,?_,both.2⟩
 by_cases q:a=b
 ·rw[hs q,q];exact Pb _
 ·exact Pn q both.1
theorem rJ {d:D}(p:bB d=true):mX d=true∨∃ ds,d=.tup ds:=by
 cases d<;>first|exact .inl rfl|exact .inr ⟨_,rfl⟩|cases p
theorem Nm (I:Inv X pz σ H s):∀(n:Nat){d d':D}{A:cg}{v v':V}{u u':Value},dF d<=n->bB d=true->bB d'=true->Rep X.K H d v->RelV v u->Rep X.K H d' v'->RelV v' u'->A.units+n+2<cLine ->
  uB A s u u' (cK d d'):=by
 intro n
 induction n with
 |zero =>
  intro d d' A v v' u u' hn p p' r rv r' bG hu
  have mH:A.units<cLine:=by omega
  rcases rJ p with q|⟨ds,rfl⟩
  ·rcases rJ p' with q'|⟨jB,rfl⟩
   ·exact sY q q' r rv r' bG
   ·obtain⟨b,us,rfl,h2,q2⟩:=r'.bK
    cases bG
    obtain⟨aD,r1,p1,_⟩:=I.tuple h2
    have:=(gX p1 mH q r rv).2
    have e:cK d (.tup jB)=false:=by cases d<;>first|rfl|cases q
    rw[e];exact this
  ·simp only[dF]at hn;omega
 |succ n ih =>
  intro d d' A v v' u u' hn p p' r rv r' bG hu
  have mH:A.units<cLine:=by omega
  rcases rJ p with q|⟨ds,rfl⟩
  ·rcases rJ p' with q'|⟨jB,rfl⟩
   ·exact sY q q' r rv r' bG
   ·obtain⟨b,us,rfl,h2,q2⟩:=r'.bK
    cases bG
    obtain⟨aD,r1,p1,_⟩:=I.tuple h2
    have:=(gX p1 mH q r rv).2
    have e:cK d (.tup jB)=false:=by cases d<;>first|rfl|cases q
    rw[e];exact this
  ·obtain⟨a,vs,rfl,h1,q1⟩:=r.bK
   cases rv
   rcases rJ p' with q'|⟨jB,rfl⟩
   ·obtain⟨aD,r1,p1,_⟩:=I.tuple h1
    have:=(gX p1 mH q' r' bG).1
    have e:cK (.tup ds) d'=false:=by cases d'<;>first|rfl|cases q'
    rw[e];exact this
   ·obtain⟨b,us,rfl,h2,q2⟩:=r'.bK
    cases bG
    have pd:bF ds=true:=by simpa [bB]using p
    have pd':bF jB=true:=by simpa [bB]using p'
    have e0:cK (.tup ds) (.tup jB)=jD ds jB:=by simp only[cK]
    rw[e0]
    refine G5 I (fun j=>match ds[j]?,jB[j]? with|some x,some y=>cK x y|_,_=>true) h1 h2 mH (fun e=>?_) (fun j v v' u u' e1 e2 rv bG=>?_) ?_
    ·subst e
     have:=wW I (dF (.tup ds)) (bb _) p p' r r'
     cases this
     exact lC ds pd
    ·obtain⟨x,f1,g1⟩:=aJ.get' q1 e1
     obtain⟨y,f2,g2⟩:=aJ.get' q2 e2
     simp only[f1,f2]
     have hx:=nO (cw f1)
     simp only[dF]at hn
     exact(ih (by omega) (lQ pd (cw f1)) (lQ pd' (cw f2)) g1 rv g2 bG (by simp only[n5];omega)).2.1
    ·rw[<-q1.length,<-q2.length]
     exact zM _ fun j x y e1 e2=>by simp only[e1,e2]
end
noncomputable def oS (st:aB):D->Option (List D)
 |.ref a=>match st a with
  |some (.lst xs)=>some xs
  |_=>none
 |.bD xs=>some xs
 |_=>none
theorem kinds {st:aB}{d:D}(p:gQ st d=true):mX d=true∨(∃ ds,d=.tup ds/\hJ st ds=true)∨∃ xs,oS st d=some xs/\bF xs=true/\cF xs<=lN:=by
 cases d with
 |tup ds=>exact .inr (.inl ⟨ds,rfl,by simpa [gQ]using p⟩)
 |ref a =>
  simp only[gQ]at p
  cases q:st a with
  |none=>rw[q]at p;cases p
  |some o=>cases o with
   |lst xs =>
    rw[q]at p
    simp only[UK,ay,decide_eq_true_eq]at p
    exact .inr (.inr ⟨xs,by simp [oS,q],p⟩)
   |dic _ _=>rw[q]at p;cases p
   |ins _ _=>rw[q]at p;cases p
   |tab _ _=>rw[q]at p;cases p
 |bD xs =>
  simp only[gQ,ay,decide_eq_true_eq]at p
  exact .inr (.inr ⟨xs,rfl,p⟩)
 |cH _ _=>cases p
 |exc _=>cases p
 |_=>exact .inl rfl
set_option tactic.hygienic true in
theorem AN {st:aB}{d d':D}{xs ys:List D}(h:oS st d=some xs)(h':oS st d'=some ys):bO st d d'=jD xs ys:=by
 cases d with
 |ref a =>
  simp only[oS]at h
  split at h
  ·rename_i zs e
   cases h
   cases d' with
   |ref b =>
    simp only[oS]at h'
    split at h'
    ·rename_i ws e'
     cases h'
     simp only[bO,e,e',CY]
    ·cases h'
   |bD ws=>cases h';simp only[bO,e,CY]
   |_=>cases h'
  ·cases h
 |bD zs =>
  cases h
  cases d' with
  |ref b =>
   simp only[oS]at h'
   split at h'
   ·rename_i ws e'
    cases h'
    simp only[bO,e',CY]
   ·cases h'
  |bD ws=>cases h';simp only[bO]
  |_=>cases h'
 |_=>cases h
theorem zT {st:aB}{d d':D}{xs:List D}(h:oS st d=some xs)(p:mX d'=true):bO st d d'=false/\bO st d' d=false:=by
 cases d<;>first|(cases h;done)|skip
 all_goals (cases d'<;>first|(cases p;done)|exact⟨rfl,rfl⟩|(simp [bO];done))
theorem G6 {st:aB}{d:D}{ds xs:List D}(h:oS st d=some xs):bO st d (.tup ds)=false/\bO st (.tup ds) d=false:=by
 cases d<;>first|(cases h;done)|exact⟨rfl,rfl⟩|(simp [bO];done)
theorem zU {st:aB}{d d':D}(p:mX d=true)(p':mX d'=true):bO st d d'=cK d d':=by
 cases d<;>first|(cases p;done)|skip
 all_goals (cases d'<;>first|(cases p';done)|rfl|(simp [bO,cK];done))
theorem GD {st:aB}{d:D}{ds:List D}(p:mX d=true):bO st d (.tup ds)=false/\bO st (.tup ds) d=false:=by
 cases d<;>first|(cases p;done)|exact⟨rfl,rfl⟩|(simp [bO];done)
theorem kB {st:aB}:∀{ds:List D}{d:D},hJ st ds=true->d∈ds->gQ st d=true
 |e::ds,d,h,m=>by
  simp only[hJ,ay]at h
  rcases List.mem_cons.mp m with rfl|m
  ·exact h.1
  ·exact kB h.2 m
theorem E1 {st:aB}:∀{ds es:List D}(e:Nat->Bool),(∀ j d d',ds[j]? = some d->es[j]? = some d'->e j=bO st d d')->((bc (min ds.length es.length)).all e&&ds.length==es.length)=jF st ds es
 |[],[],e,h=>by simp [jF]
 |[],_::_,e,h=>by simp [jF]
 |_::_,[],e,h=>by simp [jF]
 |d::ds,d'::es,e,h=>by
  have ih:=E1 (fun j=>e (j+1)) fun j x x' e1 e2=>h (j+1) x x' (by simpa using e1) (by simpa using e2)
  have h0:=h 0 d d' rfl rfl
  simp only[jF,ak,vh,kl,ik,km,nr]
  rw[<-ih,h0]
  have hl:(ds.length+1==es.length+1)=(ds.length==es.length):=by simp
  rw[hl,zx]
section
variable {X:Cx}{pz:List (Addr×Obj)}{σ:L2.St}{H:Hp}{s:ah}{st:aB}
set_option tactic.hygienic true in
theorem gC {K:ae}{d:D}{v:V}{xs:List D}(ok:aN K st H)(h:oS st d=some xs)(r:Rep K H d v):∃ a vs,v=.ref a/\dS K H a vs/\aJ K H xs vs:=by
 cases r with
 |ref a =>
 simp only[oS]at h
 split at h
 ·rename_i zs e
  cases h
  obtain⟨vs,g,q⟩:=ok.lst e
  exact⟨a,vs,rfl,dS.of g,q⟩
 ·cases h
 |bD f q=>cases h;exact⟨_,_,rfl,f.sq,q⟩
 |_=>cases h
theorem oZ (I:Inv X pz σ H s):∀{ds es:List D}{vs:List V},bF ds=true->bF es=true->aJ X.K H ds vs->aJ X.K H es vs->ds=es
 |_,_,_,_,_,.nil,.nil=>rfl
 |_,_,_,p,p',.cons h r,.cons h' r'=>by
  simp only[bF,ay]at p p'
  rw[wW I _ (bb _) p.1 p'.1 h h',oZ I p.2 p'.2 r r']
theorem BQ (I:Inv X pz σ H s){a:Addr}{vs us:List V}(h:dS X.K H a vs)(h':eG X.K H a us):False:=by
 obtain⟨aD,_,p1,_⟩:=I.list h
 obtain⟨jts,_,p2,_⟩:=I.tuple h'
 exact ne_of_list_tuple p1.isList p2 rfl
theorem XU (I:Inv X pz σ H s)(ok:aN X.K st H):∀(n:Nat){d d':D}{v:V},dF d<=n->gQ st d=true->gQ st d'=true->Rep X.K H d v->Rep X.K H d' v->bO st d d'=true:=by
 intro n
 induction n with
 |zero =>
  intro d d' v hn p p' r r'
  rcases kinds p with q|⟨ds,rfl,q⟩|⟨xs,q,q1,q2⟩
  ·rcases kinds p' with q'|⟨jB,rfl,q'⟩|⟨ys,q',q1',q2'⟩
   ·rw[zU q q']
    have pd:bB d=true:=by cases d<;>first|rfl|cases q
    have pd':bB d'=true:=by cases d'<;>first|rfl|cases q'
    rw[wW I _ (bb _) pd pd' r r']
    exact yW d' pd'
   ·obtain⟨a,vs,rfl,_⟩:=r'.bK
    cases r<;>cases q
   ·obtain⟨a,vs,rfl,_⟩:=gC ok q' r'
    cases r<;>cases q
  ·simp only[dF]at hn;omega
  ·obtain⟨a,vs,rfl,f1,g1⟩:=gC ok q r
   rcases kinds p' with q'|⟨jB,rfl,q'⟩|⟨ys,q',q1',q2'⟩
   ·cases r'<;>cases q'
   ·obtain⟨b,us,e,f2,g2⟩:=r'.bK
    cases e
    exact(BQ I f1 f2).elim
   ·obtain⟨b,us,e,f2,g2⟩:=gC ok q' r'
    cases e
    cases I.pE f1 f2
    rw[AN q q',oZ I q1 q1' g1 g2]
    exact lC _ q1'
 |succ n ih =>
  intro d d' v hn p p' r r'
  rcases kinds p with q|⟨ds,rfl,q⟩|⟨xs,q,q1,q2⟩
  ·rcases kinds p' with q'|⟨jB,rfl,q'⟩|⟨ys,q',q1',q2'⟩
   ·rw[zU q q']
    have pd:bB d=true:=by cases d<;>first|rfl|cases q
    have pd':bB d'=true:=by cases d'<;>first|rfl|cases q'
    rw[wW I _ (bb _) pd pd' r r']
    exact yW d' pd'
   ·obtain⟨a,vs,rfl,_⟩:=r'.bK
    cases r<;>cases q
   ·obtain⟨a,vs,rfl,_⟩:=gC ok q' r'
    cases r<;>cases q
  ·obtain⟨a,vs,rfl,f1,g1⟩:=r.bK
   rcases kinds p' with q'|⟨jB,rfl,q'⟩|⟨ys,q',q1',q2'⟩
   ·cases r'<;>cases q'
   ·obtain⟨b,us,e,f2,g2⟩:=r'.bK
    cases e
    cases I.pO f1 f2
    simp only[dF]at hn
    have go:∀(ds es:List D)(vs:List V),cF ds<=n->hJ st ds=true->hJ st es=true->aJ X.K H ds vs->aJ X.K H es vs->jF st ds es=true:=by
     intro ds
     induction ds with
     |nil=>intro es vs _ _ _ r r';cases r;cases r';rfl
     |cons d ds ihs =>
      intro es vs hd pp pp' r r'
      cases r with
      |cons r1 r2=>cases r' with
       |cons r1' r2' =>
        simp only[cF]at hd
        simp only[hJ,ay]at pp pp'
        simp only[jF,ay]
        exact⟨ih (by omega) pp.1 pp'.1 r1 r1',ihs _ _ (by omega) pp.2 pp'.2 r2 r2'⟩
    simp only[bO]
    exact go ds jB vs (by omega) q q' g1 g2
   ·obtain⟨b,us,e,f2,g2⟩:=gC ok q' r'
    cases e
    exact(BQ I f2 f1).elim
  ·obtain⟨a,vs,rfl,f1,g1⟩:=gC ok q r
   rcases kinds p' with q'|⟨jB,rfl,q'⟩|⟨ys,q',q1',q2'⟩
   ·cases r'<;>cases q'
   ·obtain⟨b,us,e,f2,g2⟩:=r'.bK
    cases e
    exact(BQ I f1 f2).elim
   ·obtain⟨b,us,e,f2,g2⟩:=gC ok q' r'
    cases e
    cases I.pE f1 f2
    rw[AN q q',oZ I q1 q1' g1 g2]
    exact lC _ q1'
theorem mL {A:cg}{l b:Addr}{aD jts:Array Value}(hl:s.heap.IsList l aD)(hb:s.heap.IsTuple b jts)(hu:A.units<cLine):uB A s (.ref l) (.ref b) false/\uB A s (.ref b) (.ref l) false :=
 ⟨⟨RcAt.list_tuple hl hb hu,EqAt.list_tuple hl hb hu,RcNeAt.list_tuple hl hb hu⟩,⟨RcAt.tuple_list hb hl hu,EqAt.tuple_list hb hl hu,RcNeAt.tuple_list hb hl hu⟩⟩
theorem NW (I:Inv X pz σ H s){A:cg}{a b:Addr}{vs us:List V}{xs ys:List D}(f1:dS X.K H a vs)(g1:aJ X.K H xs vs)(f2:dS X.K H b us)(g2:aJ X.K H ys us)(p1:bF xs=true)(d1:cF xs<=lN)(p2:bF ys=true)
  (hu:A.units+85<cLine):uB A s (.ref a) (.ref b) (jD xs ys):=by
 refine SD I (fun j=>match xs[j]?,ys[j]? with|some x,some y=>cK x y|_,_=>true) f1 f2 (by omega) (fun e=>?_) (fun j v v' u u' e1 e2 rv bG=>?_) (fun h=>?_) (fun h=>?_)
 ·subst e
  cases I.pE f1 f2
  rw[oZ I p1 p2 g1 g2]
  exact lC _ p2
 ·obtain⟨x,h1,k1⟩:=aJ.get' g1 e1
  obtain⟨y,h2,k2⟩:=aJ.get' g2 e2
  simp only[h1,h2]
  have hx:=nO (cw h1)
  have hD:lN=80:=rfl
  exact(Nm I lN (by omega) (lQ p1 (cw h1)) (lQ p2 (cw h2)) k1 rv k2 bG (by simp only[n5];omega)).2.1
 ·exact FT (by rw[g1.length,g2.length];exact h)
 ·rw[<-g1.length]
  exact NG _ (by rw[g1.length,g2.length];exact h) fun j x y e1 e2=>by simp only[e1,e2]
theorem RF (I:Inv X pz σ H s)(ok:aN X.K st H):∀(n:Nat){d d':D}{A:cg}{v v':V}{u u':Value},dF d<=n->gQ st d=true->gQ st d'=true->Rep X.K H d v->RelV v u->Rep X.K H d' v'->RelV v' u'->A.units+n+85<cLine ->
  uB A s u u' (bO st d d'):=by
 intro n
 induction n with
 |zero =>
  intro d d' A v v' u u' hn p p' r rv r' bG hu
  have mH:A.units<cLine:=by omega
  rcases kinds p with q|⟨ds,rfl,q⟩|⟨xs,q,q1,q2⟩
  ·rcases kinds p' with q'|⟨jB,rfl,q'⟩|⟨ys,q',q1',q2'⟩
   ·rw[zU q q'];exact sY q q' r rv r' bG
   ·obtain⟨b,us,rfl,h2,g2⟩:=r'.bK
    cases bG
    obtain⟨aD,r1,p1,_⟩:=I.tuple h2
    rw[(GD q).1]
    exact(gX p1 mH q r rv).2
   ·obtain⟨b,us,rfl,h2,g2⟩:=gC ok q' r'
    cases bG
    obtain⟨aD,r1,p1,_⟩:=I.list h2
    rw[(zT q' q).2]
    exact(kP p1.isList mH q r rv).2
  ·simp only[dF]at hn;omega
  ·obtain⟨a,vs,rfl,f1,g1⟩:=gC ok q r
   cases rv
   obtain⟨aD,r1,p1,_⟩:=I.list f1
   rcases kinds p' with q'|⟨jB,rfl,q'⟩|⟨ys,q',q1',q2'⟩
   ·rw[(zT q q').1]
    exact(kP p1.isList mH q' r' bG).1
   ·obtain⟨b,us,rfl,h2,g2⟩:=r'.bK
    cases bG
    obtain⟨jts,r2,p2,_⟩:=I.tuple h2
    rw[(G6 q).1]
    exact(mL p1.isList p2 mH).1
   ·obtain⟨b,us,rfl,h2,g2⟩:=gC ok q' r'
    cases bG
    rw[AN q q']
    exact NW I f1 g1 h2 g2 q1 q2 q1' (by omega)
 |succ n ih =>
  intro d d' A v v' u u' hn p p' r rv r' bG hu
  have mH:A.units<cLine:=by omega
  rcases kinds p with q|⟨ds,rfl,q⟩|⟨xs,q,q1,q2⟩
  ·rcases kinds p' with q'|⟨jB,rfl,q'⟩|⟨ys,q',q1',q2'⟩
   ·rw[zU q q'];exact sY q q' r rv r' bG
   ·obtain⟨b,us,rfl,h2,g2⟩:=r'.bK
    cases bG
    obtain⟨aD,r1,p1,_⟩:=I.tuple h2
    rw[(GD q).1]
    exact(gX p1 mH q r rv).2
   ·obtain⟨b,us,rfl,h2,g2⟩:=gC ok q' r'
    cases bG
    obtain⟨aD,r1,p1,_⟩:=I.list h2
    rw[(zT q' q).2]
    exact(kP p1.isList mH q r rv).2
  ·obtain⟨a,vs,rfl,f1,g1⟩:=r.bK
   cases rv
   obtain⟨aD,r1,p1,_⟩:=I.tuple f1
   rcases kinds p' with q'|⟨jB,rfl,q'⟩|⟨ys,q',q1',q2'⟩
   ·rw[(GD q').2]
    exact(gX p1 mH q' r' bG).1
   ·obtain⟨b,us,rfl,h2,g2⟩:=r'.bK
    cases bG
    have e0:bO st (.tup ds) (.tup jB)=jF st ds jB:=by simp only[bO]
    refine G5 I (fun j=>match ds[j]?,jB[j]? with|some x,some y=>bO st x y|_,_=>true) f1 h2 mH (fun e=>?_) (fun j v v' u u' e1 e2 rv bG=>?_) ?_
    ·subst e
     exact XU I ok _ (bb _) p p' r r'
    ·obtain⟨x,k1,l1⟩:=aJ.get' g1 e1
     obtain⟨y,k2,l2⟩:=aJ.get' g2 e2
     simp only[k1,k2]
     have hx:=nO (cw k1)
     simp only[dF]at hn
     exact(ih (by omega) (kB q (cw k1)) (kB q' (cw k2)) l1 rv l2 bG (by simp only[n5];omega)).2.1
    ·rw[<-g1.length,<-g2.length,e0]
     exact E1 _ fun j x y e1 e2=>by simp only[e1,e2]
   ·obtain⟨b,us,rfl,h2,g2⟩:=gC ok q' r'
    cases bG
    obtain⟨jts,r2,p2,_⟩:=I.list h2
    rw[(G6 q').2]
    exact(mL p2.isList p1 mH).2
  ·obtain⟨a,vs,rfl,f1,g1⟩:=gC ok q r
   cases rv
   obtain⟨aD,r1,p1,_⟩:=I.list f1
   rcases kinds p' with q'|⟨jB,rfl,q'⟩|⟨ys,q',q1',q2'⟩
   ·rw[(zT q q').1]
    exact(kP p1.isList mH q' r' bG).1
   ·obtain⟨b,us,rfl,h2,g2⟩:=r'.bK
    cases bG
    obtain⟨jts,r2,p2,_⟩:=I.tuple h2
    rw[(G6 q).1]
    exact(mL p1.isList p2 mH).1
   ·obtain⟨b,us,rfl,h2,g2⟩:=gC ok q' r'
    cases bG
    rw[AN q q']
    exact NW I f1 g1 h2 g2 q1 q2 q1' (by omega)
end
mutual
inductive UJ (h:Heap):D->Value->Prop where
 |str (x:List Nat)(t:Tok):UJ h (.str x) (.str ⟨x.toArray⟩ t)
 |bl (b:Bool):UJ h (.bl b) (.bool b)
 |tup {ds:List D}{a:Addr}{o:Obj}{aD:Array Value}{n:Nat}(e:h.get? a=some o)(c:o.cls=.type "tuple")(d:o.data=.seq aD n)(r:LA h ds aD.toList):UJ h (.tup ds) (.ref a)
inductive LA (h:Heap):List D->List Value->Prop where
 |nil:LA h [] []
 |cons {d:D}{ds:List D}{v:Value}{vs:List Value}(r:UJ h d v)(rs:LA h ds vs):LA h (d::ds) (v::vs)
end
noncomputable instance decD:DecidableEq D:=fun a b=>Classical.propDecidable (a=b)
def nV (X:Cx)(op:CmpOp)(W:D->D->aB->(Bool->Prop)->Prop):Prop :=
 ∀(pz:List (Addr×Obj))(s:ah)(σ:L2.St)(H:Hp)(st:aB)(d d':D)(v v':V)(u u':Value)(P:Bool->Prop),Inv X pz σ H s->aN X.K st H->Rep X.K H d v->RelV v u->Rep X.K H d' v'->RelV v' u'->W d d' st P ->
 wpAny (model X.prog X.w) X.A (qa op u u') (fun r s'=>∃ k,r=.bool k/\P k/\Inv X pz σ H s') X.xe s
theorem AR (w:List Nat):∀ z:List Nat,occurs w z=true↔∃ i,i+w.length<=z.length/\(z.drop i).take w.length=w
 |[]=>by
  unfold occurs
  constructor
  ·intro h;rw[yp]at h;subst h;exact⟨0,by simp,by simp⟩
  ·rintro⟨i,h,_⟩;rw[yp];exact List.length_eq_zero_iff.mp (by simp only[aj]at h;omega)
 |c::r=>by
  unfold occurs
  rw[i9,AR w r,List.isPrefixOf_iff_prefix]
  constructor
  ·rintro(h|⟨i,h1,h2⟩)
   ·exact⟨0,by have:=h.length_le;omega,by rw[kc];exact(List.prefix_iff_eq_take.mp h).symm⟩
   ·exact⟨i+1,by simp;omega,by simpa using h2⟩
  ·rintro⟨i,h1,h2⟩
   cases i with
   |zero=>exact .inl (by rw[kc]at h2;rw[List.prefix_iff_eq_take];exact h2.symm)
   |succ i=>exact .inr ⟨i,by simp at h1;omega,by simpa using h2⟩
theorem C3 (w z:List Nat):(!(ef ⟨z.toArray⟩ ⟨w.toArray⟩ 0 (⟨z.toArray⟩:Str).length 1).isEmpty)=occurs w z:=by
 rw[gq,PySem.StrLaws.found_iff,AR]
 refine⟨fun⟨i,h1,h2⟩=>⟨i,by simpa [c7]using h1,?_⟩,fun⟨i,h1,h2⟩=>⟨i,by simpa [c7]using h1,?_⟩⟩
 ·unfold ye at h2
  have:=eq_of_beq h2
  simp only[c7,av]at this
  have e:=congrArg xv this
  simp only[vt,qy,tz]at e
  exact e
 ·unfold ye
  rw[beq_iff_eq]
  simp only[c7,av]
  apply Array.toList_inj.mp
  simp only[vt,qy,tz]
  exact h2
section
variable {X:Cx}{C:aS}{sub:Nat->Nat->Bool}{E:XK}{a b c e:b7}{x y z:Ex}{pos:Pos}
theorem Kl (hu:X.A.units+180<cLine):nV X .Eq (cO .eq):=by
 intro pz s σ H st d d' v v' u u' P I ok r rv r' bG ⟨p,p',q⟩
 have hD:lN=80:=rfl
 exact(RF I ok 80 (by have:=p.2;omega) p.1 p'.1 r rv r' bG (by omega)).1 _ _ _ _ ⟨_,rfl,q,I⟩
theorem Ks (hu:X.A.units+180<cLine):nV X .NotEq (cO .ne):=by
 intro pz s σ H st d d' v v' u u' P I ok r rv r' bG ⟨p,p',q⟩
 have hD:lN=80:=rfl
 exact(RF I ok 80 (by have:=p.2;omega) p.1 p'.1 r rv r' bG (by omega)).2.2 _ _ _ _ ⟨_,rfl,q,I⟩
theorem ER {op:CmpOp}{o:nF}{f:Int->Int->Bool}(hW:∀ d d' st P,cO o d d' st P=sP f d d' P)
  (rule:∀(i j:Int)(t u:Tok)(Q:Value->ah->Prop)(s:ah),Q (.bool (f i j)) s->wpAny (model X.prog X.w) X.A (qa op (.int i t) (.int j u)) Q X.xe s):nV X op (cO o):=by
 intro pz s σ H st d d' v v' u u' P I ok r rv r' bG q
 rw[hW]at q
 unfold sP at q
 split at q
 ·cases r.int_inv;cases r'.int_inv
  obtain⟨t,rfl⟩:=rv
  obtain⟨t',rfl⟩:=bG
  exact rule _ _ _ _ _ _ ⟨_,rfl,q,I⟩
 ·exact q.elim
theorem Md:nV X .Lt (cO .lt):=ER (fun _ _ _ _=>rfl) fun _ _ _ _ _ _ h=>lt_int h
theorem Kq:nV X .LtE (cO .le):=ER (fun _ _ _ _=>rfl) fun _ _ _ _ _ _ h=>le_int h
theorem Lv:nV X .Gt (cO .gt):=ER (fun _ _ _ _=>rfl) fun _ _ _ _ _ _ h=>gt_int h
theorem Kp:nV X .GtE (cO .ge):=ER (fun _ _ _ _=>rfl) fun _ _ _ _ _ _ h=>ge_int h
theorem NZ {pz:List (Addr×Obj)}{s:ah}{σ:L2.St}{H:Hp}{a:Addr}{vs us:List V}(I:Inv X pz σ H s)(h:H a=some (.lst vs))(f:mR X.K H a us):False:=by
 rcases f with⟨o,e⟩|⟨o,_,_,e,_⟩
 ·rw[h]at e;cases e
 ·have:=(I.bs a o (I.ok.mod.kin a o e)).2
  rw[h]at this;cases this
set_option tactic.hygienic true in
theorem RB {pz:List (Addr×Obj)}{s:ah}{σ:L2.St}{H:Hp}{st:aB}(I:Inv X pz σ H s)(ok:aN X.K st H):∀(n:Nat){d d':D}{v:V},dF d<=n->gQ st d=true->gQ st d'=true->Rep X.K H d v->Rep X.K H d' v->d=d':=by
 have lists:∀{d d':D}{v:V}{xs ys:List D},oS st d=some xs->oS st d'=some ys->bF xs=true->bF ys=true->Rep X.K H d v->Rep X.K H d' v->d=d':=by
  intro d d' v xs ys q q' p p' r r'
  cases r with
  |ref a=>cases r' with
   |ref _=>rfl
   |bD f g =>
    simp only[oS]at q
    split at q
    ·rename_i e
     obtain⟨vs,h,_⟩:=ok.lst e
     exact(NZ I h f).elim
    ·cases q
   |_=>cases q'
  |bD f g=>cases r' with
   |ref _ =>
    simp only[oS]at q'
    split at q'
    ·rename_i e
     obtain⟨vs,h,_⟩:=ok.lst e
     exact(NZ I h f).elim
    ·cases q'
   |bD f' g' =>
    cases q;cases q'
    cases I.pE f.sq f'.sq
    rw[oZ I p p' g g']
   |_=>cases q'
  |_=>cases q
 intro n
 induction n with
 |zero =>
  intro d d' v hn p p' r r'
  rcases kinds p with q|⟨ds,rfl,q⟩|⟨xs,q,q1,q2⟩
  ·cases r<;>cases r'<;>first|rfl|(cases q;done)|skip
  ·simp only[dF]at hn;omega
  ·obtain⟨a,vs,rfl,f1,g1⟩:=gC ok q r
   rcases kinds p' with q'|⟨jB,rfl,q'⟩|⟨ys,q',q1',q2'⟩
   ·cases r'<;>cases q'
   ·obtain⟨b,us,e,f2,g2⟩:=r'.bK
    cases e
    exact(BQ I f1 f2).elim
   ·exact lists q q' q1 q1' r r'
 |succ n ih =>
  intro d d' v hn p p' r r'
  rcases kinds p with q|⟨ds,rfl,q⟩|⟨xs,q,q1,q2⟩
  ·cases r<;>cases r'<;>first|rfl|(cases q;done)|skip
  ·obtain⟨a,vs,rfl,f1,g1⟩:=r.bK
   rcases kinds p' with q'|⟨jB,rfl,q'⟩|⟨ys,q',q1',q2'⟩
   ·cases r'<;>cases q'
   ·obtain⟨b,us,e,f2,g2⟩:=r'.bK
    cases e
    cases I.pO f1 f2
    simp only[dF]at hn
    have go:∀(ds es:List D)(vs:List V),cF ds<=n->hJ st ds=true->hJ st es=true->aJ X.K H ds vs->aJ X.K H es vs->ds=es:=by
     intro ds
     induction ds with
     |nil=>intro es vs _ _ _ r r';cases r;cases r';rfl
     |cons d ds ihs =>
      intro es vs hd pp pp' r r'
      cases r with
      |cons r1 r2=>cases r' with
       |cons r1' r2' =>
        simp only[cF]at hd
        simp only[hJ,ay]at pp pp'
        rw[ih (by omega) pp.1 pp'.1 r1 r1',ihs _ _ (by omega) pp.2 pp'.2 r2 r2']
    rw[go ds jB vs (by omega) q q' g1 g2]
   ·obtain⟨b,us,e,f2,g2⟩:=gC ok q' r'
    cases e
    exact(BQ I f2 f1).elim
  ·obtain⟨a,vs,rfl,f1,g1⟩:=gC ok q r
   rcases kinds p' with q'|⟨jB,rfl,q'⟩|⟨ys,q',q1',q2'⟩
   ·cases r'<;>cases q'
   ·obtain⟨b,us,e,f2,g2⟩:=r'.bK
    cases e
    exact(BQ I f1 f2).elim
   ·exact lists q q' q1 q1' r r'
theorem CV {pz:List (Addr×Obj)}{s:ah}{σ:L2.St}{H:Hp}{st:aB}(I:Inv X pz σ H s)(ok:aN X.K st H){ds:List D}{vs:List V}{aD:List Value}{d:D}{v:V}{u:Value}{A:cg}
  (g:aJ X.K H ds vs)(r:aR vs aD)(p:dR st ds)(pd:plainS st d)(rd:Rep X.K H d v)(rv:RelV v u)(hu:A.units+178<cLine):
  ∃ e:Value->Bool,(∀ y,y∈aD.toArray->EqAt A.in1 s y u (e y))/\aD.toArray.any e=ds.any fun d'=>bO st d' d:=by
 classical
 have hD:lN=80:=rfl
 have item:∀(d':D)(v':V)(y:Value),d'∈ds->Rep X.K H d' v'->RelV v' y->EqAt A.in1 s y u (bO st d' d):=fun d' v' y m r' bG=>by
  have h1:=nO m
  have h2:=p.2
  exact(RF I ok 80 (by omega) (kB p.1 m) pd.1 r' bG rd rv (by simp only[n5];omega)).2.1
 let e:Value->Bool:=fun y=>decide (∃ d' v',d'∈ds/\Rep X.K H d' v'/\RelV v' y/\bO st d' d=true)
 have he:∀(d':D)(v':V)(y:Value),d'∈ds->Rep X.K H d' v'->RelV v' y->e y=bO st d' d:=fun d' v' y m r' bG=>by
  show decide _=_
  cases q:bO st d' d with
  |true=>exact decide_eq_true ⟨d',v',m,r',bG,q⟩
  |false =>
   refine decide_eq_false fun⟨d2,v2,m2,r2,rv2,q2⟩=>?_
   cases RelV.inj bG rv2
   have:=RB I ok _ (bb _) (kB p.1 m) (kB p.1 m2) r' r2
   subst this
   rw[q]at q2;cases q2
 refine⟨e,fun y hy=>?_,?_⟩
 ·obtain⟨j,hj,rfl⟩:=Array.mem_iff_getElem.mp hy
  obtain⟨v',e1,e2⟩:=aR.at r hj
  obtain⟨d',e3,e4⟩:=aJ.get' g e1
  rw[he d' v' _ (cw e3) e4 e2]
  exact item d' v' _ (cw e3) e4 e2
 ·have go:∀(es:List D)(vs:List V)(aD:List Value),(∀ d∈es,d∈ds)->aJ X.K H es vs->aR vs aD->aD.any e=es.any fun d'=>bO st d' d:=by
   intro es
   induction es with
   |nil=>intro vs aD _ g r;cases g;cases r;rfl
   |cons d1 es ih =>
    intro vs aD hm g r
    cases g with
    |cons g1 g2=>cases r with
     |cons r1 r2 =>
      simp only[j7]
      rw[he d1 _ _ (hm d1 (by simp)) g1 r1,ih _ _ (fun d m=>hm d (by simp [m])) g2 r2]
  rw[List.any_toArray]
  exact go ds vs aD (fun _ m=>m) g r
theorem QF (k x:Str):(decide (k=x))=(x.cps.toList==k.cps.toList):=by
 by_cases h:k=x
 ·subst h;simp
 ·rw[decide_eq_false h]
  symm
  refine beq_eq_false_iff_ne.mpr fun e=>h ?_
  obtain⟨⟨k⟩⟩:=k
  obtain⟨⟨x⟩⟩:=x
  have e:x=k:=e
  subst e;rfl
theorem BP {pz:List (Addr×Obj)}{s:ah}{σ:L2.St}{H:Hp}{a:Addr}{T:List (Str×PyData)}(I:Inv X pz σ H s)(h:vq r9 (fun b=>X.K.lookup b) a T=true):KTD.Here s.heap s.heap a (T.map fun p=>(p.1,ur p.2)) :=
 ⟨(KTD.tab_of_look (fun d v=>KTD.flat_of_looks) (fun a o e=>I.jQ a o e) h).text,fun _ _ e=>e⟩
theorem KD (k:List Nat):∀(T:List (Str×PyData)),KTD.inKeys (⟨k.toArray⟩:Str) (T.map fun p=>(p.1,ur p.2))=(T.map fun p=>D.str p.1.cps.toList).any fun d=>cK d (.str k)
 |[]=>rfl
 |(x,d)::T=>by
  show(decide ((⟨k.toArray⟩:Str)=x)||KTD.inKeys _ _)=((x.cps.toList==k)||_)
  rw[KD k T,QF]
theorem ZF (hu:X.A.units+180<cLine):nV X .In (cO .in_)/\nV X .NotIn (cO .gS):=by
 have main:∀(neg:Bool)(pz:List (Addr×Obj))(s:ah)(σ:L2.St)(H:Hp)(st:aB)(d d':D)(v v':V)(u u':Value)(P:Bool->Prop),Inv X pz σ H s->aN X.K st H->Rep X.K H d v->RelV v u->Rep X.K H d' v'->RelV v' u' ->
   G3 d d' st (fun b=>P (if neg then !b else b))->wpAny (model X.prog X.w) X.A (qa (if neg then .NotIn else .In) u u') (fun r s'=>∃ k,r=.bool k/\P k/\Inv X pz σ H s') X.xe s:=by
  intro neg pz s σ H st d d' v v' u u' P I ok r rv r' bG q
  have lst:∀(a:Addr)(vs:List V)(ds:List D),dS X.K H a vs->aJ X.K H ds vs->plainS st d->dR st ds->P (if neg then !(ds.any fun d'=>bO st d' d)else ds.any fun d'=>bO st d' d) ->
    wpAny (model X.prog X.w) X.A (qa (if neg then .NotIn else .In) u (.ref a)) (fun r s'=>∃ k,r=.bool k/\P k/\Inv X pz σ H s') X.xe s:=by
   intro a vs ds f g pd ps q
   obtain⟨aD,r1,p1,_⟩:=I.list f
   obtain⟨e,he,ha⟩:=CV I ok g r1 ps pd r rv (A:=X.A) (by omega)
   rw[<-ha]at q
   cases neg with
   |true=>exact notIn_listAt e p1.isList he ⟨_,rfl,q,I⟩
   |false=>exact in_listAt e p1.isList he ⟨_,rfl,q,I⟩
  unfold G3 at q
  split at q
  ·obtain⟨a,vs,rfl,f,g⟩:=r'.bK
   cases bG
   obtain⟨aD,r1,p1,_⟩:=I.tuple f
   obtain⟨pd,ps,q⟩:=q
   obtain⟨e,he,ha⟩:=CV I ok g r1 ps pd r rv (A:=X.A) (by omega)
   rw[<-ha]at q
   cases neg with
   |true=>exact notIn_tupleAt e p1 he ⟨_,rfl,q,I⟩
   |false=>exact in_tupleAt e p1 he ⟨_,rfl,q,I⟩
  ·cases r'.dQ
   cases bG
   obtain⟨ds,e1,pd,ps,q⟩:=pQ ok q
   obtain⟨vs,g1,g2⟩:=ok.lst e1
   exact lst _ vs ds (dS.of g1) g2 pd ps q
  ·obtain⟨a,rfl,T,h1,_,h2,_⟩:=r'.HJ
   cases bG
   cases r.str_inv
   obtain⟨t,rfl⟩:=rv
   rw[h2,<-KD]at q
   cases neg with
   |true=>exact KTD.notin_text (BP I h1) ⟨_,rfl,q,I.tok _⟩
   |false=>exact KTD.in_text (BP I h1) ⟨_,rfl,q,I.tok _⟩
  ·obtain⟨a,vs,rfl,f,g⟩:=r'.kS
   cases bG
   exact lst a vs _ f.sq g q.1 q.2.1 q.2.2
  ·cases r.str_inv;cases r'.str_inv
   cases neg with
   |true =>
    refine bA (FL (X:=X) pz s σ H _ _ _ _ (fun v H'=>H'=H/\∃ k,v=.bl k/\P k) I rv bG ⟨_,_,rfl,rfl,rfl,_,rfl,?_⟩) fun r s1 ⟨v,H',I1,r1,e,k,e',q'⟩=>?_
    ·rw[C3];exact q
    ·subst e e';cases r1;exact⟨k,rfl,q',I1⟩
   |false =>
    refine bA (QE (X:=X) pz s σ H _ _ _ _ (fun v H'=>H'=H/\∃ k,v=.bl k/\P k) I rv bG ⟨_,_,rfl,rfl,rfl,_,rfl,?_⟩) fun r s1 ⟨v,H',I1,r1,e,k,e',q'⟩=>?_
    ·rw[C3];exact q
    ·subst e e';cases r1;exact⟨k,rfl,q',I1⟩
  ·exact q.elim
 exact⟨fun pz s σ H st d d' v v' u u' P I ok r rv r' bG q=>main false pz s σ H st d d' v v' u u' P I ok r rv r' bG q,fun pz s σ H st d d' v v' u u' P I ok r rv r' bG q=>main true pz s σ H st d d' v v' u u' P I ok r rv r' bG q⟩
theorem C5 {K:ae}{H:Hp}{d:D}{v:V}{u:Value}(r:Rep K H d v)(rv:RelV v u):(u==fo)=EY d:=by
 rw[rv.RP]
 cases r<;>rfl
set_option tactic.hygienic true in
theorem Bz:nV X .Is (cO .is_)/\nV X .IsNot (cO .isnot):=by
 constructor
 ·intro pz s σ H st d d' v v' u u' P I ok r rv r' bG q
  have q:AF d d' P:=q
  unfold AF at q
  split at q
  ·cases r'.gG;cases bG
   exact is_none_gen ⟨_,rfl,by rw[C5 r rv];exact q,I⟩
  ·rename_i b
   cases r'.fZ;cases bG
   cases r with
   |bl c=>cases rv;exact is_bool ⟨_,rfl,q,I⟩
   |non=>cases rv;exact kd rfl (by intro z;cases z) ⟨_,rfl,q,I⟩
   |int i=>obtain⟨t,rfl⟩:=rv;exact kd rfl (by intro z;cases z) ⟨_,rfl,q,I⟩
   |str z=>obtain⟨t,rfl⟩:=rv;exact kd rfl (by intro z;cases z) ⟨_,rfl,q,I⟩
   |tup _ _=>cases rv;exact kd rfl (by intro z;cases z) ⟨_,rfl,q,I⟩
   |ref _=>cases rv;exact kd rfl (by intro z;cases z) ⟨_,rfl,q,I⟩
   |bD _ _=>cases rv;exact kd rfl (by intro z;cases z) ⟨_,rfl,q,I⟩
   |cH _=>cases rv;exact kd rfl (by intro z;cases z) ⟨_,rfl,q,I⟩
  ·exact q.elim
 ·intro pz s σ H st d d' v v' u u' P I ok r rv r' bG q
  have q:AF d d' (fun b=>P (!b)):=q
  unfold AF at q
  split at q
  ·cases r'.gG;cases bG
   exact isnot_none_gen ⟨_,rfl,by rw[C5 r rv];exact q,I⟩
  ·rename_i b
   cases r'.fZ;cases bG
   cases r with
   |bl c=>cases rv;exact isnot_bool ⟨_,rfl,q,I⟩
   |non=>cases rv;exact iu rfl (by intro z;cases z) ⟨_,rfl,q,I⟩
   |int i=>obtain⟨t,rfl⟩:=rv;exact iu rfl (by intro z;cases z) ⟨_,rfl,q,I⟩
   |str z=>obtain⟨t,rfl⟩:=rv;exact iu rfl (by intro z;cases z) ⟨_,rfl,q,I⟩
   |tup _ _=>cases rv;exact iu rfl (by intro z;cases z) ⟨_,rfl,q,I⟩
   |ref _=>cases rv;exact iu rfl (by intro z;cases z) ⟨_,rfl,q,I⟩
   |bD _ _=>cases rv;exact iu rfl (by intro z;cases z) ⟨_,rfl,q,I⟩
   |cH _=>cases rv;exact iu rfl (by intro z;cases z) ⟨_,rfl,q,I⟩
  ·exact q.elim
noncomputable def jL:nF->CmpOp
 |.eq=>.Eq|.ne=>.NotEq|.lt=>.Lt|.le=>.LtE|.gt=>.Gt|.ge=>.GtE|.is_=>.Is|.isnot=>.IsNot|.in_=>.In|.gS=>.NotIn
theorem wR (hu:X.A.units+180<cLine):∀ o:nF,nV X (jL o) (cO o)
 |.eq=>Kl hu
 |.ne=>Ks hu
 |.lt=>Md
 |.le=>Kq
 |.gt=>Lv
 |.ge=>Kp
 |.is_=>Bz.1
 |.isnot=>Bz.2
 |.in_=>(ZF hu).1
 |.gS=>(ZF hu).2
theorem Je {o:nF}(hu:X.A.units+180<cLine)(ha:PE X a (bT X.K (aF C sub E x)))(hb:PE X b (bT X.K (aF C sub E y)))(hm:kv (jL o) b=false):PE X (.Compare a [jL o] [b] pos) (bT X.K (aF C sub E (.cmp o x y))):=by
 intro pz s σ H Q I ⟨σd,st,R,r,ok,q,hq⟩
 refine wpAny_Compare1 (bA (ha pz s σ H _ I ⟨σd,st,_,r,ok,q,fun v H' z=>z⟩) fun u s1 ⟨v,H1,I1,rv,d,aC,cT,aU,r1,q1⟩ =>
 bA (hb pz s1 σ H1 _ I1 ⟨σd,aC,_,r.step ok cT,aU,q1,fun v H' z=>z⟩) fun u' s2 ⟨v',H2,I2,bG,d',aG,kO,cI,r2,q2⟩ =>
 bA (wR hu o pz s2 σ H2 aG d d' v v' u u' _ I2 cI (r1.step aU kO) rv r2 bG q2) fun w s3 ⟨k,e,q3,I3⟩=>?_) hm
 subst e
 exact⟨.bl k,H2,I3,rfl,hq _ _ (.after (cT.trans kO) (.here cI (.bl k) q3))⟩
theorem YW {o:nF}(hu:X.A.units+180<cLine)(ha:PE X a (bT X.K (aF C sub E x)))(hb:PE X b (bT X.K (aF C sub E y)))(hm:kv (jL o) b=false):PT X (.Compare a [jL o] [b] pos) (iQ X.K (aF C sub E (.cmp o x y))):=by
 intro pz s σ H Q I ⟨σd,st,R,r,ok,q,hq⟩
 refine vf (bA (ha pz s σ H _ I ⟨σd,st,_,r,ok,q,fun v H' z=>z⟩) fun u s1 ⟨v,H1,I1,rv,d,aC,cT,aU,r1,q1⟩ =>
 bA (hb pz s1 σ H1 _ I1 ⟨σd,aC,_,r.step ok cT,aU,q1,fun v H' z=>z⟩) fun u' s2 ⟨v',H2,I2,bG,d',aG,kO,cI,r2,q2⟩ =>
 bA (wR hu o pz s2 σ H2 aG d d' v v' u u' _ I2 cI (r1.step aU kO) rv r2 bG q2) fun w s3 ⟨k,e,q3,I3⟩=>?_) hm
 subst e
 exact g6 ⟨H2,I3,hq _ _ ⟨aG,cT.trans kO,cI,q3⟩⟩
theorem U0 {o o':nF}(hu:X.A.units+180<cLine)(ha:PE X a (bT X.K (aF C sub E x)))(hb:PE X b (bT X.K (aF C sub E y)))(hc:PE X c (bT X.K (aF C sub E z)))(hm:yq [jL o,jL o'] [b,c]=false):
 PE X (.Compare a [jL o,jL o'] [b,c] pos) (bT X.K (aF C sub E (.chain o o' x y z))):=by
 intro pz s σ H Q I ⟨σd,st,R,r,ok,q,hq⟩
 refine Compare_chain (bA (ha pz s σ H _ I ⟨σd,st,_,r,ok,q,fun v H' z=>z⟩) fun u s1 ⟨v,H1,I1,rv,d,aC,cT,aU,r1,q1⟩ =>
 chain_link (bA (hb pz s1 σ H1 _ I1 ⟨σd,aC,_,r.step ok cT,aU,q1,fun v H' z=>z⟩) fun u' s2 ⟨v',H2,I2,bG,d',aG,kO,cI,r2,q2⟩ =>
 bA (wR hu o pz s2 σ H2 aG d d' v v' u u' _ I2 cI (r1.step aU kO) rv r2 bG q2) fun w s3 ⟨k,e,q3,I3⟩=>?_)) hm
 subst e
 refine g6 ?_
 cases k with
 |false=>exact ite_ff ⟨.bl false,H2,I3,rfl,hq _ _ (.after (cT.trans kO) (.here cI (.bl _) q3))⟩
 |true =>
 refine ite_tt (chain_last (bA (hc pz s3 σ H2 _ I3 ⟨σd,aG,_,(r.step ok cT).step aU kO,cI,q3,fun v H' z=>z⟩) fun u3 s4 ⟨v3,H4,I4,rv3,d3,bY,s4s,IS,r4,q4⟩ =>
  bA (wR hu o' pz s4 σ H4 bY d' d3 v' v3 u' u3 _ I4 IS (r2.step cI s4s) bG r4 rv3 q4) fun w s5 ⟨k,e,q5,I5⟩=>?_))
 subst e
 exact⟨.bl k,H4,I5,rfl,hq _ _ (.after ((cT.trans kO).trans s4s) (.here IS (.bl k) q5))⟩
theorem SY {o o':nF}(hu:X.A.units+180<cLine)(ha:PE X a (bT X.K (aF C sub E x)))(hb:PE X b (bT X.K (aF C sub E y)))(hc:PE X c (bT X.K (aF C sub E z)))(hm:yq [jL o,jL o'] [b,c]=false):
 PT X (.Compare a [jL o,jL o'] [b,c] pos) (iQ X.K (aF C sub E (.chain o o' x y z))):=by
 intro pz s σ H Q I ⟨σd,st,R,r,ok,q,hq⟩
 refine isTrue_chain (bA (ha pz s σ H _ I ⟨σd,st,_,r,ok,q,fun v H' z=>z⟩) fun u s1 ⟨v,H1,I1,rv,d,aC,cT,aU,r1,q1⟩ =>
 test_link (bA (hb pz s1 σ H1 _ I1 ⟨σd,aC,_,r.step ok cT,aU,q1,fun v H' z=>z⟩) fun u' s2 ⟨v',H2,I2,bG,d',aG,kO,cI,r2,q2⟩ =>
 bA (wR hu o pz s2 σ H2 aG d d' v v' u u' _ I2 cI (r1.step aU kO) rv r2 bG q2) fun w s3 ⟨k,e,q3,I3⟩=>?_)) hm
 subst e
 refine g6 ?_
 cases k with
 |false=>exact ite_ff ⟨H2,I3,hq _ _ ⟨aG,cT.trans kO,cI,q3⟩⟩
 |true =>
 refine ite_tt (test_last (bA (hc pz s3 σ H2 _ I3 ⟨σd,aG,_,(r.step ok cT).step aU kO,cI,q3,fun v H' z=>z⟩) fun u3 s4 ⟨v3,H4,I4,rv3,d3,bY,s4s,IS,r4,q4⟩ =>
  bA (wR hu o' pz s4 σ H4 bY d' d3 v' v3 u' u3 _ I4 IS (r2.step cI s4s) bG r4 rv3 q4) fun w s5 ⟨k,e,q5,I5⟩=>?_))
 subst e
 exact g6 ⟨H4,I5,hq _ _ ⟨bY,(cT.trans kO).trans s4s,IS,q5⟩⟩
end
end L3
end
section
namespace L3
open PySem PySem.Spec PyProof.Rows PyProof.V L2
section
variable {X:Cx}{C:aS}{sub:Nat->Nat->Bool}{E:XK}{a b c e:b7}{x y z:Ex}{pos:Pos}
theorem Cu (n:Nat)(i:Int):L2.mB n i=mB n i:=rfl
theorem BO {K:ae}{H:Hp}{ds:List D}{vs:List V}{i:Int}{d:D}(r:aJ K H ds vs)(h:eJ ds i=some d):∃ v,L2.eJ vs i=some v/\Rep K H d v:=by
 unfold eJ at h
 unfold L2.eJ
 rw[Cu,<-r.length]
 cases e:mB ds.length i with
 |none=>rw[e]at h;cases h
 |some j =>
 rw[e]at h
 obtain⟨v,e1,e2⟩:=r.get (i:=j) h
 exact⟨v,e1,e2⟩
noncomputable def Z0 (K:ae):R2:=fun x y H Q=>∃(p:Addr)(T:List (Str×PyData))(k:Str)(d:zv),x=.ref p/\y=.str k/\vq r9 (fun b=>K.lookup b) p T=true/\oq k T=some d/\mT d=true/\∀ v u,RelV v u->Flat u d->Q v H
noncomputable def LC (K:ae):R2:=fun x y H Q=>Jj K x y H Q∨Z0 K x y H Q
theorem tN {k:Str}{d:zv}:∀{T:List (Str×PyData)},oq k T=some d->oq k (T.map fun p=>(p.1,ur p.2))=some (.flat d)
 |[],h=>by cases h
 |(x,e)::T,h=>by
  show(if decide (k=x)=true then some (ur e)else _)=_
  have h:(if decide (k=x)=true then some e else oq k T)=some d:=h
  by_cases c:decide (k=x)=true
  ·rw[if_pos c]at h ⊢;cases h;rfl
  ·rw[if_neg c]at h ⊢;exact tN h
theorem Hl {X:Cx}:uR X (Z0 X.K):=by
 intro value slice pz s σ H x y v u Q I rx ry h hs
 obtain⟨p,T,k,d,rfl,rfl,hT,hd,hsd,q⟩:=h
 cases rx
 obtain⟨t,rfl⟩:=ry
 have hh:=BP I hT
 refine subscriptTail_builtin_flat hh.typeIs slot_dict_getitem.lookup ?_ hs
 unfold ui
 try with_reducible refine jj ?_
 refine af (rj hh.typeIs (by decide) ?_)
 refine af (iq (name:=j3 "__getitem__") hh.typeIs yf
  (ig yf hh.typeIs entry_dict_getitem ?_ (args_dict_getitem _ _)))
 show wpAny _ _ (dictGet p (.str k t) >>= _) _ _ s
 refine af (KTD.dictGet_text hh (fun d' v ha hv=>?_) fun hn=>?_)
 ·rw[tN hd]at ha
  cases ha
  have hv:Flat v d:=hv
  refine aw ⟨v,rfl,aw ⟨Flat.notRef hv,?_⟩⟩
  obtain⟨w,rw'⟩:∃ w,RelV w v:=by
   cases d with
   |none=>cases Flat.none_inv hv;exact⟨.non,rfl⟩
   |bool b=>cases Flat.bool_inv hv;exact⟨.bl b,rfl⟩
   |int i=>obtain⟨t,rfl⟩:=Flat.int_inv hv;exact⟨.int i,⟨t,rfl⟩⟩
   |str x=>obtain⟨t,rfl⟩:=Flat.str_inv hv;exact⟨.str x,⟨t,rfl⟩⟩
   |_=>cases hsd
  exact⟨w,H,I.tok _,rw',q w v rw' hv⟩
 ·rw[tN hd]at hn;cases hn
theorem Y4 {X:Cx}:uR X (LC X.K):=Dt.or Hl
theorem PY {K:ae}(v v':V)(H:Hp)(Q Q':L2.VK)(h:∀ v H,Q v H->Q' v H)(z:LC K v v' H Q):LC K v v' H Q':=by
 rcases z with z|⟨p,T,k,d,e,e',e1,e2,e3,q⟩
 ·refine .inl ?_
  rcases z with⟨p,xs,i,v,e,e',s,t,q⟩|⟨p,xs,i,v,e,e',s,t,q⟩|⟨z,i,c,e,e',s,t,q⟩
  ·exact .inl ⟨p,xs,i,v,e,e',s,t,h _ _ q⟩
  ·exact .inr (.inl ⟨p,xs,i,v,e,e',s,t,h _ _ q⟩)
  ·exact .inr (.inr ⟨z,i,c,e,e',s,t,h _ _ q⟩)
 ·exact .inr ⟨p,T,k,d,e,e',e1,e2,e3,fun v u r f=>h _ _ (q v u r f)⟩
theorem E8 {k:List Nat}{d:D}:∀{T:List (Str×PyData)},(T.all fun p=>mT p.2)=true->oE (T.map fun p=>.str p.1.cps.toList) (T.map fun p=>pV p.2) (.str k)=some d->∃ e,oq (⟨k.toArray⟩:Str) T=some e/\mT e=true/\d=pV e
 |[],_,h=>by cases h
 |(x,e)::T,a,h=>by
  simp only[ik,ay]at a
  have h:(if(x.cps.toList==k)=true then some (pV e)else oE (T.map fun p=>.str p.1.cps.toList) (T.map fun p=>pV p.2) (.str k))=some d:=h
  show ∃ e',(if decide ((⟨k.toArray⟩:Str)=x)=true then some e else oq _ T)=some e'/\_
  rw[QF]
  by_cases c:(x.cps.toList==k)=true
  ·rw[if_pos c]at h;cases h
   exact⟨e,if_pos c,a.1,rfl⟩
  ·rw[if_neg c]at h
   obtain⟨e',h1,h2⟩:=E8 a.2 h
   exact⟨e',(if_neg c).trans h1,h2⟩
theorem RY {K:ae}{H:Hp}{e:zv}{v:V}{u:Value}(s:mT e=true)(r:RelV v u)(f:Flat u e):Rep K H (pV e) v:=by
 cases e with
 |none=>cases Flat.none_inv f;cases RelV.inj r (show RelV .non .none from rfl);exact .non
 |bool b=>cases Flat.bool_inv f;cases RelV.inj r (show RelV (.bl b) (.bool b)from rfl);exact .bl b
 |int i=>obtain⟨t,rfl⟩:=Flat.int_inv f;cases RelV.inj r (show RelV (.int i) (.int i t)from⟨t,rfl⟩);exact .int i
 |str x=>obtain⟨t,rfl⟩:=Flat.str_inv f;cases RelV.inj r (show RelV (.str x) (.str x t)from⟨t,rfl⟩);exact .str x.cps.toList
 |_=>cases s
theorem RI {K:ae}{H:Hp}{st:aB}{R:VK}{d d':D}{v v':V}(ok:aN K st H)(r:Rep K H d v)(r':Rep K H d' v')(h:sG d d' st R):LC K v v' H (QD K H st R):=by
 unfold sG at h
 split at h
 ·obtain⟨a,vs,rfl,f,g⟩:=r.bK
  cases r'.int_inv
  obtain⟨d,e,q⟩:=gL h
  obtain⟨v,e1,e2⟩:=BO g e
  exact .inl (.inr (.inl ⟨a,vs,_,v,rfl,rfl,f,e1,.here ok e2 q⟩))
 ·obtain⟨a,vs,rfl,f,g⟩:=r.kS
  cases r'.int_inv
  obtain⟨d,e,q⟩:=gL h
  obtain⟨v,e1,e2⟩:=BO g e
  exact .inl (.inl ⟨a,vs,_,v,rfl,rfl,f.sq,e1,.here ok e2 q⟩)
 ·cases r.str_inv
  cases r'.int_inv
  obtain⟨l,h⟩:=h
  obtain⟨c,e,q⟩:=gL h
  exact .inl (.inr (.inr ⟨_,_,c,rfl,rfl,by rw[fI];simpa [c7]using l,e,.here ok (.str [c]) q⟩))
 ·obtain⟨a,rfl,T,h1,h2,h3,h4⟩:=r.HJ
  cases r'.str_inv
  obtain⟨d,e,q⟩:=gL h
  rw[h3,h4]at e
  obtain⟨e',e1,e2,rfl⟩:=E8 h2 e
  exact .inr ⟨a,T,_,e',rfl,rfl,h1,e1,e2,fun v u r f=>.here ok (RY e2 r f) q⟩
 ·cases r.dQ
  obtain⟨ds,e,q⟩:=pQ ok h
  obtain⟨vs,g1,g2⟩:=ok.lst e
  split at q
  ·cases r'.int_inv
   obtain⟨d,e,q⟩:=gL q
   obtain⟨v,e1,e2⟩:=BO g2 e
   exact .inl (.inl ⟨_,vs,_,v,rfl,rfl,dS.of g1,e1,.here ok e2 q⟩)
  ·exact q.elim
 ·exact h.elim
theorem Lm (ha:PE X a (bT X.K (aF C sub E x)))(hb:PE X b (bT X.K (aF C sub E y)))(hp:BS b):PE X (.Subscript a b pos) (bT X.K (aF C sub E (.ix x y))) :=
 (Hz Y4 ha hb hp).imp fun σ H Q ⟨σd,st,R,r,ok,q,hq⟩=>by
 exact two (W:=fun d d' aG=>sG d d' aG R) r ok q hq (fun d d' v v' H2 aG cI r1 r2 h=>RI cI r1 r2 h) PY
theorem uG {prog:bq}{w:cq}{A:cg}{E:Value->ah->Prop}{s:ah}{t sl:Addr}{items:Array Value}{vl vu:Value}{lo hi:Option Int}{Q:Value->ah->Prop}(ht:IsTup s.heap t items)(hs:s.heap.IsSliceOf sl vl vu .none)(pl:r8 vl lo)(pu:r8 vu hi)
  (hw:HT.bM items.size 0 lo=0/\HT.bM items.size items.size hi=items.size)(h:Q (.ref t) s):wpAny (model prog w) A (ui (.ref t) (.ref sl)) Q E s:=by
 obtain⟨os,hos,hcs,hds⟩:=id hs
 have hTs:s.TypeIs (.ref sl) "slice":=⟨os,hos,hcs⟩
 unfold ui
 try with_reducible refine jj ?_
 first|refine af (aw ?_)|skip
 refine af (rj ht.typeIs (by decide) ?_)
 refine af (iq (name:=j3 "__getitem__") ht.typeIs g9
  (ig g9 ht.typeIs wo ?_ (xj _ _)))
 show wpAny _ _ (ly (.ref t) >>= _) _ _ s
 refine af (Oj ht ?_)
 refine af (uj hTs ?_)
 rw[if_pos (by decide)]
 refine af (HT.oX hs pl pu ?_)
 have hyes:(((HT.bM items.size 0 lo:Nat):Int)==0&&(1:Int)==1&&(HT.bM items.size items.size hi-HT.bM items.size 0 lo)==items.size)=true:=by
  rw[hw.1,hw.2];simp
 show wpAny _ _ (if(((HT.bM items.size 0 lo:Nat):Int)==0&&(1:Int)==1&&(HT.bM items.size items.size hi-HT.bM items.size 0 lo)==items.size)=true then _ else _) _ _ s
 rw[if_pos hyes]
 have hex:∀{Q:Bool->ah->Prop},Q true s->wpAny (model prog w) A.in1 (qm (.ref t)) Q E s:=fun h=>by
  unfold qm
  exact af (uj ht.typeIs (aw h))
 refine af (hex ?_)
 rw[if_pos rfl]
 exact af (uv (aw ⟨_,rfl,aw h⟩))
theorem NC (n d:Nat)(o:Option Int):HT.bM n d o=bM n d o:=rfl
theorem aJ.cut {K:ae}{H:Hp}{ds:List D}{vs:List V}(r:aJ K H ds vs)(lo hi:Option Int):aJ K H (cut ds lo hi) (cut vs lo hi):=by
 unfold L3.cut
 rw[r.length]
 exact(r.drop _).take _
def Y3 (K:ae):V->Option Int->Option Int->Hp->L2.VK->Prop:=fun x lo hi H Q=>∃ a xs,x=.ref a/\eG K H a xs/\(HT.bM xs.length 0 lo=0/\HT.bM xs.length xs.length hi=xs.length)/\Q (.ref a) H
theorem V8:rW X (Y3 X.K):=by
 intro pz s σ H x v vl vu lo hi sl Q I rx hs pl pu h
 obtain⟨a,xs,rfl,hx,hw,q⟩:=h
 cases rx
 obtain⟨aD,r,ht,hz⟩:=I.tuple hx
 have hlen:aD.toArray.size=xs.length:=by rw[av];exact r.length.symm
 refine⟨"tuple", _,PyProof.Rows.slot_tuple_getitem.lookup,ht.typeIs,?_⟩
 exact uG ht hs pl pu (by rw[hlen];exact hw) ⟨.ref a,H,I,rfl,q⟩
theorem sV (a b:Nat):sliceRange (a:Int) (b:Int) 1=(bc (b-a)).map (fun k=>a+k):=by
 unfold sliceRange
 simp only[show((1:Int)>0)=True from by simp,if_true]
 by_cases h:(a:Int)<b
 ·rw[if_pos h,show(((b:Int)-a+1-1) / 1).toNat=b-a from by rw[Pl];omega]
  refine List.map_congr_left fun k _=>?_
  omega
 ·rw[if_neg h,show b-a=0 from by omega]
  rfl
theorem mQ (v:Int)(n d:Nat):max 0 (min (if v<0 then v+(n:Int)else v) (n:Int))=((L3.bM n d (some v):Nat):Int):=by
 unfold L3.bM;dsimp only;split<;>omega
theorem idx_eq (lo hi:Option Int)(n:Nat):g4 lo hi 1 n=(bc (L3.bM n n hi-L3.bM n 0 lo)).map (fun k=>L3.bM n 0 lo+k):=by
 cases lo with
 |none =>
  cases hi with
  |none =>
   simp only[g4,show((1:Int)>0)=True from by simp,if_true]
   exact sV 0 n
  |some u =>
   simp only[g4,show((1:Int)>0)=True from by simp,if_true]
   rw[mQ u n n]
   exact sV 0 _
 |some v =>
  cases hi with
  |none =>
   simp only[g4,show((1:Int)>0)=True from by simp,if_true]
   rw[mQ v n 0]
   exact sV _ n
  |some u =>
   simp only[g4,show((1:Int)>0)=True from by simp,if_true]
   rw[mQ v n 0,mQ u n n]
   exact sV _ _
theorem G8 (n:Nat)(o:Option Int):L3.bM n n o<=n:=by
 unfold L3.bM
 split
 ·exact bb _
 ·split<;>omega
theorem OJ (x:Str)(lo hi:Option Int):yr x lo hi=⟨(L3.cut x.cps.toList lo hi).toArray⟩:=by
 have hn:x.cps.toList.length=x.length:=by simp [c7]
 have hb:=G8 x.length hi
 unfold yr
 rw[idx_eq]
 unfold L3.cut
 rw[hn]
 generalize L3.bM x.length 0 lo=a
 generalize L3.bM x.length x.length hi=b at hb
 by_cases h:b-a=x.length
 ·rw[if_pos (by simp [h])]
  by_cases z:x.length=0
  ·have:x.cps = #[]:=by simpa [c7]using z
   apply Str.ext'
   show x.cps=_
   rw[h,z,this];simp
  ·have ha:a=0:=by omega
   subst ha
   apply Str.ext'
   show x.cps=_
   rw[h,kc,<-hn,n6]
 ·rw[if_neg (by simp [h])]
  congr 1
  by_cases q:a<=b
  ·have:=StrLaws.picks x.cps.toList (b-a) a (by rw[hn];omega)
   have e:((bc (b-a)).map (fun k=>a+k)).filterMap (fun i=>x.cps[i]?)=((bc (b-a)).map (fun k=>a+k)).filterMap (fun i=>x.cps.toList[i]?):=by simp
   rw[e]
   rw[this]
  ·rw[show b-a=0 from by omega];rfl
def Cp:V->Option Int->Option Int->Hp->L2.VK->Prop:=fun x lo hi H Q=>∃ z:Str,x=.str z/\z.length<=sizeLine/\Q (.str ⟨(L3.cut z.cps.toList lo hi).toArray⟩) H
theorem Qs {v:Value}{o:Option Int}(h:r8 v o):∃ p:Option (Int×Tok),v=partValue p/\p.map (·.1)=o:=by
 cases h with
 |none=>exact⟨none,rfl,rfl⟩
 |int i t=>exact⟨some (i,t),rfl,rfl⟩
theorem WR:rW X Cp:=by
 intro pz s σ H x v vl vu lo hi sl Q I rx hs pl pu h
 obtain⟨z,rfl,hz,q⟩:=h
 obtain⟨t,rfl⟩:=rx
 obtain⟨p1,rfl,rfl⟩:=Qs pl
 obtain⟨p2,rfl,rfl⟩:=Qs pu
 obtain⟨o,e1,e2,e3⟩:=hs
 refine⟨"str", _,F.slot_str_getitem.lookup,qj _ _ _,wpAny_getItem_str_slice (l:=p1) (u:=p2) (st:=none) ⟨o,e1,e2,e3⟩ rfl (post_val_or_str ?_)⟩
 show(yr z _ _).length<=sizeLine/\∀ t' k,EP X pz σ Q (.str (yr z _ _) t') { s with toks:=k }
 refine⟨Nat.le_trans (Txt.slice_le z _ _) hz,fun t' k=>?_⟩
 rw[OJ]
 exact⟨.str _,H,I.tok _,⟨_,rfl⟩,q⟩
abbrev Cn (K:ae):V->Option Int->Option Int->Hp->L2.VK->Prop:=fun x lo hi H Q=>ZX K x lo hi H Q∨Y3 K x lo hi H Q∨Cp x lo hi H Q∨Bt K x lo hi H Q
theorem Bs:rW X (Cn X.K):=rW.or L2.IJ (rW.or V8 (rW.or WR X7))
set_option tactic.hygienic true in
theorem QV {K:ae}{H:Hp}{st:aB}{R:VK}{Q:L2.VK}{d:D}{v:V}{lo hi:Option Int}(ok:aN K st H)(r:Rep K H d v)(h:yM d lo hi st R)(hq:∀ v H',QD K H st R v H'->Q v H'):Cn K v lo hi H Q:=by
 unfold yM at h
 split at h
 ·rename_i ds0
  obtain⟨a,vs,rfl,f,g⟩:=r.bK
  by_cases hw:HT.bM vs.length 0 lo=0/\HT.bM vs.length vs.length hi=vs.length
  ·refine .inr (.inl ⟨a,vs,rfl,f,hw,hq _ _ (.here ok r ?_)⟩)
   have e:L3.cut ds0 lo hi=ds0:=by
    unfold L3.cut
    rw[g.length,<-NC,<-NC,hw.1,hw.2,kc,yg,<-g.length,n6]
   rw[e]at h
   exact h
  ·exact .inl ⟨a,vs,rfl,f,hw,fun p hp=>hq _ _ (.CJ ok (g.cut lo hi) hp h)⟩
 ·cases r.str_inv
  exact .inr (.inr (.inl ⟨_,rfl,by rw[fI];simpa [c7]using h.1,hq _ _ (.here ok (.str _) (by simpa using h.2))⟩))
 ·cases r.dQ
  obtain⟨ds,e,h⟩:=cV h
  obtain⟨vs,g1,g2⟩:=ok.lst e
  exact .inr (.inr (.inr ⟨_,vs,rfl,dS.of g1,fun p hp=>hq _ _ (.fX ok (g2.cut lo hi) hp h)⟩))
 ·exact h.elim
inductive CF (K:ae)(te:St->aB->(List D->aB->Prop)->Prop)(σ:L2.St)(H:Hp)(Q:Option Int->Hp->Prop):Prop where
 |mk (σd:St)(st:aB)(R:Option Int->aB->Prop)(r:bZ K H σd σ)(ok:aN K st H)(q:te σd st (fun ds aA=>mY ds fun o=>R o aA))(hq:∀(o:Option Int) H',QX K H st (R o) H'->Q o H'):CF K te σ H Q
theorem _root_.L2.PO.imp {X:Cx}{e:Option b7}{t t':TO}(i:∀ σ H Q,t' σ H Q->t σ H Q)(h:PO X e t):PO X e t':=fun pz s σ H Q I q=>h pz s σ H Q I (i σ H Q q)
theorem YB:PO X none (CF X.K (bC C sub E [])) :=
 YD.imp fun σ H Q ⟨σd,st,R,r,ok,q,hq⟩=>by
 exact hq _ _ ⟨st,.refl,ok,q⟩
theorem WV (h:PE X e (bT X.K (aF C sub E x))):PO X (some e) (CF X.K (bC C sub E [x])) :=
 (X6 h).imp fun σ H Q ⟨σd,st,R,r,ok,q,hq⟩=>by
 refine⟨σd,st,_,r,ok,q,fun v H1 ⟨d,aC,s1,aU,r1,q1⟩=>?_⟩
 cases d with
 |int i=>cases r1.int_inv;exact⟨i,rfl,hq _ _ ⟨aC,s1,aU,q1⟩⟩
 |_=>exact q1.elim
theorem Mh {lo hi:Option b7}{xl xh:List Ex}{p2:Pos}(ha:PE X a (bT X.K (aF C sub E x)))(hl:PO X lo (CF X.K (bC C sub E xl)))(hh:PO X hi (CF X.K (bC C sub E xh))):
 PE X (.Subscript a (.Slice lo hi none p2) pos) (bT X.K (aF C sub E (.sl x xl xh))) :=
 (SF Bs ha hl hh).imp fun σ H Q ⟨σd,st,R,r,ok,q,hq⟩=>by
 refine⟨σd,st,_,r,ok,q,fun v H1 ⟨d,aC,s1,aU,r1,q1⟩=>?_⟩
 refine⟨σd,aC,_,r.step ok s1,aU,q1,fun lo H2 ⟨aG,s2,cI,q2⟩=>?_⟩
 refine⟨σd,aG,_,(r.step ok s1).step aU s2,cI,q2,fun hi H3 ⟨aQ,s3,Em,q3⟩=>?_⟩
 exact QV Em ((r1.step aU s2).step cI s3) q3 fun v H' z=>hq _ _ (.after ((s1.trans s2).trans s3) z)
def qZ (X:Cx)(f:Value)(W:List D->aB->VK->Prop):Prop :=
 ∀(pz:List (Addr×Obj))(s:ah)(σ:L2.St)(H:Hp)(st:aB)(ds:List D)(vs:List V)(us:List Value)(R:VK),Inv X pz σ H s->aN X.K st H->aJ X.K H ds vs->aR vs us->W ds st R ->
 wpAny (model X.prog X.w) X.A (call f us) (EP X pz σ (QD X.K H st R)) X.xe s
inductive Cd (K:ae)(W:List D->aB->VK->Prop)(vs:List V)(H:Hp)(Q:L2.VK):Prop where
 |mk (ds:List D)(st:aB)(R:VK)(r:aJ K H ds vs)(ok:aN K st H)(q:W ds st R)(hq:∀ v H',QD K H st R v H'->Q v H'):Cd K W vs H Q
theorem qZ.call {f:Value}{W:List D->aB->VK->Prop}(h:qZ X f W):oI X f (Cd X.K W):=fun pz s σ H vs us Q I rv ⟨ds,st,R,r,ok,q,hq⟩ =>
 bA (h pz s σ H st ds vs us R I ok r rv q) fun u s' ⟨v,H',I',r',z⟩=>⟨v,H',I',r',hq _ _ z⟩
theorem E7 {K:ae}{W:List D->aB->VK->Prop}{xs:List Ex}{σ:L2.St}{H:Hp}{Q:L2.VK}(h:bT K (fun σ st R=>bC C sub E xs σ st fun ds aA=>W ds aA R) σ H Q):UI (Cd K W) (jP K (bC C sub E xs)) σ H Q:=by
 obtain⟨σd,st,R,r,ok,q,hq⟩:=h
 refine⟨σd,st,_,r,ok,q,fun vs H1 ⟨ds,aC,s1,aU,r1,q1⟩=>?_⟩
 exact⟨ds,aC,R,r1,aU,q1,fun v H' z=>hq _ _ (.after s1 z)⟩
theorem Gr {W:List D->aB->VK->Prop}{n:Str}{id:String}{p:Pos}{es:List b7}{xs:List Ex}(hW:qZ X (.builtin id) W)(hg:Gl X n)(hm:X.mg n=none)(hv:cu n=some (.builtin id))(ha:PA X (e::es) (jP X.K (bC C sub E xs)))
 (hn:n ≠"__name__")(hdb:(n==("__debug__" : Str))=false)(he:ar (e::es) X.env=(false,eval e X.env)::ar es X.env)(fH:(dq pos (ar es X.env)).any (·.1)=false):
 PE X (.Call (.Name n p) (e::es) [] pos) (bT X.K fun σ st R=>bC C sub E xs σ st fun ds aA=>W ds aA R) :=
 (zE hW.call hg hm hv ha hn hdb he fH).imp fun σ H Q h=>E7 h
theorem By {W:List D->aB->VK->Prop}{n:Str}{T:String}{p:Pos}{es:List b7}{xs:List Ex}(hW:qZ X (.type T) W)(hg:Gl X n)(hm:X.mg n=none)(hv:cu n=some (.type T))(ha:PA X (e::es) (jP X.K (bC C sub E xs)))
 (hn:n ≠"__name__")(hdb:(n==("__debug__" : Str))=false)(he:ar (e::es) X.env=(false,eval e X.env)::ar es X.env)(fH:(dq pos (ar es X.env)).any (·.1)=false):
 PE X (.Call (.Name n p) (e::es) [] pos) (bT X.K fun σ st R=>bC C sub E xs σ st fun ds aA=>W ds aA R) :=
 (O9 hW.call hg hm hv ha hn hdb he fH).imp fun σ H Q h=>E7 h
theorem aJ.one {K:ae}{H:Hp}{d:D}{vs:List V}(r:aJ K H [d] vs):∃ v,vs=[v]/\Rep K H d v:=by
 cases r with|cons h r=>cases r;exact⟨_,rfl,h⟩
theorem OF {K:ae}{H:Hp}{st:aB}{d:D}{v:V}{P:Nat->Prop}(ok:aN K st H)(r:Rep K H d v)(h:nQ d st P):∃ n,Cz K v H n/\P n:=by
 unfold nQ at h
 split at h
 ·obtain⟨a,vs,rfl,f,g⟩:=r.bK
  exact⟨_,.inr ⟨vs,f,g.length⟩,h⟩
 ·cases r.str_inv
  exact⟨_,⟨by rw[fI];simpa [c7]using h.1,by simp [c7]⟩,h.2⟩
 ·cases r.dQ
  obtain⟨ds,e,h⟩:=pQ ok h
  obtain⟨vs,g1,g2⟩:=ok.lst e
  exact⟨_,.inl ⟨vs,dS.of g1,g2.length⟩,h⟩
 ·obtain⟨a,vs,rfl,f,g⟩:=r.kS
  exact⟨_,.inl ⟨vs,f.sq,g.length⟩,h⟩
 ·exact h.elim
theorem bH:qZ X (.builtin "len") (fP .len):=by
 intro pz s σ H st ds vs us R I ok r rv q
 match ds,q with
 |[d],q =>
 have q:nQ d st fun n=>R (.int (n:Nat)) st:=q
 obtain⟨v,rfl,rd⟩:=r.one
 obtain⟨n,l,q⟩:=OF ok rd q
 exact QP pz s σ H _ us _ I rv ⟨v,n,rfl,l,.here ok (.int _) q⟩
 |[],q=>exact(show False from q).elim
 |_::_::_,q=>exact(show False from q).elim
end
end L3
end
section
namespace L3
open PySem PySem.Spec PyProof.Rows L2
section
variable {X:Cx}{pz:List (Addr×Obj)}{σ:L2.St}{H:Hp}{s:ah}
def OK (K:ae)(H:Hp)(a:Addr)(vs:List V):Prop:=dS K H a vs∨eG K H a vs
theorem GI {A:cg}{E:Value->ah->Prop}{a:Addr}{vs:List V}{Q:Value->ah->Prop}(hh:A.handled=none)(I:Inv X pz σ H s)(h:OK X.K H a vs)
  (hQ:∀(aD:List Value)(I0:Addr)(fp wr:List Addr)(St:Nat->Heap->Prop)(s₂:ah),aR vs aD->Walks X.prog X.w A I0 fp wr aD.length (fun i v=>aD[i]? = some v) St->St 0 s₂.heap->(∀ b∈fp,b<s₂.heap.objs.size) ->
   (∀ h' tk,(∀ b o,b∉wr->s₂.heap.get? b=some o->h'.get? b=some o)->Inv X pz σ H { s₂ with heap:=h',toks:=tk })->Q (.ref I0) s₂):wpAny (model X.prog X.w) A (vn (.ref a)) Q E s:=by
 rcases h with h|h
 ·obtain⟨aD,r,p,hz⟩:=I.list h
  have hl:=p.isList
  have mI:a<s.heap.objs.size:=by obtain⟨_,e,_⟩:=hl;exact a9 e
  have W:=Walks.list (prog:=X.prog) (w:=X.w) (A:=A) hh s.heap.objs.size a (bj mI) aD.toArray
  have e1:aD.toArray.size=aD.length:=by simp
  have e2:(fun(i:Nat)(v:Value)=>aD.toArray[i]? = some v)=fun i v=>aD[i]? = some v:=by funext i v;simp
  rw[e1,e2]at W
  refine yh hl (hQ aD s.heap.objs.size _ _ _ _ r W ⟨⟨_,bp _ rfl,rfl,rfl⟩,hl.push _⟩ (fun b hb=>?_) fun h' tk hk=>?_)
  ·show b<(s.heap.push _).objs.size
   rw[ke]
   rcases List.mem_cons.mp hb with rfl|hb
   ·exact ij _
   ·rcases List.mem_cons.mp hb with rfl|hb
    ·exact j5 mI
    ·cases hb
  ·exact I.kept (t':=tk) (old_kept hk)
 ·obtain⟨aD,r,p,hz⟩:=I.tuple h
  have hl:s.heap.IsTuple a aD.toArray:=p
  have mI:a<s.heap.objs.size:=by obtain⟨_,e,_⟩:=hl;exact a9 e
  have W:=Qa (prog:=X.prog) (w:=X.w) (A:=A) hh s.heap.objs.size a (bj mI) aD.toArray
  have e1:aD.toArray.size=aD.length:=by simp
  have e2:(fun(i:Nat)(v:Value)=>aD.toArray[i]? = some v)=fun i v=>aD[i]? = some v:=by funext i v;simp
  rw[e1,e2]at W
  refine qo hl (hQ aD s.heap.objs.size _ _ _ _ r W ⟨⟨_,bp _ rfl,rfl,rfl⟩,hl.push _⟩ (fun b hb=>?_) fun h' tk hk=>?_)
  ·show b<(s.heap.push _).objs.size
   rw[ke]
   rcases List.mem_cons.mp hb with rfl|hb
   ·exact ij _
   ·rcases List.mem_cons.mp hb with rfl|hb
    ·exact j5 mI
    ·cases hb
  ·refine I.kept (t':=tk) fun b o e=>hk b o (fun hm=>?_) (au _ e)
   rcases List.mem_cons.mp hm with e1|hm
   ·exact absurd (e1▸Heap.lt_size e) (jh _)
   ·cases hm
theorem nL {K:ae}{st:aB}{d:D}{v:V}{P:List Nat->List D->Prop}(ok:aN K st H)(r:Rep K H d v)(h:fB d st P):∃ a vs as ds,v=.ref a/\OK K H a vs/\aJ K H ds vs/\P as ds:=by
 unfold fB at h
 split at h
 ·obtain⟨a,vs,rfl,f,g⟩:=r.bK
  exact⟨a,vs,_,_,rfl,.inr f,g,h⟩
 ·cases r.dQ
  obtain⟨ds,e,h⟩:=cV h
  obtain⟨vs,g1,g2⟩:=ok.lst e
  exact⟨_,vs,_,ds,rfl,.inl (dS.of g1),g2,h⟩
 ·obtain⟨a,vs,rfl,f,g⟩:=r.kS
  exact⟨a,vs,_,_,rfl,.inl f.sq,g,h⟩
 ·exact h.elim
theorem zA {K:ae}:∀{ds:List D}{vs:List V}{aD:List Value}{bs:List Bool},boolsOf ds=some bs->aJ K H ds vs->aR vs aD->aD=bs.map ud
 |_,_,_,_,h,.nil,.nil=>by cases h;rfl
 |d::ds,_,_,bs,h,.cons r1 r2,.cons v1 v2=>by
  cases d with
  |bl b =>
   simp only[boolsOf,cb]at h
   obtain⟨bs',e,rfl⟩:=h
   cases r1.fZ
   cases v1
   rw[zA e r2 v2];rfl
  |_=>simp [boolsOf]at h
theorem all_range (bs:List Bool):(bc bs.length).all (fun i=>(bs[i]?).getD true)=bs.all id:=by
 induction bs with
 |nil=>rfl
 |cons b bs ih =>
 simp only[ak,kl,ik,km,nr,ng,nh,l8,id]
 rw[<-ih]
theorem any_range (bs:List Bool):(bc bs.length).any (fun i=>(bs[i]?).getD true)=bs.any id:=by
 induction bs with
 |nil=>rfl
 |cons b bs ih =>
 simp only[ak,kl,j7,nt,nr,ng,nh,l8,id]
 rw[<-ih]
theorem yE {prog:bq}{w:cq}{A:cg}(bs:List Bool):TruthOf prog w A (fun i v=>(bs.map ud)[i]? = some v) (fun i=>(bs[i]?).getD true):=fun i v s Q E hP hQ=>by
 have hP:(bs.map ud)[i]? = some v:=hP
 rw[di,cb]at hP
 obtain⟨b,e,rfl⟩:=hP
 simp only[e,l8]at hQ
 exact g6 hQ
theorem iF (hh:X.A.handled=none):qZ X (.builtin "all") (fP .all):=by
 intro pz s σ H st ds vs us R I ok r rv q
 match ds,q with
 |[d],q =>
 have q:fP .all [d] st R:=q
 rw[O1]at q
 obtain⟨v,rfl,rd⟩:=r.one
 obtain⟨u,rfl,ru⟩:=vals1 rv
 obtain⟨a,ws,as,xs,rfl,sa,g,q⟩:=nL ok rd q
 cases ru
 obtain⟨bs,e,q⟩:=gL q
 refine call_all_walk (GI (A:=X.A.in1) hh I sa fun aD I0 fp wr St s₂ rr W h0 hfp hk=>?_)
 cases zA e g rr
 refine⟨I0,fp,wr,_,_,St,_,rfl,W,h0,yE bs,fun h' tk hk'=>⟨.bl _,H,hk h' tk hk',rfl,?_⟩⟩
 rw[aa,all_range]
 exact .here ok (.bl _) q
 |[],q=>exact(show False from q).elim
 |_::_::_,q=>exact(show False from q).elim
theorem DZ (hh:X.A.handled=none):qZ X (.builtin "any") (fP .any):=by
 intro pz s σ H st ds vs us R I ok r rv q
 match ds,q with
 |[d],q =>
 have q:fP .any [d] st R:=q
 rw[NN]at q
 obtain⟨v,rfl,rd⟩:=r.one
 obtain⟨u,rfl,ru⟩:=vals1 rv
 obtain⟨a,ws,as,xs,rfl,sa,g,q⟩:=nL ok rd q
 cases ru
 obtain⟨bs,e,q⟩:=gL q
 refine call_any_walk (GI (A:=X.A.in1) hh I sa fun aD I0 fp wr St s₂ rr W h0 hfp hk=>?_)
 cases zA e g rr
 refine⟨I0,fp,wr,_,_,St,_,rfl,W,h0,yE bs,fun h' tk hk'=>⟨.bl _,H,hk h' tk hk',rfl,?_⟩⟩
 rw[aa,any_range]
 exact .here ok (.bl _) q
 |[],q=>exact(show False from q).elim
 |_::_::_,q=>exact(show False from q).elim
theorem zR:qZ X (.type "list") (fP .list):=by
 intro pz s σ H st ds vs us R I ok r rv q
 match ds,q with
 |[d],q =>
 have q:fP .list [d] st R:=q
 rw[KG]at q
 obtain⟨v,rfl,rd⟩:=r.one
 obtain⟨a,ws,as,xs,rfl,sa,g,q⟩:=nL ok rd q
 exact GY pz s σ H _ us _ I rv ⟨a,ws,rfl,sa,fun l hl=>.fX ok g hl q.2⟩
 |[],q=>exact(show False from q).elim
 |_::_::_,q=>exact(show False from q).elim
theorem cU:qZ X (.type "tuple") (fP .tuple):=by
 intro pz s σ H st ds vs us R I ok r rv q
 match ds,q with
 |[d],q =>
 have q:fP .tuple [d] st R:=q
 rw[HY]at q
 obtain⟨v,rfl,rd⟩:=r.one
 obtain⟨a,ws,as,xs,rfl,sa,g,q⟩:=nL ok rd q
 rcases sa with sa|sa
 ·exact tX pz s σ H _ us _ I rv ⟨a,ws,rfl,.inl ⟨sa,fun l hl=>.CJ ok g hl q.2⟩⟩
 ·exact tX pz s σ H _ us _ I rv ⟨a,ws,rfl,.inr ⟨sa,.here ok (.tup sa g) q.2⟩⟩
 |[],q=>exact(show False from q).elim
 |_::_::_,q=>exact(show False from q).elim
theorem YC {w:List Nat}(h1:1<=w.length)(h6:w.length<=6)(ha:w.all lV=true):PySem.intText? ⟨w.toArray⟩=some ((val w:Nat):Int):=by
  have h:=PySem.intText_digits (x:=⟨w.toArray⟩) (fun c hc=>by
    have:=List.all_eq_true.mp ha c (by simpa using hc)
    simp only[lV,ay,decide_eq_true_eq]at this
    exact this) (fun z => by have z:w=[]:=by simpa using z
                             rw[z]at h1;exact absurd h1 (by decide)) (by show _<=4300;simp [c7];omega)
  rw[h]
  show some ((w.foldl (fun acc c=>acc*10+(c-48)) 0:Nat):Int)=_
  unfold val
  congr 3
  funext a c
  omega
theorem uK:qZ X (.type "int") (fP .int):=by
 intro pz s σ H st ds vs us R I ok r rv q
 match ds,q with
 |[d],q =>
 have q:fP .int [d] st R:=q
 cases d<;>first|exact(show False from q).elim|skip
 ·obtain⟨v,rfl,rd⟩:=r.one
  cases rd.fZ
  exact D4 pz s σ H _ us _ I rv (.inr ⟨_,rfl,.here ok (.int _) q⟩)
 ·obtain⟨v,rfl,rd⟩:=r.one
  cases rd.int_inv
  exact D4 pz s σ H _ us _ I rv (.inl ⟨_,rfl,.here ok (.int _) q⟩)
 ·obtain⟨v,rfl,rd⟩:=r.one
  cases rd.str_inv
  obtain⟨u,rfl,t,rfl⟩:=vals1 rv
  have q:(1<=_/\_<=6/\_)/\R _ st:=q
  exact PySem.W.KIN.call_text (YC q.1.1 q.1.2.1 q.1.2.2) (by show _<=640;simp [c7];omega) ⟨.int _,H,I.tok _,⟨_,rfl⟩,.here ok (.int _) q.2⟩
 ·exact(cV (st:=st) q).elim fun _ z=>z.2.elim
 |[],q=>exact(show False from q).elim
 |a::_::_,q=>exact(show False by cases a<;>exact q).elim
theorem Nb {K:ae}{a:Addr}{vs:List V}(h:H a=some (.lst vs)):PF K "list" (.ref a) H:=.inl ⟨rfl,vs,dS.of h⟩
theorem xO (l:Addr)(items:Array Value)(n:Nat)(b:Addr)(items2:Array Value)(n2:Nat)(dd:Option Addr)(sl:Array (Option Value))(hs0:¬(!items.isEmpty&&dy (items.size+items2.size))=true)(hs1:items.size<=sizeLine)(hs2:items.size+items2.size<=sizeLine+1):
 Meets (Builtin.«list.extend» ⟨[.ref l,.ref b],[]⟩) (fun _ R s=>s.heap.get? l=some { cls:=.type "list", dict:=none,data:=.seq items n,slots:=#[] }/\s.heap.get? b=some { cls:=.type "tuple", dict:=dd,data:=.seq items2 n2,slots:=sl }/\R (.ok (.ret fo)) { s with heap:=s.heap.update l (jr fun x=>x++items2),toks:=s.toks }) :=
 .of_wp fun prog w A R s h=>by
 obtain⟨hp,g,d,tk,os⟩:=s;obtain⟨hl,hb,h⟩:=h;have f1:=AutoSeq1.idx_int;have f2:=AutoSeq1.sub_tuple_tuple;have f3:=AutoSeq1.sub_list_list;have f4:=AutoSeq1.sub_tuple_list;have f5:=AutoSeq1.sub_list_tuple;
 have hz':(items++items2).size<=sizeLine+1:=by rw[Array.size_append];exact hs2
 wp_walk using(oy hl rfl (hz:=hs1) (_hz':=hz')),sh hl,sh hb;exact⟨_,rfl,h⟩
def QZ (K:ae):V->List V->Hp->L2.VK->Prop:=fun x vs H Q=>∃ l b xs zs,x=.ref l/\vs=[.ref b]/\H l=some (.lst xs)/\eG K H b zs/\xs.length+zs.length<=sizeLine/\Q .non (upd H l (.lst (xs++zs)))
theorem LJ:TM X "list.extend" (QZ X.K):=by
 intro pz s σ H x vs v us Q I rx rv h
 obtain⟨l,b,xs,zs,rfl,rfl,hH,hB,hz,q⟩:=h
 cases rx
 obtain⟨u,rfl,ru⟩:=rv.one
 cases ru
 obtain⟨z,aD,n,r,hl,e⟩:=I.qE hH
 obtain⟨lX,r2,p2,_⟩:=I.tuple hB
 have hl2:=r2.length
 obtain⟨⟨cls,dd,data,sl⟩,ho,hc,n2,hd⟩:=id p2
 simp only at hc hd
 subst hc hd
 have kE:aD.toArray.size+lX.toArray.size<=sizeLine:=by rw[av,av];omega
 have hlong:¬(!aD.toArray.isEmpty&&dy (aD.toArray.size+lX.toArray.size))=true:=by
  rw[yV kE,b9]
  exact ki
 refine j6 xm ⟨_,e,rfl⟩ wq (vp _ _)
  (xO l aD.toArray n b lX.toArray n2 dd sl hlong (by rw[av];omega) (by omega)) ⟨e,ho,?_⟩
 refine⟨.non,_,I.L5 (kI:=aD++lX) hH e (by simp) (r.append r2) ?_,rfl,q⟩
 rw[aq]
 omega
def tW (X:Cx)(T id:String)(W:D->List D->aB->VK->Prop):Prop :=
 ∀(pz:List (Addr×Obj))(s:ah)(σ:L2.St)(H:Hp)(st:aB)(d:D)(ds:List D)(v:V)(vs:List V)(u:Value)(us:List Value)(R:VK),Inv X pz σ H s->aN X.K st H->Rep X.K H d v->RelV v u->aJ X.K H ds vs->aR vs us->W d ds st R ->
 wpAny (model X.prog X.w) X.A (call (.builtin id) (u::us)) (EP X pz σ (QD X.K H st R)) X.xe s
inductive YU (K:ae)(W:D->List D->aB->VK->Prop)(v:V)(vs:List V)(H:Hp)(Q:L2.VK):Prop where
 |mk (d:D)(ds:List D)(st:aB)(R:VK)(r:Rep K H d v)(rs:aJ K H ds vs)(ok:aN K st H)(q:W d ds st R)(hq:∀ v H',QD K H st R v H'->Q v H'):YU K W v vs H Q
theorem tW.mt {T id:String}{W:D->List D->aB->VK->Prop}(h:tW X T id W):TM X id (YU X.K W):=fun pz s σ H v vs u us Q I rv rvs ⟨d,ds,st,R,r,rs,ok,q,hq⟩ =>
 bA (h pz s σ H st d ds v vs u us R I ok r rv rs rvs q) fun u s' ⟨v,H',I',r',z⟩=>⟨v,H',I',r',hq _ _ z⟩
theorem PX:tW X "list" "list.append" (dZ .append):=by
 intro pz s σ H st d ds v vs u us R I ok r rv rs rvs q
 cases d<;>first|exact(show False from q).elim|skip
 match ds,q with
 |[d],q =>
 cases r.dQ
 obtain⟨w,rfl,rd⟩:=rs.one
 obtain⟨xs,e,q⟩:=cV (st:=st) q
 obtain⟨ys,g1,g2⟩:=ok.lst e
 exact L2.nH pz s σ H _ _ u us _ I rv rvs ⟨_,ys,w,rfl,rfl,g1,by rw[fI,<-g2.length];exact q.1,.set ok e (g2.append (.cons rd .nil)) .non q.2⟩
 |[],q=>exact(show False from q).elim
 |_::_::_,q=>exact(show False from q).elim
theorem ON:tW X "list" "list.extend" (dZ .extend):=by
 intro pz s σ H st d ds v vs u us R I ok r rv rs rvs q
 cases d<;>first|exact(show False from q).elim|skip
 match ds,q with
 |[d],q =>
 cases r.dQ
 obtain⟨w,rfl,rd⟩:=rs.one
 obtain⟨xs,e,q⟩:=cV (st:=st) q
 obtain⟨ys,g1,g2⟩:=ok.lst e
 have q:pF d st fun zs=>xs.length+zs.length<=aK/\R .non (put st _ (.lst (xs++zs))):=q
 cases d<;>first|exact(show False from q).elim|skip
 ·obtain⟨b,ws,rfl,f,g⟩:=rd.bK
  exact LJ pz s σ H _ _ u us _ I rv rvs ⟨_,b,ys,ws,rfl,rfl,g1,f,by rw[fI,<-g2.length,<-g.length];exact q.1,.set ok e (g2.append g) .non q.2⟩
 ·cases rd.dQ
  obtain⟨zs,e2,q⟩:=cV (st:=st) q
  obtain⟨ws,k1,k2⟩:=ok.lst e2
  exact L2.uY pz s σ H _ _ u us _ I rv rvs ⟨_,_,ys,ws,rfl,rfl,g1,k1,by rw[fI,<-g2.length,<-k2.length];exact q.1,.set ok e (g2.append k2) .non q.2⟩
 |[],q=>exact(show False from q).elim
 |_::_::_,q=>exact(show False from q).elim
theorem Bq:tW X "list" "list.pop" (dZ .pop):=by
 intro pz s σ H st d ds v vs u us R I ok r rv rs rvs q
 cases d<;>first|exact(show False from q).elim|skip
 match ds,q with
 |[],q =>
 cases r.dQ
 cases rs
 obtain⟨xs,e,q⟩:=cV (st:=st) q
 obtain⟨ys,g1,g2⟩:=ok.lst e
 obtain⟨d,e2,q⟩:=gL q
 obtain⟨w,k1,k2⟩:=g2.get e2
 exact L2.G7 pz s σ H _ _ u us _ I rv rvs ⟨_,ys,w,rfl,rfl,g1,by rw[<-g2.length];exact k1,.set ok e g2.dropLast k2 q⟩
 |_::_,q=>exact(show False from q).elim
theorem NT {K:ae}{m:MT}{st:aB}{d:D}{v:V}(hm:m=.append∨m=.extend∨m=.pop)(ok:aN K st H)(r:Rep K H d v)(h:mP m d st):PF K "list" v H:=by
 have h':∃ a ds,d=.ref a/\st a=some (.lst ds):=by
  rcases hm with rfl|rfl|rfl<;>(cases d<;>first|exact(show False from h).elim|(obtain⟨ds,e,_⟩:=cV (st:=st) h;exact⟨_,ds,rfl,e⟩))
 obtain⟨a,ds,rfl,e⟩:=h'
 cases r.dQ
 obtain⟨vs,g,_⟩:=ok.lst e
 exact Nb g
end
section
variable {X:Cx}{C:aS}{sub:Nat->Nat->Bool}{E:XK}{a b c e o:b7}{x y z:Ex}{pos apos gD:Pos}
theorem OM {m:MT}{name:Str}{id:String}{es:List b7}{xs:List Ex}(hmi:m=.append∨m=.extend∨m=.pop)(slot:Slot "list" name id)(hty:xk (.builtin id)=pure (.type "method_descriptor"))(hm:tW X "list" id (dZ m))(ho:PE X o (bT X.K (aF C sub E x)))(ha:PA X (e::es) (jP X.K (bC C sub E xs)))
 (eQ:gk o name X.env (eval o X.env)=eval o X.env)
 (jZ:((dq gD (ar (e::es) X.env)).all (fun x=>!x.1)&&(om gD (kg [] X.env)).all (fun x=>x.1.isSome)&&decide ((e::es).length+([]:List j4).length+(if([]:List j4).isEmpty then 0 else 1)<30))=true)(eT:(apos.endLine==gD.line)=true)
 (hs:ar (e::es) X.env=(false,eval e X.env)::ar es X.env)(gE:(dq gD (ar es X.env)).any (·.1)=false):
 PE X (.Call (.Attribute o name apos) (e::es) [] gD) (bT X.K (aF C sub E (.bX m x xs))) :=
 (T6 t2 slot hty hm.mt ho ha eQ jZ eT hs gE).imp fun σ H Q ⟨σd,st,R,r,ok,q,hq⟩=>by
 refine⟨σd,st,_,r,ok,q,fun v H1 ⟨d,aC,s1,aU,r1,q1⟩=>⟨NT hmi aU r1 q1.1,?_⟩⟩
 refine⟨σd,aC,_,r.step ok s1,aU,q1.2,fun vs H2 ⟨ds,aG,s2,cI,r2,q2⟩=>?_⟩
 exact⟨d,ds,aG,R,r1.step aU s2,r2,cI,q2,fun v H' z=>hq _ _ (.after (s1.trans s2) z)⟩
theorem WY {m:MT}{name:Str}{id:String}(hmi:m=.append∨m=.extend∨m=.pop)(slot:Slot "list" name id)(hty:xk (.builtin id)=pure (.type "method_descriptor"))(hm:tW X "list" id (dZ m))(ho:PE X o (bT X.K (aF C sub E x)))
 (eQ:gk o name X.env (eval o X.env)=eval o X.env)(eT:(apos.endLine==gD.line)=true):
 PE X (.Call (.Attribute o name apos) [] [] gD) (bT X.K (aF C sub E (.bX m x []))) :=
 (ZC t2 slot hty hm.mt ho eQ eT).imp fun σ H Q ⟨σd,st,R,r,ok,q,hq⟩=>by
 refine⟨σd,st,_,r,ok,q,fun v H1 ⟨d,aC,s1,aU,r1,q1⟩=>⟨NT hmi aU r1 q1.1,?_⟩⟩
 exact⟨d,[],aC,R,r1,.nil,aU,q1.2,fun v H' z=>hq _ _ (.after s1 z)⟩
inductive jO (K:ae)(C:aS)(f:Nat)(vs:List V)(H:Hp)(Q:L2.VK)(E:L2.XK):Prop where
 |mk (ds:List D)(st:aB)(R:VK)(r:aJ K H ds vs)(ok:aN K st H)(q:C f ds st R (fun _ _=>False))(hq:∀ v H',QD K H st R v H'->Q v H'):jO K C f vs H Q E
theorem Ci {CX:qS}{k:Nat}{f:Addr}{fid:Nat}{fd:fx}{ps:List Str}{n:Str}{p:Pos}{es:List b7}{xs:List Ex}(F:cM X.prog X.w X.K X.mg X.base CX k f fd ps (jO X.K C fid))(hr:dC k X.A)(hg:Gl X n)(hm:X.mg n=some (.ref f))
 (hk:dv X.K (.ref f)=true)(hb:Binds X.K fd ps [])(hx:iG CX X E0)(ha:PA X (e::es) (jP X.K (bC C sub E xs)))
 (hdb:(n==("__debug__" : Str))=false)(he:ar (e::es) X.env=(false,eval e X.env)::ar es X.env)(fH:(dq pos (ar es X.env)).any (·.1)=false):
 PE X (.Call (.Name n p) (e::es) [] pos) (bT X.K (aF C sub E (.call fid xs))) :=
 (KR F hr hg hm hk hb .nil hx ha hdb he fH).imp fun σ H Q ⟨σd,st,R,r,ok,q,hq⟩=>by
 refine⟨σd,st,_,r,ok,q,fun vs H1 ⟨ds,aC,s1,aU,r1,q1⟩=>?_⟩
 show jO X.K C fid (vs++[]) H1 Q E0
 rw[d7]
 exact⟨ds,aC,R,r1,aU,q1,fun v H' z=>hq _ _ (.after s1 z)⟩
end
noncomputable abbrev EF:XK:=fun _ _=>False
structure vD (K:ae)(EX:XK)(H:Hp)(st:aB)(P:eB)(D:Ends):Prop where
 nx:∀ σ' H' cA aA,bZ K H' cA σ'->Step H st H' aA->aN K aA H'->P.nx cA aA->D.nx σ' H'
 rt:∀ v H',QD K H st P.rt v H'->D.rt v H'
 bk:∀ σ' H' cA aA,bZ K H' cA σ'->Step H st H' aA->aN K aA H'->P.bk cA aA->D.bk σ' H'
 ct:∀ σ' H' cA aA,bZ K H' cA σ'->Step H st H' aA->aN K aA H'->P.ct cA aA->D.ct σ' H'
 ex:∀ c σd st,P.ex c σd st->EX c st
theorem vD.after {K:ae}{EX:XK}{H H1:Hp}{st aC:aB}{P:eB}{D:Ends}(h:vD K EX H st P D)(s:Step H st H1 aC):vD K EX H1 aC P D :=
 ⟨fun σ' H' cA aA r t ok q=>h.nx σ' H' cA aA r (s.trans t) ok q,fun v H' z=>h.rt v H' (.after s z),fun σ' H' cA aA r t ok q=>h.bk σ' H' cA aA r (s.trans t) ok q,fun σ' H' cA aA r t ok q=>h.ct σ' H' cA aA r (s.trans t) ok q,h.ex⟩
inductive iW (K:ae)(EX:XK)(ts:eB->St->aB->Prop)(D:Ends)(σ:L2.St)(H:Hp):Prop where
 |mk (σd:St)(st:aB)(P:eB)(r:bZ K H σd σ)(ok:aN K st H)(q:ts P σd st)(h:vD K EX H st P D):iW K EX ts D σ H
section
variable {X:Cx}{C:aS}{sub:Nat->Nat->Bool}{EX:XK}{a b c e:b7}{x y z:Ex}{pos:Pos}{s:Stmt}{ss:List Stmt}{xs:List Sx}{sx:Sx}
theorem UB:iN X [] (iW X.K EX (bU C sub [])) :=
 KJ.imp fun D σ H ⟨σd,st,P,r,ok,q,h⟩=>by
 exact h.nx _ _ _ _ r .refl ok q
theorem Ap (h1:PS X s (iW X.K EX (wpS C sub sx)))(h2:iN X ss (iW X.K EX (bU C sub xs))):iN X (s::ss) (iW X.K EX (bU C sub (sx::xs))) :=
 (FW h1 h2).imp fun D σ H ⟨σd,st,P,r,ok,q,h⟩=>by
 exact⟨σd,st,_,r,ok,q,⟨fun σ' H' cA aA r' s' cQ q'=>⟨cA,aA,P,r',cQ,q',h.after s'⟩,h.rt,h.bk,h.ct,h.ex⟩⟩
theorem CD {P:eB}{σd:St}{st:aB}{x:Ex}{Q:VK}(hC:bN C C)(he:∀ c σd st,P.ex c σd st->EX c st)(q:aF C sub (fun c aA=>P.ex c σd aA) x σd st Q):aF C sub EX x σd st Q :=
 aP hC (fun c st z=>he _ _ _ z) x (fun _ _ z=>z) q
theorem Ht {P:eB}{σd:St}{st:aB}{xs:List Ex}{Q:List D->aB->Prop}(hC:bN C C)(he:∀ c σd st,P.ex c σd st->EX c st)(q:bC C sub (fun c aA=>P.ex c σd aA) xs σd st Q):bC C sub EX xs σd st Q :=
 cE hC (fun c st z=>he _ _ _ z) xs (fun _ _ z=>z) q
theorem Iy (hC:bN C C)(h:PE X e (bT X.K (aF C sub EX x))):PS X (.Return (some e) pos) (iW X.K EX (wpS C sub (.ret x))) :=
 (ZN h).imp fun D σ H ⟨σd,st,P,r,ok,q,h⟩=>by
 exact⟨σd,st,_,r,ok,CD hC h.ex q,h.rt⟩
theorem Ln (hC:bN C C)(h:PE X e (bT X.K (aF C sub EX x)))(hs:qb e none pos.line X.env=pure false):PS X (.Expr e pos) (iW X.K EX (wpS C sub (.ex x))) :=
 (VI h hs).imp fun D σ H ⟨σd,st,P,r,ok,q,h⟩=>by
 exact⟨σd,st,_,r,ok,CD hC h.ex q,fun v H' ⟨d,aA,s',cQ,_,q'⟩=>h.nx _ _ _ _ (r.step ok s') s' cQ q'⟩
theorem Kk {as bs:List Stmt}{ax bx:List Sx}(hC:bN C C)(hc:PT X c (iQ X.K (aF C sub EX x)))(ha:iN X as (iW X.K EX (bU C sub ax)))(hb:iN X bs (iW X.K EX (bU C sub bx))):PS X (.If c as bs pos) (iW X.K EX (wpS C sub (.iff x ax bx))) :=
 (T3 hc ha hb).imp fun D σ H ⟨σd,st,P,r,ok,q,h⟩=>by
 refine⟨σd,st,fun k aA=>if k=true then bU C sub ax P σd aA else bU C sub bx P σd aA,r,ok,CD hC h.ex q,fun k H' ⟨aA,s',cQ,q'⟩=>?_⟩
 cases k with
 |true=>exact⟨σd,aA,P,r.step ok s',cQ,q',h.after s'⟩
 |false=>exact⟨σd,aA,P,r.step ok s',cQ,q',h.after s'⟩
theorem Eh {cl:Nat}{es:List Ex}(hC:bN C C)(hn:∀ σd st,¬bC C sub EF es σd st fun _ _=>False):PS X s (iW X.K EF (wpS C sub (.rais cl es))) :=
 G4.imp fun D σ H ⟨σd,st,P,r,ok,q,h⟩=>by
 exact hn σd st (cE hC (fun c st z=>(h.ex _ _ _ z).elim) es (fun _ _ z=>(h.ex _ _ _ z).elim) q)
inductive E2 (K:ae)(g:D->St->aB->(St->aB->Prop)->Prop)(v:V)(σ:L2.St)(H:Hp)(Q:L2.St->Hp->Prop):Prop where
 |mk (d:D)(σd:St)(st:aB)(M:St->aB->Prop)(r:Rep K H d v)(sr:bZ K H σd σ)(ok:aN K st H)(q:g d σd st M)(hq:∀ σ' H' cA aA,bZ K H' cA σ'->Step H st H' aA->aN K aA H'->M cA aA->Q σ' H'):E2 K g v σ H Q
theorem _root_.L2.PG.imp {X:Cx}{e:b7}{t t':TG}(i:∀ v σ H Q,t' v σ H Q->t v σ H Q)(h:PG X e t):PG X e t':=fun pz s σ H v u Q I r q=>h pz s σ H v u Q I r (i v σ H Q q)
theorem SH {E:XK}{i:Nat}(h:PG X e (AH i)):PG X e (E2 X.K (lR C sub E (.nm i))) :=
 h.imp fun v σ H Q ⟨d,σd,st,M,rd,r,ok,q,hq⟩=>by
 exact hq _ _ _ _ (r.set i rd) .refl ok q
theorem MS {tg:b7}{t:Tg}(hC:bN C C)(he:PE X e (bT X.K (aF C sub EX x)))(hg:PG X tg (E2 X.K (lR C sub EX t)))
 (hs:oh [tg] e pos.line X.env=pure false)(hw:oi [tg] e X.env=pure none)(h1:(ff [tg] X.env).map (·.2)=[lq tg X.env]):PS X (.Assign [tg] e pos) (iW X.K EX (wpS C sub (.asg t x))) :=
 (Bx he hg hs hw h1).imp fun D σ H ⟨σd,st,P,r,ok,q,h⟩=>by
 refine⟨σd,st,_,r,ok,CD hC h.ex q,fun v H' ⟨d,aA,s',cQ,rd,q'⟩=>?_⟩
 refine⟨d,σd,aA,P.nx,rd,r.step ok s',cQ,sU hC (fun c st z=>h.ex _ _ _ z) (fun _ _ z=>z) t q',fun σ2 H2 kA aG r2 s2 cI q2=>?_⟩
 exact h.nx _ _ _ _ r2 (s'.trans s2) cI q2
theorem V7 {bs:List Stmt}{bx:List Sx}(hC:bN C C)(hp:qd (model X.prog X.w) X.A X.env X.xe)(hc:PT X c (iQ X.K (aF C sub EX x)))(hb:iN X bs (iW X.K EX (bU C sub bx))):PS X (.While c bs [] pos) (iW X.K EX (wpS C sub (.whl x bx))) :=
 (R7 hp hc hb).imp fun D σ H ⟨σd,st,P,r,ok,q,h⟩=>by
 obtain⟨n,q⟩:=q
 refine⟨fun m σ' H'=>∃ cA aA,bZ X.K H' cA σ'/\Step H st H' aA/\aN X.K aA H'/\nE _ m cA aA,⟨n,σd,st,r,.refl,ok,q⟩,fun m σ1 H1 ⟨σd1,aC,r1,s1,aU,q1⟩=>?_⟩
 cases m with
 |zero=>exact q1.elim
 |succ m =>
  simp only[nE]at q1
  refine⟨σd1,aC,fun k aA=>if k=true then bU C sub bx _ σd1 aA else P.nx σd1 aA,r1,aU,CD hC h.ex q1,fun k H2 ⟨aG,s2,cI,q2⟩=>?_⟩
  cases k with
  |false=>exact h.nx _ _ _ _ (r1.step aU s2) (s1.trans s2) cI q2
  |true =>
  refine⟨fun σ' H'=>∃ cA aA,bZ X.K H' cA σ'/\Step H st H' aA/\aN X.K aA H'/\nE _ m cA aA,fun σ' H' z=>⟨m,ij _,z⟩,?_⟩
  refine⟨σd1,aG,_,r1.step aU s2,cI,q2,⟨fun σ' H' cA aA r' s' cQ q'=>⟨cA,aA,r',(s1.trans s2).trans s',cQ,q'⟩,fun v H' z=>h.rt _ _ (.after (s1.trans s2) z),fun σ' H' cA aA r' s' cQ q'=>h.nx _ _ _ _ r' ((s1.trans s2).trans s') cQ q',
   fun σ' H' cA aA r' s' cQ q'=>⟨cA,aA,r',(s1.trans s2).trans s',cQ,q'⟩,h.ex⟩⟩
end
noncomputable def UT (x:Str):It:=⟨fun i _=>i<x.cps.size,fun i H v H'=>H'=H/\∃ c,x.cps[i]? = some c/\v=.str ⟨#[c]⟩,fun i _=>x.cps.size<=i⟩
theorem GO {P:bq}{w:cq}{K:ae}{tg:b7}(it:Addr)(x:Str)(t:Tok)(ty:String)(hty:["enumerate","zip","dict_itemiterator","dict_reverseitemiterator","odict_iterator","itertools.zip_longest","itertools.pairwise"].contains ty=false)
  (W:∀ A:cg,A.handled=none->Walks P w A it [it] [it] x.cps.size (SignAt x) (fun i h=>h.IsStrIter it ty x t i))
  (hd:∀(A:cg)(i:Nat)(s:ah)(Q:Option Value->ah->Prop)(E:Value->ah->Prop),A.handled=none->s.heap.IsStrIter it ty x t i->x.cps.size<=i->(∀ h',(∀ b o,b≠it->s.heap.get? b=some o->h'.get? b=some o)->Q none { s with heap:=h' })->wpAny (model P w) A (r6 (.ref it)) Q E s)
  (hself:∀(A:cg)(i:Nat)(s:ah)(Q:Value->ah->Prop)(E:Value->ah->Prop),s.heap.IsStrIter it ty x t i->Q (.ref it) s->wpAny (model P w) A (vn (.ref it)) Q E s):Turn P w K tg (UT x) [it] it (fun i h=>h.IsStrIter it ty x t i) where
 mem:=by simp
 obj:=fun i h st b hb=>by
  have e:b=it:=by simpa using hb
  subst e
  obtain⟨o,e,c,d⟩:=st
  exact⟨o,e,fun v z=>by rw[d]at z;cases z⟩
 keep:=fun i h h' st k=>let⟨o,e,r⟩:=st;⟨o,k it (by simp) o e,r⟩
 item:=by
  intro X hP hw hK hc i pz s σ H E I hf st hg
  subst hP hw hK
  obtain⟨f0,f1,f2,f3,f4,f5⟩:=hf it (by simp)
  refine(W X.A (I.ok.hd hc)).item i s _ _ hg st fun v h' tk hv aA kk=>?_
  obtain⟨c,u,hc',rfl⟩:=hv
  have I1:Inv X pz σ H { s with heap:=h',toks:=tk }:=I.turned (fun b o hb e=>kk b o (by simpa using hb) e) f0 f1 f3 f4 f5
  obtain⟨o,e,c1,d⟩:=id aA
  exact⟨_,rfl,EN (s:={ s with heap:=h',toks:=tk }) e c1 d hty ⟨.str ⟨#[c]⟩,H,I1,⟨u,rfl⟩,⟨rfl,c,hc',rfl⟩,aA,fun b hb=>(hf b hb).1⟩⟩
 done:=by
  intro X hP hw hK hc i pz s σ H E I hf st hg
  subst hP hw hK
  obtain⟨f0,f1,f2,f3,f4,f5⟩:=hf it (by simp)
  exact hd X.A i s _ _ (I.ok.hd hc) st hg fun h' eb=>⟨rfl,I.turned (t':=s.toks) (fun b o hb e=>eb b o hb e) f0 f1 f3 f4 f5⟩
 self:=fun A i s Q E st h=>hself A i s Q E st h
structure xW (K:ae)(J:It)(as:List Nat)(xs:List D)(H1:Hp)(aC:aB):Prop where
 go:∀ i H st d,Step H1 aC H st->aN K st H->same as aC st->xs[i]? = some d->J.go i H
 yld:∀ i H st d x H',Step H1 aC H st->aN K st H->same as aC st->xs[i]? = some d->J.yld i H x H'->Step H st H' st/\aN K st H'/\Rep K H' d x
 stop:∀ i H st,Step H1 aC H st->aN K st H->same as aC st->xs.length<=i->J.stop i H
inductive QJ (K:ae)(H:Hp)(st:aB)(M:List Nat->List D->aB->Prop)(J:It)(H1:Hp):Prop where
 |mk (as:List Nat)(xs:List D)(aC:aB)(s:Step H st H1 aC)(ok:aN K aC H1)(j:xW K J as xs H1 aC)(q:M as xs aC):QJ K H st M J H1
inductive uV (K:ae)(te:St->aB->(List Nat->List D->aB->Prop)->Prop)(σ:L2.St)(H:Hp)(R:It->Hp->Prop):Prop where
 |mk (σd:St)(st:aB)(M:List Nat->List D->aB->Prop)(r:bZ K H σd σ)(ok:aN K st H)(q:te σd st M)(hq:∀ J H1,QJ K H st M J H1->R J H1):uV K te σ H R
section
variable {K:ae}{H1:Hp}{aC:aB}{a:Addr}{xs:List D}{vs:List V}
theorem X1 (aU:aN K aC H1)(f:eG K H1 a vs)(g:aJ K H1 xs vs):xW K (ZO K a) [] xs H1 aC where
 go:=fun i H st d s ok _ e=>let⟨v,e1,_⟩:=g.get e;⟨vs,v,tD aU s f,e1⟩
 yld:=fun i H st d x H' s ok _ e ⟨e',h⟩=>by
  subst e'
  obtain⟨v,e1,e2⟩:=g.get e
  have:=h vs (tD aU s f)
  rw[e1]at this;cases this
  exact⟨.refl,ok,e2.step aU s⟩
 stop:=fun i H st s ok _ l=>⟨vs,tD aU s f,by rw[<-g.length];exact l⟩
theorem S6 (aU:aN K aC H1)(f:mR K H1 a vs)(g:aJ K H1 xs vs):xW K (TH K a) [] xs H1 aC where
 go:=fun i H st d s ok _ e=>let⟨v,e1,_⟩:=g.get e;⟨vs,v,(pT aU s f).sq,e1⟩
 yld:=fun i H st d x H' s ok _ e ⟨e',h⟩=>by
  subst e'
  obtain⟨v,e1,e2⟩:=g.get e
  have:=h vs (pT aU s f).sq
  rw[e1]at this;cases this
  exact⟨.refl,ok,e2.step aU s⟩
 stop:=fun i H st s ok _ l=>⟨vs,(pT aU s f).sq,by rw[<-g.length];exact l⟩
theorem XI (aU:aN K aC H1)(e0:aC a=some (.lst xs)):xW K (TH K a) [a] xs H1 aC where
 go:=fun i H st d s ok sm e=>by
  have e':st a=some (.lst xs):=(sm a (by simp)).trans e0
  obtain⟨us,g1,g2⟩:=ok.lst e'
  obtain⟨v,e1,_⟩:=g2.get e
  exact⟨us,v,dS.of g1,e1⟩
 yld:=fun i H st d x H' s ok sm e ⟨e',h⟩=>by
  subst e'
  have e':st a=some (.lst xs):=(sm a (by simp)).trans e0
  obtain⟨us,g1,g2⟩:=ok.lst e'
  obtain⟨v,e1,e2⟩:=g2.get e
  have:=h us (dS.of g1)
  rw[e1]at this;cases this
  exact⟨.refl,ok,e2⟩
 stop:=fun i H st s ok sm l=>by
  have e':st a=some (.lst xs):=(sm a (by simp)).trans e0
  obtain⟨us,g1,g2⟩:=ok.lst e'
  exact⟨us,dS.of g1,by rw[<-g2.length];exact l⟩
theorem P2 (lo:Int)(n:Nat):xW K (TV lo n) [] (iB lo n) H1 aC where
 go:=fun i H st d s ok _ e=>by
  have:=(List.getElem?_eq_some_iff.mp e).1
  show i<n
  simpa [iB]using this
 yld:=fun i H st d x H' s ok _ e ⟨e',h⟩=>by
  subst e' h
  simp only[iB,di,cb]at e
  obtain⟨k,e1,rfl⟩:=e
  have:k=i:=by
   rw[qx]at e1
   obtain⟨_,e2⟩:=e1
   simp at e2
   exact e2.symm
  subst this
  exact⟨.refl,ok,.int _⟩
 stop:=fun i H st s ok _ l=>by show n<=i;simpa [iB]using l
theorem KH (x:List Nat):xW K (UT ⟨x.toArray⟩) [] (x.map fun c=>.str [c]) H1 aC where
 go:=fun i H st d s ok _ e=>by
  have:=(List.getElem?_eq_some_iff.mp e).1
  show i<(⟨x.toArray⟩:Str).cps.size
  simpa using this
 yld:=fun i H st d v H' s ok _ e ⟨e',c,ec,ev⟩=>by
  subst e' ev
  simp only[di,cb]at e
  obtain⟨c',e1,rfl⟩:=e
  have:c=c':=by
   have ec:x.toArray[i]? = some c:=ec
   simp at ec
   rw[ec]at e1;exact fh e1
  subst this
  exact⟨.refl,ok,.str [c]⟩
 stop:=fun i H st s ok _ l=>by
  show(⟨x.toArray⟩:Str).cps.size<=i
  simpa using l
end
section
variable {X:Cx}{C:aS}{sub:Nat->Nat->Bool}{EX:XK}{a b c e tg:b7}{x y z:Ex}{pos:Pos}
theorem _root_.L2.PI.imp {X:Cx}{tg e:b7}{t t':TI}(i:∀ σ H Q,t' σ H Q->t σ H Q)(h:PI X tg e t):PI X tg e t':=fun pz s σ H Q I q=>h pz s σ H Q I (i σ H Q q)
theorem Ac {E:XK}(h:PE X e (bT X.K (aF C sub E x))):PI X tg e (uV X.K fun σ st M=>bC C sub E [x] σ st fun ds aC=>iJ none ds aC fun as xs=>M as xs aC):=by
 intro pz s σ H R I ⟨σd,st,M,r,ok,q,hq⟩
 refine bA (h pz s σ H _ I ⟨σd,st,_,r,ok,q,fun v H' z=>z⟩) fun u s1 ⟨v,H1,I1,rv,d,aC,cT,aU,r1,q1⟩=>?_
 have fresh:∀{b:Addr},b∈[s1.heap.objs.size]->jW X pz H1 b:=fun{b} hb=>by
  have e:b=s1.heap.objs.size:=by simpa using hb
  subst e
  exact I1.L8 (bb _) (I1.bJ.fresh (bb _))
 have tup:∀(a:Addr)(vs:List V)(as:List Nat)(xs:List D),v=.ref a->eG X.K H1 a vs->xW X.K (ZO X.K a) as xs H1 aC->M as xs aC->wpAny (model X.prog X.w) X.A (vn u) (TQ X pz σ tg R) X.xe s1:=by
  intro a vs as xs e f j q
  subst e
  cases rv
  obtain⟨aD,rr,p,hz⟩:=I1.tuple f
  exact qo (show s1.heap.IsTuple a aD.toArray from p) ⟨s1.heap.objs.size,[s1.heap.objs.size],_,_,H1,rfl,I1.kept (t':=s1.toks) fun b o e=>au _ e,LO a _,⟨_,bp _ rfl,rfl,rfl⟩,fun b hb=>fresh hb,hq _ _ ⟨as,xs,aC,cT,aU,j,q⟩⟩
 have lst:∀(a:Addr)(vs:List V)(as:List Nat)(xs:List D),v=.ref a->dS X.K H1 a vs->xW X.K (TH X.K a) as xs H1 aC->M as xs aC->wpAny (model X.prog X.w) X.A (vn u) (TQ X pz σ tg R) X.xe s1:=by
  intro a vs as xs e f j q
  subst e
  cases rv
  obtain⟨aD,rr,p,hz⟩:=I1.list f
  exact yh p.isList ⟨s1.heap.objs.size,[s1.heap.objs.size],_,_,H1,rfl,I1.kept (t':=s1.toks) fun b o e=>au _ e,OO a _,⟨_,bp _ rfl,rfl,rfl⟩,fun b hb=>fresh hb,hq _ _ ⟨as,xs,aC,cT,aU,j,q⟩⟩
 have q1:mZ d aC fun as xs=>M as xs aC:=q1
 cases d with
 |tup ds =>
  obtain⟨a,vs,e,f,g⟩:=r1.bK
  exact tup a vs _ _ e f (X1 aU f g) q1
 |str z =>
  have q1:z.length<=aK/\M [] (z.map fun c=>.str [c]) aC:=q1
  cases r1.str_inv
  obtain⟨t,rfl⟩:=rv
  cases ha:(⟨z.toArray⟩:Str).cps.all (·< 128)
  ·exact wpAny_pyIter_wide ha ⟨s1.heap.objs.size,[s1.heap.objs.size],_,UT ⟨z.toArray⟩,H1,rfl,I1.kept (t':=s1.toks) fun b o e=>au _ e,
   GO s1.heap.objs.size ⟨z.toArray⟩ t "str_iterator" (by decide) (fun A hA=>Walks.strWide hA _ _ t) (fun A i s Q E hA hi hn hQ=>wpAny_pyNext_wide_end hA hi (by simpa using hn) fun h' he=>hQ h' he) (fun A i s Q E hi hQ=>wpAny_pyIter_striter_wide hi hQ),
   ⟨_,bp _ rfl,rfl,rfl⟩,fun b hb=>fresh hb,hq _ _ ⟨_,_,aC,cT,aU,KH z,q1.2⟩⟩
  ·exact wpAny_pyIter_ascii ha ⟨s1.heap.objs.size,[s1.heap.objs.size],_,UT ⟨z.toArray⟩,H1,rfl,I1.kept (t':=s1.toks) fun b o e=>au _ e,
   GO s1.heap.objs.size ⟨z.toArray⟩ t "str_ascii_iterator" (by decide) (fun A hA=>Walks.strAscii hA _ _ t) (fun A i s Q E hA hi hn hQ=>wpAny_pyNext_ascii_end hA hi (by simpa using hn) fun h' he=>hQ h' he) (fun A i s Q E hi hQ=>wpAny_pyIter_striter_ascii hi hQ),
   ⟨_,bp _ rfl,rfl,rfl⟩,fun b hb=>fresh hb,hq _ _ ⟨_,_,aC,cT,aU,KH z,q1.2⟩⟩
 |ref a =>
  cases r1.dQ
  obtain⟨ds,e,q1⟩:=cV (st:=aC) q1
  obtain⟨vs,g1,g2⟩:=aU.lst e
  exact lst _ vs _ _ rfl (dS.of g1) (XI aU e) q1
 |bD ds =>
  obtain⟨a,vs,e,f,g⟩:=r1.kS
  exact lst a vs _ _ e f.sq (S6 aU f g) q1
 |_=>exact(show False from q1).elim
theorem X9 {E:XK}{p:Pos}(hC:bN C C)(hg:Gl X "range")(hm:X.mg "range" = none)(ha:PA X [a] (jP X.K (bC C sub E [x])))(hs:ar [a] X.env=[(false,eval a X.env)]):
 PI X tg (.Call (.Name "range" p) [a] [] pos) (uV X.K fun σ st M=>bC C sub E [x] σ st fun ds aC=>iJ (some .range) ds aC fun as xs=>M as xs aC) :=
 (M6 hg hm ha hs).imp fun σ H R ⟨σd,st,M,r,ok,q,hq⟩=>by
 refine⟨σd,st,_,r,ok,zG [x] hC q,fun vs H1 ⟨ds,aC,s1,aU,r1,l1,q1⟩=>?_⟩
 match ds,l1,q1 with
 |[d],_,q1 =>
  obtain⟨v,rfl,rd⟩:=r1.one
  have q1:iJ (some .range) [d] aC fun as xs=>M as xs aC:=q1
  cases d with
  |int j =>
  cases rd.int_inv
  exact⟨j,rfl,q1.1.1,q1.1.2,hq _ _ ⟨_,_,aC,s1,aU,P2 0 _,q1.2⟩⟩
  |_=>exact(show False from q1).elim
theorem UL {k:Option IK}{aD:List Ex}{iter:b7}{t:Tg}{bs:List Stmt}{bx:List Sx}(hC:bN C C)(hp:qd (model X.prog X.w) X.A X.env X.xe)(hc:X.calm=true)
 (hi:PI X tg iter (uV X.K fun σ st M=>bC C sub EX aD σ st fun ds aC=>iJ k ds aC fun as xs=>M as xs aC))(hg:PG X tg (E2 X.K (lR C sub EX t)))(hb:iN X bs (iW X.K EX (bU C sub bx)))
 (hs:∀ x,fq iter X.env x=pure x):PS X (.For tg iter bs [] pos) (iW X.K EX (wpS C sub (.kJ t k aD bx))) :=
 (Y2 hp hc hi hg hb hs).imp fun DD σ H ⟨σd,st,P,r,ok,q,h⟩=>by
 refine⟨σd,st,_,r,ok,Ht hC h.ex q,fun J H1 ⟨as,xs,aC,s1,aU,j,q1⟩=>?_⟩
 refine⟨fun i m σ' H'=>∃ cA aA,bZ X.K H' cA σ'/\Step H1 aC H' aA/\aN X.K aA H'/\m+i=xs.length/\vE (same as aC) (fun(x:L3.D) next σ st=>lR C sub (fun c aA=>P.ex c σ aA) t x σ st fun σ' aA=>bU C sub bx { P with nx:=next,ct:=next,bk:=P.nx } σ' aA) P.nx (xs.drop i) cA aA,⟨xs.length,σd,aC,r.step ok s1,.refl,aU,by omega,by simpa using q1⟩,fun i m σ2 H2 ⟨kA,aG,r2,s2,cI,e2,q2⟩=>?_⟩
 by_cases hi':i<xs.length
 ·have ed:xs.drop i=xs[i]::xs.drop (i+1):=e9 hi'
  rw[ed]at q2
  obtain⟨g2,q2⟩:=q2
  refine .inr ⟨j.go i H2 aG xs[i] s2 cI g2 (bw hi'),fun σ' H'=>∃ cA aA,bZ X.K H' cA σ'/\Step H1 aC H' aA/\aN X.K aA H'/\vE (same as aC) (fun(x:L3.D) next σ st=>lR C sub (fun c aA=>P.ex c σ aA) t x σ st fun σ' aA=>bU C sub bx { P with nx:=next,ct:=next,bk:=P.nx } σ' aA) P.nx (xs.drop (i+1)) cA aA,
  fun σ' H' ⟨cA,aA,r',s',cQ,q'⟩=>⟨m-1,by omega,cA,aA,r',s',cQ,by omega,q'⟩,fun v H3 y3=>?_⟩
  obtain⟨s3,Em,r3⟩:=j.yld i H2 aG xs[i] v H3 s2 cI g2 (bw hi') y3
  refine⟨xs[i],kA,aG,_,r3,r2.step cI s3,Em,sU hC (fun c st z=>h.ex _ _ _ z) (fun _ _ z=>z) t q2,fun σ4 H4 σd4 bY r4 s4 IS q4=>?_⟩
  refine⟨σd4,bY,_,r4,IS,q4,⟨fun σ' H' cA aA r' s' cQ q'=>⟨cA,aA,r',((s2.trans s3).trans s4).trans s',cQ,q'⟩,fun v H' z=>h.rt _ _ (.after (((s1.trans s2).trans s3).trans s4) z),
  fun σ' H' cA aA r' s' cQ q'=>h.nx _ _ _ _ r' ((((s1.trans s2).trans s3).trans s4).trans s') cQ q',fun σ' H' cA aA r' s' cQ q'=>⟨cA,aA,r',((s2.trans s3).trans s4).trans s',cQ,q'⟩,h.ex⟩⟩
 ·have ed:xs.drop i=[]:=f9 (by omega)
  rw[ed]at q2
  exact .inl ⟨j.stop i H2 aG s2 cI q2.1 (by omega),h.nx _ _ _ _ r2 (s1.trans s2) cI q2.2⟩
end
section
variable {X:Cx}{C:aS}{sub:Nat->Nat->Bool}{a b c e o i tg:b7}{x y z:Ex}{pos:Pos}
noncomputable def kC (is:List Nat)(vs:List V)(σ:L2.St):L2.St:=(is.zip vs).foldl (fun σ p=>σ.set p.1 (some p.2)) σ
noncomputable def qN (is:List Nat):C1:=fun vs σ H Q=>vs.length=is.length/\Q (kC is vs σ) H
theorem Ai:AG X [] (qN []):=fun pz s σ H vs us Q I r h=>by
 have:vs=[]:=List.length_eq_zero_iff.mp h.1
 subst this
 exact WT pz s σ H [] us Q I r ⟨rfl,h.2⟩
theorem VR {es:List b7}{i:Nat}{is:List Nat}(h1:PG X e (AH i))(h2:AG X es (qN is))(hs:(ff (e::es) X.env).map (·.2)=lq e X.env::(ff es X.env).map (·.2)):AG X (e::es) (qN (i::is)):=fun pz s σ H vs us Q I r h=>by
 obtain⟨hl,h⟩:=h
 cases vs with
 |nil=>simp at hl
 |cons v vs=>exact RH h1 h2 hs pz s σ H (v::vs) us Q I r ⟨v,vs,rfl,by simpa using hl,h⟩
theorem bZ.gB {K:ae}{H:Hp}:∀(is:List Nat){ds:List D}{vs:List V}{σd:St}{σ:L2.St},bZ K H σd σ->aJ K H ds vs->bZ K H ((is.zip ds).foldl (fun σ p=>σ.set p.1 (some p.2)) σd) (kC is vs σ)
 |[],_,_,_,_,r,_=>by simpa [kC]using r
 |_::_,_,_,_,_,r,.nil=>by simpa [kC]using r
 |i::is,_,_,_,_,r,.cons h t=>by
  have:=bZ.gB is (r.set i h) t
  simpa [kC]using this
theorem Kw {E:XK}{es:List b7}{k:Nat}{is:List Nat}(hc:X.calm=true)(h:AG X es (qN is))(hn:(ff es X.env).length=is.length)(dA:(ff es X.env).findIdx? (·.1)=none):
 PG X (.Tuple es k pos) (E2 X.K (lR C sub E (.tp is))) :=
 (P9 hc h hn dA).imp fun v σ H Q ⟨d,σd,st,M,rd,r,ok,q,hq⟩=>by
 cases d with
 |tup ds0 =>
  have q:ds0.length=is.length/\M _ st:=q
  obtain⟨a,vs,rfl,f,g⟩:=rd.bK
  exact⟨a,vs,rfl,f,by rw[<-g.length];exact q.1,by rw[<-g.length];exact q.1,hq _ _ _ _ (r.gB is g) .refl ok q.2⟩
 |_=>exact(show False by cases is<;>exact q).elim
theorem Ke {E:XK}(ho:PE X o (bT X.K (aF C sub E x)))(hi:PE X i (bT X.K (aF C sub E y)))
 (ha:∀ v,lq (.Subscript o i pos) X.env v=(do
  let ov <-lz [v] (eval o X.env)
  let iv <-lz [v,ov] (eval i X.env)
  wc pos
  lz [v,ov,iv] (Pj ov iv v)
  Qp [v,ov,iv] [])):PG X (.Subscript o i pos) (E2 X.K (lR C sub E (.ix x y))) :=
 (Bm ho hi set_list ha).imp fun v σ H Q ⟨d,σd,st,M,rd,r,ok,q,hq⟩=>by
 refine⟨σd,st,_,r,ok,q,fun v1 H1 ⟨d1,aC,s1,aU,r1,q1⟩=>?_⟩
 refine⟨σd,aC,_,r.step ok s1,aU,q1,fun v2 H2 ⟨d2,aG,s2,cI,r2,q2⟩=>?_⟩
 have r1':=r1.step aU s2
 have rd':=(rd.step ok s1).step aU s2
 have q2:yY d1 d2 d aG fun aQ=>M σd aQ:=q2
 cases d1<;>first|exact(show False from q2).elim|skip
 cases d2<;>first|exact(show False from q2).elim|skip
 cases r1'.dQ
 cases r2.int_inv
 rw[J9]at q2
 obtain⟨xs,e,q2⟩:=cV q2
 obtain⟨j,ej,q2⟩:=gL q2
 obtain⟨vs,g1,g2⟩:=cI.lst e
 refine⟨_,vs,_,j,rfl,rfl,g1,by rw[<-g2.length];exact ej,?_⟩
 have s3:=sJ (H:=H2) (st:=aG) (o:=.lst (vs.set j v)) (m':=.lst (xs.set j d)) e
 exact hq _ _ _ _ (((r.step ok s1).step aU s2).step cI s3) ((s1.trans s2).trans s3) (cI.set e (g2.set rd' j)) q2
end
noncomputable def iT (cells:List (Str×Addr)):List (Str×NameKind)->List (Str×Addr)->List (Str×Addr)
 |[],cs=>cs
 |(n,k)::r,cs=>iT cells r (if k == .free then(n,(cells.lookup n).getD 0)::cs else cs)
theorem A4 {env:Env}:∀(names:List (Str×NameKind))(cs:List (Str×Addr)),(∀ p∈names,p.2=.free->∃ c,env.cells.lookup p.1=some c) ->
  (forIn names cs fun(p:Str×NameKind)(cs:List (Str×Addr))=>(if p.2 == .free then do let c <-cellOf env p.1;pure (kr ((p.1,c)::cs))else pure (kr cs):Sem (ForInStep (List (Str×Addr)))))=pure (iT env.cells names cs)
 |[],cs,_=>by simp [iT]
 |(n,k)::r,cs,h=>by
  have ih:=fun cs=>A4 r cs fun p hp=>h p (ek _ hp)
  simp only[va,iT]
  cases e:(k==mi)with
  |true =>
   obtain⟨c,hc⟩:=h (n,k) (fb ..) (by simpa using e)
   have hc:env.cells.lookup n=some c:=hc
   simp only[if_true,cellOf,hc,l8,pure_bind]
   exact ih _
  |false =>
   simp only[ai,if_false,pure_bind]
   exact ih _
theorem nU {env:Env}{scope:Scope}(h:∀ p∈scope.names,p.2=.free->∃ c,env.cells.lookup p.1=some c):closureFor scope env=pure (iT env.cells scope.names []):=by
 rw[<-A4 scope.names [] h]
 unfold closureFor
 simp only[bind_pure]
set_option tactic.hygienic true in
theorem kR {cells:List (Str×Addr)}:∀(names:List (Str×NameKind))(cs:List (Str×Addr)){x:Str}{c:Addr},(∀ p∈names,p.2=.free->∃ c,cells.lookup p.1=some c)->(∀ x c,cs.lookup x=some c->cells.lookup x=some c)->(iT cells names cs).lookup x=some c->cells.lookup x=some c
 |[],cs,x,c,_,h,e=>h x c e
 |(n,k)::r,cs,x,c,hn,h,e=>by
  simp only[iT]at e
  refine kR r _ (fun p hp=>hn p (ek _ hp)) (fun y d ed=>?_) e
  split at ed
  ·rename_i hk
   obtain⟨c',hc'⟩:=hn (n,k) (fb ..) (by simpa using hk)
   have hc':cells.lookup n=some c':=hc'
   rw[da]at ed
   split at ed
   ·rename_i q
    have q:y=n:=by simpa using q
    subst q
    rw[hc']at ed ⊢
    simpa using ed
   ·exact h y d ed
  ·exact h y d ed
theorem DT {cells:List (Str×Addr)}:∀(names:List (Str×NameKind))(cs:List (Str×Addr)){x:Str},(∃ c,cs.lookup x=some c)->∃ c,(iT cells names cs).lookup x=some c
 |[],cs,x,h=>h
 |(n,k)::r,cs,x,h=>by
  simp only[iT]
  refine DT r _ ?_
  split
  ·rw[da]
   split
   ·exact⟨_,rfl⟩
   ·exact h
  ·exact h
set_option tactic.hygienic true in
theorem zH {cells:List (Str×Addr)}:∀(names:List (Str×NameKind))(cs:List (Str×Addr)){x:Str},names.lookup x=some .free->∃ c,(iT cells names cs).lookup x=some c
 |[],cs,x,h=>by simp at h
 |(n,k)::r,cs,x,h=>by
  simp only[iT]
  rw[da]at h
  split at h
  ·rename_i q
   cases h
   refine DT r _ ?_
   simp only[beq_self_eq_true,if_true]
   rw[da,q]
   exact⟨_,rfl⟩
  ·exact zH r _ h
theorem pK {env:Env}:∀{names:List (Str×NameKind)}{x:Str}{k:tv},(names.map fun(n,k)=>if(k==mi&&env.scope.kind == .function&&env.kindOf n==some .cell)then(n,w9)else(n,k)).lookup x=some k->∃ k',names.lookup x=some k'/\(k'=k∨(k'=.free/\k=.cell))
 |[],x,k,h=>by simp at h
 |(n,k0)::r,x,k,h=>by
  simp only[az]at h
  cases q:(x==n)with
  |true =>
   refine⟨k0,by simp only[da,q],?_⟩
   by_cases hc:(k0==mi&&env.scope.kind == .function&&env.kindOf n==some .cell)=true
   ·simp only[hc,if_true,da,q]at h
    cases h
    simp only[ay]at hc
    exact .inr ⟨by simpa using hc.1.1,rfl⟩
   ·simp only[hc,if_false,da,q,ai]at h
    cases h
    exact .inl rfl
  |false =>
   simp only[da,q]
   refine pK (env:=env) (names:=r) ?_
   by_cases hc:(k0==mi&&env.scope.kind == .function&&env.kindOf n==some .cell)=true
   ·simp only[hc,if_true,da,q]at h
    exact h
   ·simp only[hc,if_false,da,q,ai]at h
    exact h
set_option tactic.hygienic true in
theorem oU {env:Env}:∀{names:List (Str×NameKind)}{x:Str},names.lookup x=some .free->(names.map fun(n,k)=>if(k==mi&&env.scope.kind == .function&&env.kindOf n==some .cell)then(n,w9)else(n,k)).lookup x=some .cell∨(names.map fun(n,k)=>if(k==mi&&env.scope.kind == .function&&env.kindOf n==some .cell)then(n,w9)else(n,k)).lookup x=some .free
 |[],x,h=>by simp at h
 |(n,k0)::r,x,h=>by
  simp only[az]
  rw[da]at h
  split at h
  ·rename_i q;cases h
   split
   ·exact .inl (by rw[da,q])
   ·exact .inr (by rw[da,q])
  ·rename_i q
   split
   ·rw[da,q];exact oU h
   ·rw[da,q];exact oU h
structure iU (X:Cx)(scope:Scope)(cn:List Str)(aV:List Nat):Prop where
 kind:scope.kind=.function
 nocell:∀ y∈scope.names,y.2≠.cell
 names:∀ y∈scope.names,y.2=.local->scope.names.lookup y.1=some .local
 free:∀ y∈scope.names,y.2=.free->X.env.kindOf y.1=some .cell∨X.env.kindOf y.1=some .free
 len:cn.length=aV.length
 cap:∀(j:Nat)(y:Str),cn[j]? = some y->scope.names.lookup y=some .free/\∃ i,aV[j]? = some i/\X.N[i]? = some y/\(X.env.kindOf y=some .cell∨X.env.kindOf y=some .free)
noncomputable def gN (X:Cx)(scope:Scope)(own cn:List Str)(fp:List Addr)(s:ah)(H:Hp)(Ca:Addr):Cx :=
 { X with N:=own++cn,s₀:=s,H₀:=H,env:=t4 scope (iT X.env.cells scope.names []) Ca X.env,outer:=X.stack,ex:=fp,fn:=fun _=>false,calm:=true,pn:=[],xe:=fun _ _=>False }
noncomputable def jY (aV:List Nat)(σ:L2.St):L2.St:=aV.map fun i=>(σ[i]?).getD none
section
variable {X:Cx}{scope:Scope}{own cn:List Str}{aV:List Nat}{fp:List Addr}{pz:List (Addr×Obj)}{σ:L2.St}{H:Hp}{s:ah}
theorem iU.cells (S:iU X scope cn aV)(ok:X.Ok):∀ p∈scope.names,p.2=.free->∃ c,X.env.cells.lookup p.1=some c:=fun p hp e=>ok.has p.1 (S.free p hp e)
theorem Q0 (S:iU X scope cn aV)(hc:X.calm=true)(I:Inv X pz σ H s)(hf:∀ b∈fp,jW X pz H b)(mI:∀ b∈fp,b<s.heap.objs.size){Ca:Addr}(hC:s.heap.objs.size<=Ca):(gN X scope own cn fp s H Ca).Ok where
 mod:=I.ok.mod
 kind:=S.kind
 glob:=I.ok.glob
 blt:=I.ok.blt
 above:=hC
 inj:=fun x y c h1 h2=>I.ok.inj x y c (kR _ [] (S.cells I.ok) (fun _ _ h=>by simp at h) h1) (kR _ [] (S.cells I.ok) (fun _ _ h=>by simp at h) h2)
 has:=fun x h=>by
  refine zH _ [] ?_
  rcases h with h|h
  ·obtain⟨k,e,r⟩:=pK (env:=X.env) (show Qb x (ot _ scope.names)=_ from h)
   rcases r with rfl|⟨rfl,_⟩
   ·exact absurd rfl (S.nocell _ (jc e))
   ·exact e
  ·obtain⟨k,e,r⟩:=pK (env:=X.env) (show Qb x (ot _ scope.names)=_ from h)
   rcases r with rfl|⟨rfl,r⟩
   ·exact e
   ·cases r
 cab:=fun x c h _=>by cases h
 hd:=fun _=>I.ok.hd hc
 frames:=I.ok.frames
 stk:=.inl rfl
 exf:=fun b hb=>⟨fun e=>absurd (mI b hb) (by rw[e];exact Nat.not_lt.mpr hC),fun x c h=>(hf b hb).2.2.2.2.1 x c (kR _ [] (S.cells I.ok) (fun _ _ h=>by simp at h) h)⟩
 bs:=I.bs
 bsz:=bz I.ok.bsz I.sz
 noex:=fun b o e hb=>by
  rcases(hf b hb).2.2.2.1 with z|z
  ·exact I.ok.noex b o e z
  ·exact absurd (bu (a9 e) (bz I.ok.bsz z)) (jh _)
 exfs:=fun b hb z=>by
  rcases List.mem_cons.mp (I.G1 b z)with e|e
  ·exact(hf b hb).2.1 e
  ·exact(hf b hb).2.2.1 e
 kG:=I.stack
 frf:=I.mS
theorem yO (S:iU X scope cn aV)(hc:X.calm=true)(I:Inv X pz σ H s)(hf:∀ b∈fp,jW X pz H b)(mI:∀ b∈fp,b<s.heap.objs.size){Ca:Addr}(hC:s.heap.objs.size<=Ca){h1:Heap}{tk:Nat}
  {m:Str->Option Value}(hn:h1.Ns Ca m)(hk:∀ b o,s.heap.get? b=some o->h1.get? b=some o):
  Inv (gN X scope own cn fp s H Ca) [] (ao own.length none++jY aV σ) H { s with heap:=h1,toks:=tk } where
 ok:=Q0 S hc I hf mI hC
 os:=rfl
 bare:=I.bare
 base:=Un.kept hk
 loc:=⟨m,hn,fun i y v h1' h2 h3=>by
  have hi:own.length<=i:=by
   refine yo fun hi=>?_
   rw[dh (by simpa using hi),fw]at h2
   split at h2<;>cases h2
  rw[ei (by simpa using hi)]at h2
  have h1':(own++cn)[i]? = some y:=h1'
  rw[ei hi]at h1'
  simp only[nu,jY,di,cb]at h2
  obtain⟨k,e1,e2⟩:=h2
  obtain⟨hfr,i',e3,e4,e5⟩:=S.cap _ y h1'
  rw[e1]at e3;cases e3
  cases e6:σ[k]? with
  |none=>rw[e6]at e2;cases e2
  |some u =>
   rw[e6]at e2
   have e2:u=some v:=e2
   subst e2
   obtain⟨m0,hn0,hl0⟩:=I.loc
   obtain⟨w,rw',lk⟩:=hl0 k y v e4 e6 (e5.elim (fun z=>.inr (.inl z)) fun z=>.inr (.inr z))
   refine⟨w,rw',?_⟩
   rcases lk with⟨z,_⟩|⟨_,c,ec,⟨oc,hoc,hdc⟩⟩
   ·rcases e5 with e5|e5
    ·rw[e5]at z;cases z
    ·rw[e5]at z;cases z
   ·obtain⟨c',ec'⟩:=zH (cells:=X.env.cells) scope.names [] hfr
    have:=kR _ [] (S.cells I.ok) (fun _ _ h=>by simp at h) ec'
    rw[ec]at this;cases this
    exact .inr ⟨oU (env:=X.env) hfr,c,ec',⟨oc,hk _ _ hoc,hdc⟩⟩⟩
 cell:=fun x c h=>by
  obtain⟨v,o,ho,hd⟩:=I.cell x c (kR _ [] (S.cells I.ok) (fun _ _ h=>by simp at h) h)
  exact⟨v,o,hk _ _ ho,hd⟩
 free:=I.bJ.fresh hC
 jG:=fun x c h=>I.jG x c (kR _ [] (S.cells I.ok) (fun _ _ h=>by simp at h) h)
 pin:=fun p hp=>absurd (show p∈([]:List (Addr×Obj))from hp) (by simp)
 bJ:=I.bJ.kept hk
 len:=by
  show(ao own.length none++jY aV σ).length=(own++cn).length
  simp [jY,S.len]
end
noncomputable def rF (ifs:List b7)(env:Env):Sem Bool:=forIn ifs true fun c r=>if r=true then do let ok <-xg c env (eval c env);pure (kr ok)else pure (kr r)
def vU (X:Cx)(ifs:List b7)(t:L2.TT):Prop :=
 ∀(pz:List (Addr×Obj))(s:ah)(σ:L2.St)(H:Hp)(Q:Bool->Hp->Prop),Inv X pz σ H s->t σ H Q->wpAny (model X.prog X.w) X.A (rF ifs X.env) (TP X pz σ Q) X.xe s
inductive nY (K:ae)(te:St->aB->(Bool->aB->Prop)->Prop)(σ:L2.St)(H:Hp)(Q:Bool->Hp->Prop):Prop where
 |mk (σd:St)(st:aB)(R:Bool->aB->Prop)(r:bZ K H σd σ)(ok:aN K st H)(q:te σd st R)(hq:∀(b:Bool) H',QX K H st (R b) H'->Q b H'):nY K te σ H Q
section
variable {X:Cx}{C:aS}{sub:Nat->Nat->Bool}{E:XK}{a b c e o i tg:b7}{x y z:Ex}{pos:Pos}
theorem yN (env:Env):∀(ifs:List b7),(forIn ifs false fun c r=>if r=true then do let ok <-xg c env (eval c env);pure (kr ok)else pure (kr r):Sem Bool)=pure false
 |[]=>by simp
 |c::r=>by
  simp only[va,ai,if_false,pure_bind]
  exact yN env r
theorem Dd:vU X [] (nY X.K (eE C sub E [])):=fun pz s σ H Q I ⟨σd,st,R,r,ok,q,hq⟩=>by
 unfold rF
 simp only[List.forIn_nil]
 exact aw ⟨H,I,hq true H ⟨st,.refl,ok,q⟩⟩
theorem X0 {es:List b7}{xs:List Ex}(h:PT X e (iQ X.K (aF C sub E x)))(hs:vU X es (nY X.K (eE C sub E xs))):vU X (e::es) (nY X.K (eE C sub E (x::xs))):=fun pz s σ H Q I ⟨σd,st,R,r,ok,q,hq⟩=>by
 unfold rF
 simp only[va,if_true]
 refine af (af (bA (h pz s σ H _ I ⟨σd,st,fun k aA=>if k=true then eE C sub E xs σd aA R else R false aA,r,ok,q,fun b H' z=>z⟩) fun k s1 ⟨H1,I1,aC,cT,aU,q1⟩=>aw ?_))
 cases k with
 |true =>
 have q1:eE C sub E xs σd aC R:=q1
 refine hs pz s1 σ H1 _ I1 ⟨σd,aC,R,r.step ok cT,aU,q1,fun b H' ⟨aA,s',cQ,q'⟩=>hq b H' ⟨aA,cT.trans s',cQ,q'⟩⟩
 |false =>
 show wpAny _ _ (forIn es false _) _ _ _
 rw[yN]
 exact aw ⟨H1,I1,hq false H1 ⟨aC,cT,aU,q1⟩⟩
end
theorem IG {prog:bq}{w:cq}{A:cg}{s:ah}{R:Pk->ah->Prop}{elt target iter:b7}{ifs:List b7}{scope:Scope}{pos:Pos}{it acc:Value}{env:Env}(I:Nat->ah->Prop)
 (turn:∀ n s,I n s->wpAny (model prog w) A (r6 it) (fun r s₁=>match r with
  |none=>R (.ok .next) s₁
  |some v=>wpAny (model prog w) A (mr target it v) (fun _ s₁'=>wpAny (model prog w) A (lq target env v) (fun _ s₂ =>
   wpAny (model prog w) A (rF ifs env) (fun ok s₃ =>
   if ok=true then wpAny (model prog w) A (eval elt env) (fun x s₄ =>
    wpAny (model prog w) A (call (.builtin "list.append") [acc,x]) (fun _ s₅=>∃ m,m<n/\I m s₅) (fun _ _=>False) s₄) (fun _ _=>False) s₃
   else ∃ m,m<n/\I m s₃) (fun _ _=>False) s₂) (fun _ _=>False) s₁') (fun _ _=>False) s₁) (fun _ _=>False) s)
 (n:Nat)(h:I n s):
 ky (model prog w) A (.compLoop (.ListComp elt [⟨target,iter,ifs,0⟩] scope pos) 0 it acc env) R s:=by
 refine Po rfl I (fun n s hI=>?_) n h
 show wpAny _ A ((compTurn (.ListComp elt [⟨target,iter,ifs,0⟩] scope pos) 0 it acc env).onRaise (fun x=>do jz x env;zh x)) _ _ s
 refine wpAny_noted ?_
 rw[Ot]
 refine af (r0 (af (ee (turn n s hI) (fun r s₁ h₁=>?_) fun _ _ h'=>h'.elim)))
 cases r with
 |none=>exact aw h₁
 |some v =>
 refine af (ee h₁ (fun _ s₁' h₁'=>?_) fun _ _ h'=>h'.elim)
 refine af (ee h₁' (fun _ s₂ h₂=>af (ee h₂ (fun ok s₃ h₃=>?_) fun _ _ h'=>h'.elim)) fun _ _ h'=>h'.elim)
 cases ok with
 |false=>exact aw ⟨rfl,h₃⟩
 |true =>
  exact af (af (ee h₃ (fun x s₄ h₄=>af (ee h₄ (fun _ s₅ h₅=>aw (aw ⟨rfl,h₅⟩)) fun _ _ h'=>h'.elim)) fun _ _ h'=>h'.elim))
noncomputable def zS (K:ae):Bool->Nat->TG
 |true,_=>AH 0
 |false,n=>ZW K n (qN (bc n))
theorem BF:∀(is:List Nat)(vs:List V)(σ:L2.St)(n i:Nat),(∀ j∈is,j<n)->n<=i->(kC is vs σ)[i]? = σ[i]?
 |[],_,_,_,_,_,_=>by simp [kC]
 |_::_,[],_,_,_,_,_=>by simp [kC]
 |j::is,v::vs,σ,n,i,h,hi=>by
  have:=BF is vs (σ.set j (some v)) n i (fun k hk=>h k (ek _ hk)) hi
  simp only[kC,qq,mv]at this ⊢
  rw[this]
  have:=h j (fb ..)
  rw[ey (by omega)]
theorem CP:∀(is:List Nat)(vs:List V)(σ:L2.St),(kC is vs σ).length=σ.length
 |[],_,_=>by simp [kC]
 |_::_,[],_=>by simp [kC]
 |j::is,v::vs,σ=>by
  have:=CP is vs (σ.set j (some v))
  simp only[kC,qq,mv,u6]at this ⊢
  exact this
theorem A2 {K:ae}{H:Hp}{one:Bool}{n:Nat}{d:D}{v:V}{σd:St}{σ:L2.St}{P:St->Prop}{Q:L2.St->Hp->Prop}(hn:one=true->n=1)(h:iP one (bc n) d σd P)(r:bZ K H σd σ)(rd:Rep K H d v)
 (hQ:∀ σ2 kA,bZ K H kA σ2->P kA->(∀ i,n<=i->σ2[i]? = σ[i]?)->σ2.length=σ.length->Q σ2 H):zS K one n v σ H Q:=by
 cases one with
 |true =>
 cases hn rfl
 have h:P (σd.set 0 (some d)):=h
 refine hQ _ _ (r.set 0 rd) h (fun i hi=>?_) (by simp)
 rw[ey (by omega)]
 |false =>
 cases d with
 |tup ds =>
  rw[M8]at h
  obtain⟨a,vs,rfl,f,g⟩:=rd.bK
  have hl:vs.length=n:=by rw[<-g.length,h.1];simp
  refine⟨a,vs,rfl,f,hl,by simp [hl],hQ _ _ (r.gB _ g) h.2 (fun i hi=>BF _ _ _ n i (fun j hj=>by simpa using hj) hi) (CP _ _ _)⟩
 |_=>exact(show False by cases n<;>exact h).elim
section
variable {K:ae}{H:Hp}{st:aB}{Da:Addr}{ys zs:List V}
theorem WC (hD:H Da=some (.lst ys)){a:Addr}{vs:List V}(h:eG K H a vs):eG K (upd H Da (.lst zs)) a vs:=by
 rcases h with(h|⟨o,h⟩)|h
 ·exact .inl (.inl (by rw[aZ (LH h hD (by simp))];exact h))
 ·exact .inl (.inr ⟨o,by rw[aZ (LH h hD (by simp))];exact h⟩)
 ·exact .inr h
theorem QO (hD:H Da=some (.lst ys)){a:Addr}{vs:List V}(h:mR K H a vs):mR K (upd H Da (.lst zs)) a vs:=by
 rcases h with⟨o,h⟩|h
 ·exact .inl ⟨o,by rw[aZ (LH h hD (by simp))];exact h⟩
 ·exact .inr h
mutual
theorem Rep.alt (hD:H Da=some (.lst ys)):∀{d:D}{v:V},Rep K H d v->Rep K (upd H Da (.lst zs)) d v
 |_,_,.non=>.non
 |_,_,.bl b=>.bl b
 |_,_,.int i=>.int i
 |_,_,.str x=>.str x
 |_,_,.tup h r=>.tup (WC hD h) (aJ.alt hD r)
 |_,_,.ref a=>.ref a
 |_,_,.bD h r=>.bD (QO hD h) (aJ.alt hD r)
 |_,_,.cH h=>.cH h
theorem aJ.alt (hD:H Da=some (.lst ys)):∀{ds:List D}{vs:List V},aJ K H ds vs->aJ K (upd H Da (.lst zs)) ds vs
 |_,_,.nil=>.nil
 |_,_,.cons h r=>.cons (Rep.alt hD h) (aJ.alt hD r)
end
theorem aN.alt (ok:aN K st H)(hD:H Da=some (.lst ys))(hn:st Da=none):aN K st (upd H Da (.lst zs)):=fun a o e=>by
 have ne:a≠Da:=fun z=>by rw[z,hn]at e;cases e
 have:=ok a o e
 cases o with
 |lst ds =>
 obtain⟨vs,q,r⟩:=this
 exact⟨vs,by rw[aZ ne];exact q,r.alt hD⟩
 |dic _ _=>exact this.elim
 |ins c fs =>
 obtain⟨C,dx,ws,q,q2,q3,r⟩:=this
 exact⟨C,dx,ws,q,by rw[aZ ne];exact q2,q3,r.alt hD⟩
 |tab ks vs =>
 obtain⟨xs,ws,q,q0,q1,q2,q3,q4,q5,r⟩:=this
 exact⟨xs,ws,by rw[aZ ne];exact q,q0,q1,q2,q3.alt hD,q4,q5,r.alt hD⟩
theorem aN.take (ok:aN K st H)(hD:H Da=some (.lst ys)){ds:List D}(r:aJ K H ds ys):aN K (put st Da (.lst ds)) H:=fun a o e=>by
 by_cases ha:a=Da
 ·subst ha
  rw[bS]at e;cases e
  exact⟨ys,hD,r⟩
 ·rw[cR ha]at e
  exact ok a o e
end
theorem GF {K:ae}{H:Hp}{σd:St}{σ:L2.St}(r:bZ K H σd σ)(n:Nat)(aV:List Nat):bZ K H (ao n none++aV.map fun i=>(σd[i]?).getD none) (ao n none++jY aV σ):=by
 refine⟨by simp [jY],fun i d e=>?_⟩
 by_cases hi:i<n
 ·rw[dh (by simpa using hi),fw]at e
  split at e<;>cases e
 ·rw[ei (by simpa using hi)]at e ⊢
  simp only[nu,di,cb]at e ⊢
  obtain⟨k,e1,e2⟩:=e
  cases q:σd[k]? with
  |none=>rw[q]at e2;cases e2
  |some u =>
   rw[q]at e2
   have e2:u=some d:=e2
   subst e2
   obtain⟨v,h1,h2⟩:=r.2 k d q
   refine⟨v,?_,h2⟩
   simp only[jY,di,cb]
   exact⟨k,e1,by rw[h1];rfl⟩
theorem CK {P:bq}{w:cq}{H:Hp}{h h':Heap}{Ca:Addr}(ok:dN P w H h)(hn:H Ca=none)(hs:j2 Ca h h'):dN P w H h':=fun b u e=>by
 refine(ok b u e).nX (fun c v hc q=>hs.extBut c v ?_ q) (fun _ q=>q) fun _ _ q=>q
 rcases hc with z|z
 ·rw[z];exact fun y=>by rw[y,hn]at e;cases e
 ·exact fun y=>by rw[y,hn]at z;cases z
section
variable {X:Cx}{C:aS}{sub:Nat->Nat->Bool}{elt iter tg:b7}{ifs:List b7}{xe:Ex}{gF aD:List Ex}{pos:Pos}{scope:Scope}{own cn:List Str}{aV:List Nat}{one:Bool}{k:Option IK}
theorem CW (hC:bN C C)(S:iU X scope cn aV)(hc:X.calm=true)(jH:one=true->own.length=1)
  (hg:∀ fp s H Ca,PG (gN X scope own cn fp s H Ca) tg (zS X.K one own.length))
  (hts:∀ fp s H Ca,vU (gN X scope own cn fp s H Ca) ifs (nY X.K (eE C sub EF gF)))
  (he:∀ fp s H Ca,PE (gN X scope own cn fp s H Ca) elt (bT X.K (aF C sub EF xe)))
  {use:Option (Value->Sem Unit)}{Qf:Value->ah->Prop}
  {pz:List (Addr×Obj)}{s₂:ah}{σ:L2.St}{σd:St}{H1:Hp}{aC:aB}{J:It}{fp:List Addr}{it:Addr}{tn:Nat->Heap->Prop}{as:List Nat}{xs:List D}{R:List D->aB->Prop}
  (I2:Inv X pz σ H1 s₂)(T:Turn X.prog X.w X.K tg J fp it tn)(t0:tn 0 s₂.heap)(f2:∀ b∈fp,jW X pz H1 b)(r:bZ X.K H1 σd σ)(aU:aN X.K aC H1)(j:xW X.K J as xs H1 aC)
  (q:fD (same as aC) (fun x aG K=>iP one (bc own.length) x (ao own.length none++aV.map fun i=>(σd[i]?).getD none) fun σ' =>
    eE C sub EF gF σ' aG fun b aQ=>if b=true then aF C sub EF xe σ' aQ fun d bY=>K (some d) bY else K none aQ) xs [] aC R)
  (fin:∀(Da Ca:Addr)(H':Hp)(aA:aB)(ds:List D)(m:Str->Option Value)(s':ah),s'.heap.Ns Ca m->(∀ h',j2 Ca s'.heap h'->Inv X pz σ H' { s' with heap:=h' })->Inv X pz σ H' s'->Ca≠X.env.locals->(∀ x c,X.env.cells.lookup x=some c->c≠Ca)->Ca∉X.fs->X.s₀.heap.objs.size<=Ca->(∀ p∈X.pn++pz,p.1≠Ca)->H' Ca=none->Step H1 aC H' aA->aN X.K (put aA Da (.lst ds)) H'->H1 Da=none->aA Da=none->R ds aA ->
   qr (model X.prog X.w) X.A X.xe use Qf (.ref Da) Ca (.ok .next) s'):
  wpAny (model X.prog X.w) X.A (Qt []) (fun acc s₃ =>
   wpAny (model X.prog X.w) X.A (zy scope X.env.globals (iT X.env.cells scope.names []) [] X.env.qual none .none (some X.env)) (fun cenv s₄ =>
    ky (model X.prog X.w) X.A (.compStart (.ListComp elt [⟨tg,iter,ifs,0⟩] scope pos) 0 (.ref it) acc { cenv with scope:=relabel scope X.env }) (qr (model X.prog X.w) X.A X.xe use Qf acc cenv.locals) s₄) X.xe s₃) X.xe s₂:=by
 have hD1:H1 s₂.heap.objs.size=none:=I2.fresh
 obtain⟨tf,htf0⟩:∃ tf:D->aB->(Option D->aB->Prop)->Prop,tf=fun x aG K=>iP one (bc own.length) x (ao own.length none++aV.map fun i=>(σd[i]?).getD none) fun σ' =>
    eE C sub EF gF σ' aG fun b aQ=>if b=true then aF C sub EF xe σ' aQ fun d bY=>K (some d) bY else K none aQ:=⟨_,rfl⟩
 have htf:∀ x aG (K:Option D->aB->Prop),tf x aG K->iP one (bc own.length) x (ao own.length none++aV.map fun i=>(σd[i]?).getD none) fun σ' =>
    eE C sub EF gF σ' aG fun b aQ=>if b=true then aF C sub EF xe σ' aQ fun d bY=>K (some d) bY else K none aQ:=fun x aG K h=>by rw[htf0]at h;exact h
 rw[<-htf0]at q
 refine fu ?_
 have I3:=I2.E4 (aD:=[]) (ys:=[]) (t':=s₂.toks) .nil (dj _)
 generalize hS3:({ s₂ with heap:=s₂.heap.push { cls:=.type "list", dict:=none,data:=.seq ([]:List Value).toArray } }:ah)=s₃
 have I3:Inv X pz σ (upd H1 s₂.heap.objs.size (.lst [])) s₃:=by rw[<-hS3];exact I3
 have lt3:s₂.heap.objs.size<s₃.heap.objs.size:=by rw[<-hS3];show _<(s₂.heap.push _).objs.size;rw[ke];exact ij _
 have old3:∀ b o,s₂.heap.get? b=some o->s₃.heap.get? b=some o:=fun b o e=>by rw[<-hS3];exact au _ e
 generalize hDa:s₂.heap.objs.size=Da at *
 have hlt2:∀ b∈fp,b<Da:=fun b hb=>by
  obtain⟨o,e,_⟩:=T.obj _ _ t0 b hb
  rw[<-hDa];exact a9 e
 have f3:∀ b∈fp,jW X pz (upd H1 Da (.lst [])) b:=fun b hb=>⟨by rw[aZ (bj (hlt2 b hb))];exact(f2 b hb).1,(f2 b hb).2⟩
 have hlt3:∀ b∈fp,b<s₃.heap.objs.size:=fun b hb=>p8 (hlt2 b hb) lt3
 refine vv S.nocell (by intro y hy;simp at hy) (fun h₁ hns hsb=>?_) S.kind
 have keep1:∀ b o,s₃.heap.get? b=some o->h₁.get? b=some o:=fun b o e=>hsb.extBut b o (bj (a9 e)) (au _ e)
 have t1:tn 0 h₁:=T.keep _ _ _ t0 fun b hb o e=>keep1 b o (old3 b o e)
 have B0:=yO (own:=own) S hc I3 f3 hlt3 (bb _) (tk:=s₃.toks+([]:List (Str×Value)).length) hns keep1
 generalize hXc:gN X scope own cn fp s₃ (upd H1 Da (.lst [])) s₃.heap.objs.size=Xc at B0
 have hgc:PG Xc tg (zS X.K one own.length):=by rw[<-hXc];exact hg _ _ _ _
 have htc:vU Xc ifs (nY X.K (eE C sub EF gF)):=by rw[<-hXc];exact hts _ _ _ _
 have hec:PE Xc elt (bT X.K (aF C sub EF xe)):=by rw[<-hXc];exact he _ _ _ _
 have eP:Xc.prog=X.prog:=by rw[<-hXc];rfl
 have eW:Xc.w=X.w:=by rw[<-hXc];rfl
 have eK:Xc.K=X.K:=by rw[<-hXc];rfl
 have eA:Xc.A=X.A:=by rw[<-hXc];rfl
 have eX:Xc.xe=fun _ _=>False:=by rw[<-hXc];rfl
 have eN:Xc.env=t4 scope (iT X.env.cells scope.names []) s₃.heap.objs.size X.env:=by rw[<-hXc];rfl
 have eL:Xc.env.locals=s₃.heap.objs.size:=by rw[eN];rfl
 have eC:Xc.calm=true:=by rw[<-hXc];rfl
 have fC:∀{H':Hp},(∀ b∈fp,H' b=none)->∀ b∈fp,jW Xc [] H' b:=fun{H'} hn b hb=>by
  have ok:=B0.ok
  refine⟨hn b hb,by rw[eL];exact bj (hlt3 b hb),ok.exfs b (by rw[<-hXc];exact hb),.inl (by rw[<-hXc];exact hb),fun x c e=>(ok.exf b (by rw[<-hXc];exact hb)).2 x c e,fun p hp=>?_⟩
  have:p∈([]:List (Addr×Obj)):=by rw[<-hXc]at hp;exact hp
  cases this
 have capsRel:∀{H':Hp}{aA:aB},Step H1 aC H' aA->bZ X.K H' (ao own.length none++aV.map fun i=>(σd[i]?).getD none) (ao own.length none++jY aV σ):=fun s'=>(GF r _ _).step aU s'
 have loop:∀ s4:ah,s4 = { s₃ with heap:=h₁,toks:=s₃.toks+([]:List (Str×Value)).length }->ky (model X.prog X.w) X.A (.compLoop (.ListComp elt [⟨tg,iter,ifs,0⟩] scope pos) 0 (.ref it) (.ref Da) Xc.env) (qr (model X.prog X.w) X.A X.xe use Qf (.ref Da) s₃.heap.objs.size) s4:=by
  rintro s4 rfl
  refine IG (fun n s'=>∃ i H' aA ds ys,n+i=xs.length/\Inv Xc [] (ao own.length none++jY aV σ) H' s'/\tn i s'.heap/\(∀ b∈fp,H' b=none)/\Step H1 aC H' aA/\aN X.K aA H'/\H' Da=some (.lst ys)/\aA Da=none/\aJ X.K H' ds ys /\
   fD (same as aC) tf (xs.drop i) ds aA R) ?_ xs.length
   ⟨0,_,aC,[],[],rfl,B0,t1,fun b hb=>(f3 b hb).1,mU hD1,aU.new hD1,dH,aU.fresh hD1,.nil,by simpa using q⟩
  rintro n s' ⟨i,H',aA,ds,ys,hni,I',ti,fr',cT,cQ,hD',hst',rs,q'⟩
  by_cases hi:i<xs.length
  ·-- a turn
   have ed:xs.drop i=xs[i]::xs.drop (i+1):=e9 hi
   rw[ed]at q'
   obtain⟨g1,gl,q'⟩:=q'
   have hx:xs[i]? = some xs[i]:=bw hi
   have hpn:=T.item Xc eP eW eK eC i [] s' _ H' (fun _ _=>False) I' (fC fr') ti (j.go i H' aA xs[i] cT cQ g1 hx)
   rw[eA]at hpn
   refine bA hpn fun rr s5 ⟨u,hu,h5⟩=>?_
   subst hu
   refine bA h5 fun _ s6 ⟨v,H6,I6,rv,y6,t6,fr6⟩=>?_
   obtain⟨s6s,IU,rd⟩:=j.yld i H' aA xs[i] v H6 cT cQ g1 hx y6
   have D6:=s6s Da _ hD' hst'
   have I6':=I6.pinned (fC fr6) (T.obj _ _ t6)
   have hasg:=hgc _ s6 _ H6 v u (fun σ2 H2=>∃ kA,H2=H6/\bZ X.K H6 kA σ2/\(∀ i,own.length<=i->σ2[i]? = (ao own.length none++jY aV σ)[i]?)/\σ2.length=(ao own.length none++jY aV σ).length /\
    eE C sub EF gF kA aA fun b aQ=>if b=true then aF C sub EF xe kA aQ fun d bY=>fD (same as aC) tf (xs.drop (i+1)) (ds++[d]) bY R else fD (same as aC) tf (xs.drop (i+1)) ds aQ R) I6' rv
    (A2 jH (htf _ _ _ q') ((capsRel cT).step cQ s6s) rd fun σ2 kA r2 p2 k2 l2=>⟨kA,rfl,r2,k2,l2,p2⟩)
   rw[eP,eW,eA,eX]at hasg
   refine bA hasg fun _ s7 ⟨σ2,H7,I7,kA,e7,r7,k7,l7,q7⟩=>?_
   subst e7
   have hte:=htc _ s7 σ2 H7 _ I7 ⟨kA,aA,_,r7,IU,q7,fun b H' z=>z⟩
   rw[eP,eW,eA,eX]at hte
   have again:∀{H8:Hp}{s8:ah}{eU:aB}{ds8:List D}{ys8:List V},Inv Xc ([]++sC fp s6.heap) σ2 H8 s8->Step H1 aC H8 eU->aN X.K eU H8->H8 Da=some (.lst ys8)->eU Da=none->aJ X.K H8 ds8 ys8->fD (same as aC) tf (xs.drop (i+1)) ds8 eU R ->
     ∃ m,m<n/\∃ i H' aA ds ys,m+i=xs.length/\Inv Xc [] (ao own.length none++jY aV σ) H' s8/\tn i s8.heap/\(∀ b∈fp,H' b=none)/\Step H1 aC H' aA/\aN X.K aA H'/\H' Da=some (.lst ys)/\aA Da=none/\aJ X.K H' ds ys/\fD (same as aC) tf (xs.drop i) ds aA R:=fun{H8 s8 eU ds8 ys8} I8 s8s wJ hD8 hs8 rs8 q8=>by
    have pinned:∀ b∈fp,∀ o,s6.heap.get? b=some o->s8.heap.get? b=some o/\H8 b=none:=fun b hb o e=>by
     have:=I8.pin (b,o) (cz _ (cz _ (oD hb e)))
     exact⟨this.1,this.2.1⟩
    refine⟨n-1,by omega,i+1,H8,eU,ds8,ys8,by omega,?_,T.keep _ _ _ t6 fun b hb o e=>(pinned b hb o e).1,fun b hb=>?_,s8s,wJ,hD8,hs8,rs8,q8⟩
    ·refine I8.pA.weak (by rw[l7]) fun i0 v0 e0=>?_
     by_cases hi0:i0<own.length
     ·rw[dh (by simpa using hi0),fw]at e0
      split at e0<;>cases e0
     ·rw[k7 i0 (by omega)];exact e0
    ·obtain⟨o,e,_⟩:=T.obj _ _ t6 b hb
     exact(pinned b hb o e).2
   have s17:=cT.trans s6s
   have rs7:=rs.step cQ s6s
   refine bA hte fun b s8 ⟨H8,I8,eU,s8s,wJ,q8⟩=>?_
   have D8:=s8s Da _ D6.1 D6.2
   have rs8:=rs7.step IU s8s
   cases b with
   |false=>exact again I8 (s17.trans s8s) wJ D8.1 D8.2 rs8 q8
   |true =>
    have hel:=hec _ s8 σ2 H8 _ I8 ⟨kA,eU,_,r7.step IU s8s,wJ,q8,fun v H' z=>z⟩
    rw[eP,eW,eA,eX]at hel
    refine bA hel fun u9 s9 ⟨v9,H9,I9,rv9,d9,wK,s9s,En,rd9,q9⟩=>?_
    have D9:=s9s Da _ D8.1 D8.2
    have rs9:=rs8.step wJ s9s
    have hap:=L2.nH _ s9 σ2 H9 (.ref Da) [v9] (.ref Da) [u9] (fun _ H'=>H'=upd H9 Da (.lst (ys++[v9]))) I9 rfl (.cons rv9 .nil) ⟨Da,ys,v9,rfl,rfl,D9.1,by rw[fI,<-rs9.length];exact gl,rfl⟩
    rw[eP,eW,eA,eX]at hap
    refine bA hap fun _ s10 ⟨_,H10,I10,_,e10⟩=>?_
    subst e10
    refine again I10 (fun a o e0 n0=>?_) (En.alt D9.1 D9.2) dH D9.2 ((rs9.append (.cons rd9 .nil)).alt D9.1) q9
    have:=((s17.trans s8s).trans s9s) a o e0 n0
    exact⟨by rw[aZ (cJ e0 hD1)];exact this.1,this.2⟩
  ·-- the end
   have ed:xs.drop i=[]:=f9 (by omega)
   rw[ed]at q'
   have hpn:=T.done Xc eP eW eK eC i [] s' _ H' (fun _ _=>False) I' (fC fr') ti (j.stop i H' aA cT cQ q'.1 (by omega))
   rw[eA]at hpn
   refine bA hpn fun rr s5 ⟨hr,I5⟩=>?_
   subst hr
   have un5:Un (eM X.stack) fp (upd H1 Da (.lst [])) H' s₃.heap s5.heap:=by have:=I5.base;rw[<-hXc]at this;exact this
   have os5:s5.os=s₃.os:=by have:=I5.os;rw[<-hXc]at this;exact this
   have fC5:H' s₃.heap.objs.size=none:=by have:=I5.free;rw[eL]at this;exact this
   have hch:∀ b∈fp,(b∈X.ex∨X.s₀.heap.objs.size<=b)/\b≠X.env.locals/\(∀ x c,X.env.cells.lookup x=some c->c≠b)/\∀ p∈X.pn++pz,p.1≠b:=fun b hb=>⟨(f2 b hb).2.2.2.1,(f2 b hb).2.1,(f2 b hb).2.2.2.2.1,(f2 b hb).2.2.2.2.2⟩
   have hok5:dN X.prog X.w H' s5.heap:=by have:=I5.bJ;rw[eP,eW]at this;exact this
   have Iall:∀ h',(∀ b o,b≠s₃.heap.objs.size->s5.heap.get? b=some o->h'.get? b=some o)->dN X.prog X.w H' h'->Inv X pz σ H' { s5 with heap:=h' }:=fun h' kk bJ=>by
    have ne:∀ b o,s₃.heap.get? b=some o->b≠s₃.heap.objs.size:=fun b o e=>bj (a9 e)
    refine I3.lT (s':={ s5 with heap:=h' }) (ch:=fp) os5 ⟨fun b o e n hb hx=>kk b o (ne b o e) (un5.keep b o e n hb hx),fun b o e n hb hx=>?_,un5.free,fun b o e hx=>?_,un5.iM,un5.iA,un5.iX⟩ bJ I5.bare hch
    ·obtain⟨sl,e'⟩:=un5.slot b o e n hb hx
     exact⟨sl,kk b _ (ne b o e) e'⟩
    ·obtain⟨o',e'⟩:=un5.there b o e hx
     exact⟨o',kk b o' (ne b o e) e'⟩
   obtain⟨m5,ns5,_⟩:=I5.loc
   rw[eL]at ns5
   refine fin Da s₃.heap.objs.size H' aA ds m5 s5 ns5 (fun h' hs=>Iall h' (fun b o hb e=>hs.extBut b o hb e) (CK hok5 fC5 hs)) (Iall s5.heap (fun b o _ e=>e) hok5) (p0 I3.lt) (fun x c e=>?_) (I3.Q2 (bb _)) I3.sz (fun p hp=>bj (a9 (I3.pin p hp).1)) fC5 cT (cQ.take hD' rs) hD1 hst' q'.2
   obtain⟨v,o,ho,_⟩:=I3.cell x c e
   exact bj (a9 ho)
 have hl:=loop _ rfl
 rw[eN]at hl
 exact uw hl (T.self X.A 0 _ _ _ t1 hl)
theorem zF {H H1 H':Hp}{st aC aA:aB}{Da:Addr}{o:MO}(s1:Step H st H1 aC)(s2:Step H1 aC H' aA)(hD:H1 Da=none):Step H st H' (put aA Da o):=fun a u e n=>by
 have e1:=s1 a u e n
 have e2:=s2 a u e1.1 e1.2
 exact⟨e2.1,by rw[cR (cJ e1.1 hD)];exact e2.2⟩
theorem ZK (hC:bN C C)(S:iU X scope cn aV)(hc:X.calm=true)(jH:one=true->own.length=1)
 (hi:PI X tg iter (uV X.K fun σ st M=>bC C sub EF aD σ st fun ds aC=>iJ k ds aC fun as xs=>M as xs aC))
 (hg:∀ fp s H Ca,PG (gN X scope own cn fp s H Ca) tg (zS X.K one own.length))
 (hts:∀ fp s H Ca,vU (gN X scope own cn fp s H Ca) ifs (nY X.K (eE C sub EF gF)))
 (he:∀ fp s H Ca,PE (gN X scope own cn fp s H Ca) elt (bT X.K (aF C sub EF xe)))
 (hs:∀ x,fq iter X.env x=pure x):
 PE X (.ListComp elt [⟨tg,iter,ifs,0⟩] scope pos) (bT X.K (aF C sub EF (.comp own.length aV (bc own.length) one k aD gF xe))):=by
 intro pz s σ H Q I ⟨σd,st,R,r,ok,q,hq⟩
 rw[Ou]
 refine mj (use:=none) rfl hs (nU (S.cells I.ok)) S.kind S.names ?_
 refine bA (hi pz s σ H _ I ⟨σd,st,_,r,ok,q,fun J H1 z=>z⟩) fun v s1 h1=>bA h1 fun itv s2 h2=>?_
 obtain⟨it,fp,tn,J,H1,rfl,I2,T,t0,f2,as,xs,aC,cT,aU,j,q1⟩:=h2
 refine CW (use:=none) hC S hc jH hg hts he I2 T t0 f2 (r.step ok cT) aU j q1 ?_
 intro Da Ca H' aA ds m s' hns CO hI _ _ _ _ _ _ kO okp hD1 hst' hR
 exact⟨m,hns,fun h' hh=>⟨.ref Da,H',CO h' hh,rfl,hq _ _ ⟨.ref Da,_,zF cT kO hD1,okp,.ref Da,hR.2 Da hst'⟩⟩⟩
theorem Y6 {i:Nat}{y:Str}{py spos:Pos}(hC:bN C C)(S:iU X scope cn aV)(hc:X.calm=true)(jH:one=true->own.length=1)
  (hi:PI X tg iter (uV X.K fun σ st M=>bC C sub EF aD σ st fun ds aC=>iJ k ds aC fun as xs=>M as xs aC))
  (hg:∀ fp s H Ca,PG (gN X scope own cn fp s H Ca) tg (zS X.K one own.length))
  (hts:∀ fp s H Ca,vU (gN X scope own cn fp s H Ca) ifs (nY X.K (eE C sub EF gF)))
  (he:∀ fp s H Ca,PE (gN X scope own cn fp s H Ca) elt (bT X.K (aF C sub EF xe)))
  (hN:X.N.Nodup)(hy:X.N[i]? = some y)(hx:Loc X.env.scope y)(hf:X.fn y=true∨X.env.scope.names.lookup y=some .local)
  (hsw:qb (.ListComp elt [⟨tg,iter,ifs,0⟩] scope pos) (some (.Name y py)) spos.line X.env=pure true)
  (hs:∀ x,fq iter X.env x=pure x):
  PS X (.Assign [.Name y py] (.ListComp elt [⟨tg,iter,ifs,0⟩] scope pos) spos) (iW X.K EF (wpS C sub (.asg (.nm i) (.comp own.length aV (bc own.length) one k aD gF xe)))):=by
 intro pz s σ H D I ⟨σd,st,P,r,ok,q,h⟩
 have q:=CD hC h.ex q
 rw[exec_Assign_Name_used _ _ _ _ hsw]
 refine af (r0 (af ?_))
 show wpAny _ X.A (do let _ <-comprehension (.ListComp elt [⟨tg,iter,ifs,0⟩] scope pos) scope X.env _ (Qt []) false (eval iter X.env) (some (lq (.Name y py) X.env))) _ _ s
 refine af (ee (mj (use:=some (lq (.Name y py) X.env)) (Q:=fun _ s'=>SP X pz D .next s') rfl hs (nU (S.cells I.ok)) S.kind S.names ?_) (fun _ s' hq=>aw (aw hq)) fun _ _ e=>e)
 refine bA (hi pz s σ H _ I ⟨σd,st,_,r,ok,q,fun J H1 z=>z⟩) fun v s1 h1=>bA h1 fun itv s2 h2=>?_
 obtain⟨it,fp,tn,J,H1,rfl,I2,T,t0,f2,as,xs,aC,cT,aU,j,q1⟩:=h2
 refine CW (use:=some (lq (.Name y py) X.env)) hC S hc jH hg hts he I2 T t0 f2 (r.step ok cT) aU j q1 ?_
 intro Da Ca H' aA ds m s' hns CO hI hL hcl hfs kE hpins hn kO okp hD1 hst' hR
 show wpAny _ X.A (lq (.Name y py) X.env (.ref Da)) _ _ _
 refine xw (ED hI hN hy hx (v:=.ref Da) rfl (fun s'' I'' kk=>?_) hf)
 obtain⟨ad,sb,had⟩:=kk
 have nad:Ca≠ad:=fun z=>by
  rcases had with e|e
  ·exact hL (z.trans e)
  ·exact hcl y ad e z.symm
 refine⟨m,hns.at' fun o e=>(sb.2 Ca nad).trans e,fun h' hh=>?_⟩
 refine⟨σ.set i (some (.ref Da)),H',I''.turned (t':=s''.toks) (fun b o hb e=>hh.extBut b o hb e) hn hL (.inr kE) hcl hpins,?_⟩
 have aQ:=zF (o:=.lst ds) cT kO hD1
 exact h.nx _ _ _ _ ((r.step ok aQ).set i (.ref Da)) aQ okp (hR.2 Da hst')
end
theorem vK {K:ae}{H:Hp}{ds:List D}{vs:List V}(r:aJ K H ds vs){N:List Str}{np:Nat}(h:ds.length=np):bZ K H (start np N.length ds) (L2.start N vs):=by
 refine⟨by simp [start,L2.start,r.length,<-h],fun i d e=>?_⟩
 unfold start at e
 by_cases hi:i<ds.length
 ·rw[dh (by simpa using hi),di,cb]at e
  obtain⟨d',e1,e2⟩:=e
  cases e2
  obtain⟨v,e3,e4⟩:=r.get e1
  refine⟨v,?_,e4⟩
  unfold L2.start
  rw[dh (by rw[aa,<-r.length];exact hi),di,e3];rfl
 ·rw[ei (by simpa using hi),fw]at e
  split at e<;>cases e
theorem WK {P:bq}{w:cq}{K:ae}{mg:Str->Option Value}{base:Heap}{G:Prog}{f:Nat}{a:Addr}{fd:fx}{ps:List Str}:cM P w K mg base gH 0 a fd ps (jO K (aI G 0) f):=by
 have no:∀ vs H Q E,¬jO K (aI G 0) f vs H Q E:=fun vs H Q E ⟨_,_,_,_,_,h,_⟩=>h
 exact⟨fun vs H Q E h=>absurd h (no vs H Q E),fun A outer s H args us vs Q E _ _ _ _ h=>absurd h (no vs H Q E)⟩
theorem cB:cu "len" = some (.builtin "len"):=by decide +kernel
theorem lI:cu "all" = some (.builtin "all"):=by decide +kernel
theorem M5:cu "any" = some (.builtin "any"):=by decide +kernel
theorem tP:cu "isinstance" = some (.builtin "isinstance"):=by decide +kernel
theorem uZ:cu "int" = some (.type "int"):=by decide +kernel
theorem nJ:cu "str" = some (.type "str"):=by decide +kernel
theorem BZ:cu "bool" = some (.type "bool"):=by decide +kernel
theorem CA:cu "list" = some (.type "list"):=by decide +kernel
theorem dI:cu "tuple" = some (.type "tuple"):=by decide +kernel
theorem Aw:cu "set" = some (.type "set"):=by decide +kernel
theorem IY:cu "reversed" = some (.type "reversed"):=by decide +kernel
noncomputable def GB:Ty->String
 |.int =>"int"
 |.str =>"str"
 |.bool =>"bool"
 |.list =>"list"
 |.tuple =>"tuple"
 |.dict =>"dict"
 |.err _ =>"?"
noncomputable def EO:Ty->Bool
 |.err _=>false
 |_=>true
section
variable {X:Cx}{pz:List (Addr×Obj)}{σ:L2.St}{H:Hp}{s:ah}{st:aB}{sub:Nat->Nat->Bool}
abbrev Y9 (X:Cx)(s:ah)(u:Value)(t:Ty)(b:Bool):Prop:=∀(A:cg)(Q:Value->ah->Prop)(E:Value->ah->Prop),(∀ tk,Q (.bool b) { s with toks:=tk })->wpAny (model X.prog X.w) A (call (.builtin "isinstance") [u,.type (GB t)]) Q E s
theorem xD {a:Addr}(I:Inv X pz σ H s)(h:∃ o,s.heap.get? a=some o/\o.cls=.type "list"){t:Ty}{b:Bool}(e:z9 X.K (.type "list") (.type (GB t))=some b):Y9 X s (.ref a) t b:=fun A Q E hQ =>
 gr PySem.W.kitx_list I.jQ h e (fun z=>nomatch z) hQ
theorem KO {a:Addr}(I:Inv X pz σ H s)(h:∃ o,s.heap.get? a=some o/\o.cls=.type "tuple"){t:Ty}{b:Bool}(e:z9 X.K (.type "tuple") (.type (GB t))=some b):Y9 X s (.ref a) t b:=fun A Q E hQ =>
 gr PySem.W.kitx_tuple I.jQ h e (fun z=>nomatch z) hQ
theorem OL {d:D}{v:V}{u:Value}{t:Ty}{P:Bool->Prop}(I:Inv X pz σ H s)(ok:aN X.K st H)(r:Rep X.K H d v)(rv:RelV v u)(ht:EO t=true)(h:fS sub d st t P):∃ b,P b/\Y9 X s u t b:=by
 cases d with
 |non =>
  cases r.gG;cases rv
  refine⟨false,by cases t<;>exact h,fun A Q E hQ=>gr PySem.W.kitx_none I.jQ mx ?_ (fun z=>nomatch z) hQ⟩
  cases t<;>first|rfl|cases ht
 |bl k =>
  cases r.fZ;cases rv
  cases t with
  |bool=>exact⟨true,h,fun A Q E hQ=>gr rm I.jQ mx rfl (fun z=>nomatch z) hQ⟩
  |int=>exact⟨true,h,fun A Q E hQ=>gr rm I.jQ mx rfl (fun z=>nomatch z) hQ⟩
  |err _=>cases ht
  |_=>exact⟨false,h,fun A Q E hQ=>gr rm I.jQ mx rfl (fun z=>nomatch z) hQ⟩
 |int k =>
  cases r.int_inv;obtain⟨tk,rfl⟩:=rv
  cases t with
  |int=>exact⟨true,h,fun A Q E hQ=>gr yt I.jQ mx rfl (fun z=>nomatch z) hQ⟩
  |err _=>cases ht
  |_=>exact⟨false,h,fun A Q E hQ=>gr yt I.jQ mx rfl (fun z=>nomatch z) hQ⟩
 |str k =>
  cases r.str_inv;obtain⟨tk,rfl⟩:=rv
  cases t with
  |str=>exact⟨true,h,fun A Q E hQ=>gr yu I.jQ mx rfl (fun z=>nomatch z) hQ⟩
  |err _=>cases ht
  |_=>exact⟨false,h,fun A Q E hQ=>gr yu I.jQ mx rfl (fun z=>nomatch z) hQ⟩
 |tup ds =>
  obtain⟨a,vs,rfl,f,g⟩:=r.bK
  cases rv
  obtain⟨aD,_,⟨o,h1,h2,_⟩,_⟩:=I.tuple f
  cases t with
  |tuple=>exact⟨true,h,KO I ⟨o,h1,h2⟩ rfl⟩
  |err _=>cases ht
  |_=>exact⟨false,h,KO I ⟨o,h1,h2⟩ rfl⟩
 |ref a =>
  cases r.dQ
  cases rv
  have key:∃ ds,st a=some (.lst ds):=by
   cases e:st a with
   |none=>exfalso;cases t<;>first|(simp only[fS,dW,e]at h)|cases ht
   |some o =>
    cases o with
    |lst ds=>exact⟨ds,rfl⟩
    |dic _ _=>exact(ok a _ e).elim
    |ins _ _=>exfalso;cases t<;>first|(simp only[fS,dW,e]at h)|cases ht
    |tab _ _=>exfalso;cases t<;>first|(simp only[fS,dW,e]at h)|cases ht
  obtain⟨ds,e⟩:=key
  obtain⟨vs,g1,_⟩:=ok.lst e
  obtain⟨_,aD,n,_,_,e1⟩:=I.qE g1
  have ho:∃ o,s.heap.get? a=some o/\o.cls=.type "list":=⟨_,e1,rfl⟩
  cases t with
  |list=>simp only[fS]at h;rw[cN e]at h;exact⟨true,h,xD I ho rfl⟩
  |err _=>cases ht
  |_=>simp only[fS]at h;rw[cN e]at h;exact⟨false,h,xD I ho rfl⟩
 |bD ds =>
  obtain⟨a,vs,rfl,f,g⟩:=r.kS
  cases rv
  obtain⟨aD,_,p,_⟩:=I.list f.sq
  obtain⟨o,h1,h2,_⟩:=p.isList
  cases t with
  |list=>exact⟨true,h,xD I ⟨o,h1,h2⟩ rfl⟩
  |err _=>cases ht
  |_=>exact⟨false,h,xD I ⟨o,h1,h2⟩ rfl⟩
 |cH _ _=>cases t<;>exact(show False from h).elim
 |exc c=>cases r
end
section
variable {X:Cx}{C:aS}{sub:Nat->Nat->Bool}{E:XK}{a:b7}{x:Ex}{p p2 pos:Pos}
def Ld (K:ae)(sub:Nat->Nat->Bool)(t:Ty):List V->Hp->L2.VK->Prop:=fun vs H Q=>∃ d v st R,vs=[v,.ty (GB t)]/\Rep K H d v/\aN K st H/\fS sub d st t (fun b=>R (.bl b) st)/\∀ v H',QD K H st R v H'->Q v H'
theorem SS {t:Ty}(ht:EO t=true):oI X (.builtin "isinstance") (Ld X.K sub t):=by
 intro pz s σ H vs us Q I rv h
 obtain⟨d,v,st,R,rfl,r,ok,h,hq⟩:=h
 cases rv with|cons r1 r2=>cases r2 with|cons r2 r3 =>
 cases r3
 cases r2
 obtain⟨b,hb,hi⟩:=OL I ok r r1 ht h
 exact hi X.A _ _ fun tk=>⟨.bl b,H,I.tok tk,rfl,hq _ _ (.here ok (.bl b) hb)⟩
theorem Hq {t:Ty}{n:Str}(ht:EO t=true)(hg:Gl X "isinstance")(hm:X.mg "isinstance" = none)(hg2:Gl X n)(hm2:X.mg n=none)(hv2:cu n=some (.type (GB t)))(ha:PE X a (bT X.K (aF C sub E x)))
 (hn2:n ≠"__name__")(hd2:(n==("__debug__" : Str))=false)(he:ar [a,.Name n p2] X.env=(false,eval a X.env)::ar [.Name n p2] X.env)(he2:ar [.Name n p2] X.env=[(false,eval (.Name n p2) X.env)])(fH:(dq pos (ar [.Name n p2] X.env)).any (·.1)=false):
 PE X (.Call (.Name "isinstance" p) [a,.Name n p2] [] pos) (bT X.K (aF C sub E (.isi x [t]))) :=
 (zE (SS (sub:=sub) ht) hg hm tP (oJ ha (oJ (J2 hg2 hm2 hv2 (v:=.ty (GB t)) rfl hn2 hd2) AO he2) he) (by decide) (by decide) he fH).imp fun σ H Q ⟨σd,st,R,r,ok,q,hq⟩=>by
 refine⟨σd,st,_,r,ok,q,fun v H1 ⟨d,aC,s1,aU,r1,q1⟩=>?_⟩
 exact⟨d,v,aC,R,rfl,r1,aU,q1,fun v H' z=>hq _ _ (.after s1 z)⟩
theorem Gm {t:String}{j:Nat}(h:j3 t=⟨(W t).toArray⟩):PE X (.Constant (.str (j3 t)) j pos) (bT X.K (aF C sub E (.c (.str (W t))))) :=
 rN NA fun H=>by rw[h];exact .str _
end
structure JE (X:Cx)(C:aS)(sub:Nat->Nat->Bool)(E:XK)(e:b7)(x:Ex):Prop where
 h:PE X e (bT X.K (aF C sub E x))
structure JT (X:Cx)(C:aS)(sub:Nat->Nat->Bool)(E:XK)(e:b7)(x:Ex):Prop where
 h:PT X e (iQ X.K (aF C sub E x))
structure JW (X:Cx)(C:aS)(sub:Nat->Nat->Bool)(E:XK)(e:b7)(x:Ex):Prop where
 h:PW X e (iQ X.K (aF C sub E x))
structure JA (X:Cx)(C:aS)(sub:Nat->Nat->Bool)(E:XK)(es:List b7)(xs:List Ex):Prop where
 h:PA X es (jP X.K (bC C sub E xs))
structure JO (X:Cx)(C:aS)(sub:Nat->Nat->Bool)(E:XK)(e:Option b7)(xs:List Ex):Prop where
 h:PO X e (CF X.K (bC C sub E xs))
structure JI (X:Cx)(C:aS)(sub:Nat->Nat->Bool)(E:XK)(tg e:b7)(k:Option IK)(xs:List Ex):Prop where
 h:PI X tg e (uV X.K fun σ st M=>bC C sub E xs σ st fun ds aC=>iJ k ds aC fun as ys=>M as ys aC)
structure JG (X:Cx)(C:aS)(sub:Nat->Nat->Bool)(E:XK)(tg:b7)(t:Tg):Prop where
 h:PG X tg (E2 X.K (lR C sub E t))
structure JN (X:Cx)(tg:b7)(i:Nat):Prop where
 h:PG X tg (AH i)
structure PH (X:Cx)(es:List b7)(is:List Nat):Prop where
 h:AG X es (qN is)
structure JB (X:Cx)(tg:b7)(one:Bool)(n:Nat):Prop where
 h:PG X tg (zS X.K one n)
structure JQ (X:Cx)(C:aS)(sub:Nat->Nat->Bool)(E:XK)(es:List b7)(xs:List Ex):Prop where
 h:vU X es (nY X.K (eE C sub E xs))
structure JS (X:Cx)(C:aS)(sub:Nat->Nat->Bool)(EX:XK)(s:Stmt)(x:Sx):Prop where
 h:PS X s (iW X.K EX (wpS C sub x))
structure uA (X:Cx)(C:aS)(sub:Nat->Nat->Bool)(EX:XK)(ss:List Stmt)(xs:List Sx):Prop where
 h:iN X ss (iW X.K EX (bU C sub xs))
structure oR (X:Cx)(C:aS)(n:Str)(fid:Nat):Prop where
 h:∃ k f fd ps,cM X.prog X.w X.K X.mg X.base gH k f fd ps (jO X.K C fid)/\dC k X.A/\X.mg n=some (.ref f)/\dv X.K (.ref f)=true/\Binds X.K fd ps []
def GC (K:ae)(mg:Str->Option Value)(n:Str)(d:D):Prop:=∃ u v,mg n=some u/\RelV v u/\∀ H,Rep K H d v
section
variable {X:Cx}{C:aS}{sub:Nat->Nat->Bool}{E EX:XK}{a b c e o tg:b7}{es:List b7}{x y z:Ex}{xs:List Ex}{p p2 pos apos:Pos}{k:Nat}{n:Str}{s:Stmt}{ss:List Stmt}{sxs:List Sx}
theorem jv (i:Nat)(hN:X.N[i]? = some n:=by kernel_rfl)(hv:X.env.scope.names.lookup n=some .local:=by kernel_rfl)(hd:(n==("__debug__" : Str))=false:=by kernel_rfl)
 (hcd:(n==("__classdict__" : Str))=false:=by kernel_rfl):JE X C sub E (.Name n pos) (.v i):=⟨TX (pv i hN (.inl hv) hd hcd)⟩
theorem cX (i:Nat)(hN:X.N[i]? = some n:=by kernel_rfl)(hv:X.env.scope.names.lookup n=some .cell:=by kernel_rfl)(hd:(n==("__debug__" : Str))=false:=by kernel_rfl)
 (hcd:(n==("__classdict__" : Str))=false:=by kernel_rfl):JE X C sub E (.Name n pos) (.v i):=⟨TX (pv i hN (.inr (.inl hv)) hd hcd)⟩
theorem ji {i:Int}:JE X C sub E (.Constant (.int i) k pos) (.c (.int i)):=⟨rN ZJ fun _=>.int _⟩
theorem jb {i:Bool}:JE X C sub E (.Constant (.bool i) k pos) (.c (.bl i)):=⟨rN Eu fun _=>.bl _⟩
theorem jn:JE X C sub E (.Constant .none k pos) (.c .non):=⟨rN Aa fun _=>.non⟩
theorem js {t:String}(h:j3 t=⟨(W t).toArray⟩:=by kernel_rfl):JE X C sub E (.Constant (.str (j3 t)) k pos) (.c (.str (W t))):=⟨Gm h⟩
theorem jg {d:D}(h:GC X.K X.mg n d)(hg:X.env.kindOf n=some .globalImplicit:=by kernel_rfl)(hd:(n==("__debug__" : Str))=false:=by kernel_rfl):JE X C sub E (.Name n pos) (.c d):=⟨let⟨u,v,h1,h2,h3⟩:=h;rN (B8 hg h1 h2 hd) h3⟩
theorem ja (h:JE X C sub E e x)(hs:JA X C sub E es xs)(dA:ar (e::es) X.env=(false,eval e X.env)::ar es X.env:=by kernel_rfl):JA X C sub E (e::es) (x::xs):=⟨Ej h.h hs.h dA⟩
theorem jt (m:bN C C)(hs:JA X C sub E es xs)(hl:xs.length<=aK:=by decide):JE X C sub E (.Tuple es k pos) (.tup xs):=⟨Ft m hs.h hl⟩
theorem uU {o:nF}(u:X.A.units+180<cLine)(ha:JE X C sub E a x)(hb:JE X C sub E b y)(hm:kv (jL o) b=false:=by kernel_rfl):JE X C sub E (.Compare a [jL o] [b] pos) (.cmp o x y):=⟨Je u ha.h hb.h hm⟩
theorem eD {o:nF}(u:X.A.units+180<cLine)(ha:JE X C sub E a x)(hb:JE X C sub E b y)(hm:kv (jL o) b=false:=by kernel_rfl):JT X C sub E (.Compare a [jL o] [b] pos) (.cmp o x y):=⟨YW u ha.h hb.h hm⟩
theorem UH {o o':nF}(u:X.A.units+180<cLine)(ha:JE X C sub E a x)(hb:JE X C sub E b y)(hc:JE X C sub E c z)(hm:yq [jL o,jL o'] [b,c]=false:=by kernel_rfl):JE X C sub E (.Compare a [jL o,jL o'] [b,c] pos) (.chain o o' x y z):=⟨U0 u ha.h hb.h hc.h hm⟩
theorem Nr {o o':nF}(u:X.A.units+180<cLine)(ha:JE X C sub E a x)(hb:JE X C sub E b y)(hc:JE X C sub E c z)(hm:yq [jL o,jL o'] [b,c]=false:=by kernel_rfl):JT X C sub E (.Compare a [jL o,jL o'] [b,c] pos) (.chain o o' x y z):=⟨SY u ha.h hb.h hc.h hm⟩
theorem tp (h:JE X C sub E e x)(he:∀ whole,xg e X.env whole=(do let v <-whole;wc e.pos;lz [v] (Pg v)):=by intro _;rfl):JT X C sub E e x:=⟨S5 h.h he⟩
theorem cG (ha:JE X C sub E a x)(hb:JE X C sub E b y)(hp:BS b:=by intro _ _;rfl):JE X C sub E (.Subscript a b pos) (.ix x y):=⟨Lm ha.h hb.h hp⟩
theorem bL {fid:Nat}(h:oR X C n fid)(ha:JA X C sub E (e::es) xs)(hg:X.env.kindOf n=some .globalImplicit:=by kernel_rfl)(hdb:(n==("__debug__" : Str))=false:=by kernel_rfl)(he:ar (e::es) X.env=(false,eval e X.env)::ar es X.env:=by kernel_rfl)(fH:(dq pos (ar es X.env)).any (·.1)=false:=by kernel_rfl):
 JE X C sub E (.Call (.Name n p) (e::es) [] pos) (.call fid xs):=⟨let⟨k,f,fd,ps,h1,h2,h3,h4,h5⟩:=h.h;Ci h1 h2 hg h3 h4 h5 Ip ha.h hdb he fH⟩
theorem cL {f:BI}{id:String}(hW:qZ X (.builtin id) (fP f))(hv:cu n=some (.builtin id))(hm:X.mg n=none)(ha:JA X C sub E (e::es) xs)(hg:X.env.kindOf n=some .globalImplicit:=by kernel_rfl)
 (hn:n ≠"__name__":=by decide)(hdb:(n==("__debug__" : Str))=false:=by kernel_rfl)(he:ar (e::es) X.env=(false,eval e X.env)::ar es X.env:=by kernel_rfl)(fH:(dq pos (ar es X.env)).any (·.1)=false:=by kernel_rfl):
 JE X C sub E (.Call (.Name n p) (e::es) [] pos) (.bi f xs):=⟨(Gr hW hg hm hv ha.h hn hdb he fH).imp fun σ H Q ⟨σd,st,R,r,ok,q,hq⟩=>⟨σd,st,R,r,ok,q,hq⟩⟩
theorem iL {f:BI}{id:String}(hW:qZ X (.type id) (fP f))(hv:cu n=some (.type id))(hm:X.mg n=none)(ha:JA X C sub E (e::es) xs)(hg:X.env.kindOf n=some .globalImplicit:=by kernel_rfl)
 (hn:n ≠"__name__":=by decide)(hdb:(n==("__debug__" : Str))=false:=by kernel_rfl)(he:ar (e::es) X.env=(false,eval e X.env)::ar es X.env:=by kernel_rfl)(fH:(dq pos (ar es X.env)).any (·.1)=false:=by kernel_rfl):
 JE X C sub E (.Call (.Name n p) (e::es) [] pos) (.bi f xs):=⟨(By hW hg hm hv ha.h hn hdb he fH).imp fun σ H Q ⟨σd,st,R,r,ok,q,hq⟩=>⟨σd,st,R,r,ok,q,hq⟩⟩
theorem rG {t:Ty}(hv:cu n=some (.type (GB t)))(hm:X.mg "isinstance" = none)(hm2:X.mg n=none)(ha:JE X C sub E a x)(ht:EO t=true:=by kernel_rfl)(hg:X.env.kindOf "isinstance" = some .globalImplicit:=by kernel_rfl)(hg2:X.env.kindOf n=some .globalImplicit:=by kernel_rfl)
 (hn2:n ≠"__name__":=by decide)(hd2:(n==("__debug__" : Str))=false:=by kernel_rfl)(he:ar [a,.Name n p2] X.env=(false,eval a X.env)::ar [.Name n p2] X.env:=by kernel_rfl)(he2:ar [.Name n p2] X.env=[(false,eval (.Name n p2) X.env)]:=by kernel_rfl)(fH:(dq pos (ar [.Name n p2] X.env)).any (·.1)=false:=by kernel_rfl):
 JE X C sub E (.Call (.Name "isinstance" p) [a,.Name n p2] [] pos) (.isi x [t]):=⟨Hq ht hg hm hg2 hm2 hv ha.h hn2 hd2 he he2 fH⟩
theorem A5 (ho:JE X C sub E o x)(ha:JA X C sub E (e::es) xs)(eQ:gk o "append" X.env (eval o X.env)=eval o X.env:=by kernel_rfl)
 (jZ:((dq pos (ar (e::es) X.env)).all (fun x=>!x.1)&&(om pos (kg [] X.env)).all (fun x=>x.1.isSome)&&decide ((e::es).length+([]:List j4).length+(if([]:List j4).isEmpty then 0 else 1)<30))=true:=by kernel_rfl)(eT:(apos.endLine==pos.line)=true:=by kernel_rfl)
 (hs:ar (e::es) X.env=(false,eval e X.env)::ar es X.env:=by kernel_rfl)(gE:(dq pos (ar es X.env)).any (·.1)=false:=by kernel_rfl):
 JE X C sub E (.Call (.Attribute o "append" apos) (e::es) [] pos) (.bX .append x xs):=⟨OM (by simp) PySem.F.slot_list_append PySem.F.type_list_append PX ho.h ha.h eQ jZ eT hs gE⟩
theorem Jv (ho:JE X C sub E o x)(ha:JA X C sub E (e::es) xs)(eQ:gk o "extend" X.env (eval o X.env)=eval o X.env:=by kernel_rfl)
 (jZ:((dq pos (ar (e::es) X.env)).all (fun x=>!x.1)&&(om pos (kg [] X.env)).all (fun x=>x.1.isSome)&&decide ((e::es).length+([]:List j4).length+(if([]:List j4).isEmpty then 0 else 1)<30))=true:=by kernel_rfl)(eT:(apos.endLine==pos.line)=true:=by kernel_rfl)
 (hs:ar (e::es) X.env=(false,eval e X.env)::ar es X.env:=by kernel_rfl)(gE:(dq pos (ar es X.env)).any (·.1)=false:=by kernel_rfl):
 JE X C sub E (.Call (.Attribute o "extend" apos) (e::es) [] pos) (.bX .extend x xs):=⟨OM (by simp) PySem.F.slot_list_extend PySem.F.type_list_extend ON ho.h ha.h eQ jZ eT hs gE⟩
theorem Mp (ho:JE X C sub E o x)(eQ:gk o "pop" X.env (eval o X.env)=eval o X.env:=by kernel_rfl)(eT:(apos.endLine==pos.line)=true:=by kernel_rfl):
 JE X C sub E (.Call (.Attribute o "pop" apos) [] [] pos) (.bX .pop x []):=⟨WY (by simp) PySem.F.slot_list_pop PySem.F.type_list_pop Bq ho.h eQ eT⟩
theorem sx (m:bN C C)(h:JE X C sub EX e x)(hs:qb e none pos.line X.env=pure false:=by kernel_rfl):JS X C sub EX (.Expr e pos) (.ex x):=⟨Ln m h.h hs⟩
theorem sn {i:Nat}(m:bN C C)(nd:X.N.Nodup)(he:JE X C sub EX e x)(hi:X.N[i]? = some n:=by kernel_rfl)(hx:X.env.scope.names.lookup n=some .local:=by kernel_rfl)
 (hs:oh [.Name n p] e pos.line X.env=pure false:=by kernel_rfl)(hw:oi [.Name n p] e X.env=pure none:=by kernel_rfl)(h1:(ff [.Name n p] X.env).map (·.2)=[lq (.Name n p) X.env]:=by kernel_rfl):JS X C sub EX (.Assign [.Name n p] e pos) (.asg (.nm i) x):=⟨MS m he.h (SH (sD nd hi (.inl hx) (.inr hx))) hs hw h1⟩
theorem TK {i:Nat}(m:bN C C)(nd:X.N.Nodup)(he:JE X C sub EX e x)(hi:X.N[i]? = some n:=by kernel_rfl)(hx:X.env.scope.names.lookup n=some .cell:=by kernel_rfl)(hf:X.fn n=true:=by kernel_rfl)
 (hs:oh [.Name n p] e pos.line X.env=pure false:=by kernel_rfl)(hw:oi [.Name n p] e X.env=pure none:=by kernel_rfl)(h1:(ff [.Name n p] X.env).map (·.2)=[lq (.Name n p) X.env]:=by kernel_rfl):JS X C sub EX (.Assign [.Name n p] e pos) (.asg (.nm i) x):=⟨MS m he.h (SH (sD nd hi (.inr hx) (.inl hf))) hs hw h1⟩
theorem gn {i:Nat}(nd:X.N.Nodup)(hi:X.N[i]? = some n:=by kernel_rfl)(hx:X.env.scope.names.lookup n=some .local:=by kernel_rfl):JN X (.Name n p) i:=⟨sD nd hi (.inl hx) (.inr hx)⟩
theorem Mr {i:Nat}(nd:X.N.Nodup)(hi:X.N[i]? = some n:=by kernel_rfl)(hx:X.env.scope.names.lookup n=some .cell:=by kernel_rfl)(hf:X.fn n=true:=by kernel_rfl):JN X (.Name n p) i:=⟨sD nd hi (.inr hx) (.inl hf)⟩
theorem gc {i:Nat}{is:List Nat}(h1:JN X e i)(h2:PH X es is)(hs:(ff (e::es) X.env).map (·.2)=lq e X.env::(ff es X.env).map (·.2):=by kernel_rfl):PH X (e::es) (i::is):=⟨VR h1.h h2.h hs⟩
theorem gt {is:List Nat}(h:PH X es is)(hc:X.calm=true:=by kernel_rfl)(hn:(ff es X.env).length=is.length:=by kernel_rfl)(dA:(ff es X.env).findIdx? (·.1)=none:=by kernel_rfl):JG X C sub E (.Tuple es k pos) (.tp is):=⟨Kw hc h.h hn dA⟩
theorem gi (ho:JE X C sub E o x)(hi:JE X C sub E a y)
 (ha:∀ v,lq (.Subscript o a pos) X.env v=(do
  let ov <-lz [v] (eval o X.env)
  let iv <-lz [v,ov] (eval a X.env)
  wc pos
  lz [v,ov,iv] (Pj ov iv v)
  Qp [v,ov,iv] []):=by intro _;rfl):JG X C sub E (.Subscript o a pos) (.ix x y):=⟨Ke ho.h hi.h ha⟩
theorem sg {t:Tg}(m:bN C C)(he:JE X C sub EX e x)(hg:JG X C sub EX tg t)
 (hs:oh [tg] e pos.line X.env=pure false:=by kernel_rfl)(hw:oi [tg] e X.env=pure none:=by kernel_rfl)(h1:(ff [tg] X.env).map (·.2)=[lq tg X.env]:=by kernel_rfl):JS X C sub EX (.Assign [tg] e pos) (.asg t x):=⟨MS m he.h hg.h hs hw h1⟩
theorem sw (m:bN C C)(hc:JT X C sub EX c x)(hb:uA X C sub EX ss sxs)(hp:qd (model X.prog X.w) X.A X.env X.xe:=by exact vb):JS X C sub EX (.While c ss [] pos) (.whl x sxs):=⟨V7 m hp hc.h hb.h⟩
theorem sf {kk:Option IK}{t:Tg}(m:bN C C)(hi:JI X C sub EX tg e kk xs)(hg:JG X C sub EX tg t)(hb:uA X C sub EX ss sxs)
 (hp:qd (model X.prog X.w) X.A X.env X.xe:=by exact vb)(hc:X.calm=true:=by kernel_rfl)(hs:∀ x,fq e X.env x=pure x:=by intro _;rfl):JS X C sub EX (.For tg e ss [] pos) (.kJ t kk xs sxs):=⟨UL m hp hc hi.h hg.h hb.h hs⟩
theorem A8 {kk:Option IK}{i:Nat}(m:bN C C)(nd:X.N.Nodup)(hi:JI X C sub EX (.Name n p) e kk xs)(hb:uA X C sub EX ss sxs)
 (hN:X.N[i]? = some n:=by kernel_rfl)(hx:X.env.scope.names.lookup n=some .local:=by kernel_rfl)
 (hp:qd (model X.prog X.w) X.A X.env X.xe:=by exact vb)(hc:X.calm=true:=by kernel_rfl)(hs:∀ x,fq e X.env x=pure x:=by intro _;rfl):JS X C sub EX (.For (.Name n p) e ss [] pos) (.kJ (.nm i) kk xs sxs):=⟨UL m hp hc hi.h (SH (sD nd hN (.inl hx) (.inr hx))) hb.h hs⟩
theorem DJ (m:bN C C)(hm:X.mg "range" = none)(ha:JA X C sub E [a] [x])(hg:X.env.kindOf "range" = some .globalImplicit:=by kernel_rfl)(hs:ar [a] X.env=[(false,eval a X.env)]:=by kernel_rfl):
 JI X C sub E tg (.Call (.Name "range" p) [a] [] pos) (some .range) [x]:=⟨X9 m hg hm ha.h hs⟩
theorem Ju {cl:Nat}{t:String}(m:bN C C):JS X C sub EF s (.rais cl [.c (.str (W t))]):=⟨Eh m fun σd st h=>h⟩
end
section
variable {X:Cx}{C:aS}{sub:Nat->Nat->Bool}{E EX:XK}{a b c e o tg:b7}{es rest:List b7}{x y z:Ex}{xs:List Ex}{p p2 pos apos:Pos}{k:Nat}{n:Str}{s:Stmt}{ss as bs:List Stmt}{sx1:Sx}{sxs ax bx:List Sx}
theorem an:JA X C sub E [] []:=⟨Hk⟩
theorem jl (hs:JA X C sub E es xs):JE X C sub E (.List es pos) (.lst xs):=⟨Fh hs.h⟩
theorem bI {op:qT}(ha:JE X C sub E a x)(hb:JE X C sub E b y):JE X C sub E (.BinOp a (An op) b pos) (.bin op x y):=⟨Hu ha.h hb.h⟩
theorem UC (ha:JE X C sub E a x):JE X C sub E (.UnaryOp .USub a pos) (.neg x):=⟨Et ha.h⟩
theorem ZY (ha:JE X C sub E a x):JE X C sub E (.UnaryOp .Not a pos) (.not_ x):=⟨Gj ha.h⟩
theorem oQ {op:Qo}(ha:JE X C sub E a x):JE X C sub E (.BoolOp op [a] pos) x:=⟨Hj ha.h⟩
theorem kK (ha:JE X C sub E a x)(hb:JE X C sub E (.BoolOp .And (b::rest) pos) y):JE X C sub E (.BoolOp .And (a::b::rest) pos) (.and_ x y):=⟨Eo ha.h hb.h⟩
theorem Mt (hc:JT X C sub E c x)(ha:JE X C sub E a y)(hb:JE X C sub E b z):JE X C sub E (.IfExp c a b pos) (.ite x y z):=⟨Hw hc.h ha.h hb.h⟩
theorem on:JO X C sub E none []:=⟨YB⟩
theorem os (h:JE X C sub E e x):JO X C sub E (some e) [x]:=⟨WV h.h⟩
theorem kL {lo hi:Option b7}{xl xh:List Ex}(ha:JE X C sub E a x)(hl:JO X C sub E lo xl)(hh:JO X C sub E hi xh):JE X C sub E (.Subscript a (.Slice lo hi none p2) pos) (.sl x xl xh):=⟨Mh ha.h hl.h hh.h⟩
theorem mD (h:JT X C sub E e x):JT X C sub E (.UnaryOp .Not e pos) (.not_ x):=⟨Ds h.h⟩
theorem nM (h:JW X C sub E e x):JT X C sub E e x:=⟨h.h.pt⟩
theorem nN {op:Qo}(h:JT X C sub E e x):JW X C sub E (.BoolOp op [e] pos) x:=⟨Bo h.h⟩
theorem YQ (m:bN C C)(ha:JT X C sub E a x)(hb:JW X C sub E (.BoolOp .And (b::rest) pos) y):JW X C sub E (.BoolOp .And (a::b::rest) pos) (.and_ x y):=⟨ZG m ha.h hb.h⟩
theorem lU (m:bN C C)(ha:JT X C sub E a x)(hb:JW X C sub E (.BoolOp .Or (b::rest) pos) y):JW X C sub E (.BoolOp .Or (a::b::rest) pos) (.or_ x y):=⟨Gy m ha.h hb.h⟩
theorem iv (h:JE X C sub E e x):JI X C sub E tg e none [x]:=⟨Ac h.h⟩
theorem qn:JQ X C sub E [] []:=⟨Dd⟩
theorem qc (h:JT X C sub E e x)(hs:JQ X C sub E es xs):JQ X C sub E (e::es) (x::xs):=⟨X0 h.h hs.h⟩
theorem nn:PH X [] []:=⟨Ai⟩
theorem b1 (h:JN X tg 0):JB X tg true 1:=⟨h.h⟩
theorem bt {is:List Nat}{q:Nat}(h:PH X es is)(hi:is=bc q:=by rfl)(hc:X.calm=true:=by kernel_rfl)(hn:(ff es X.env).length=q:=by kernel_rfl)(dA:(ff es X.env).findIdx? (·.1)=none:=by kernel_rfl):JB X (.Tuple es k pos) false q:=⟨by
 subst hi
 exact P9 hc h.h hn dA⟩
theorem c0:uA X C sub EX [] []:=⟨UB⟩
theorem cc (h1:JS X C sub EX s sx1)(h2:uA X C sub EX ss sxs):uA X C sub EX (s::ss) (sx1::sxs):=⟨Ap h1.h h2.h⟩
theorem fY (m:bN C C)(hc:JT X C sub EX c x)(ha:uA X C sub EX as ax)(hb:uA X C sub EX bs bx):JS X C sub EX (.If c as bs pos) (.iff x ax bx):=⟨Kk m hc.h ha.h hb.h⟩
theorem bR (m:bN C C)(h:JE X C sub EX e x):JS X C sub EX (.Return (some e) pos) (.ret x):=⟨Iy m h.h⟩
end
section
variable {X:Cx}{C:aS}{sub:Nat->Nat->Bool}{elt iter tg:b7}{ifs:List b7}{xe:Ex}{gF aD:List Ex}{pos:Pos}{scope:Scope}{own cn:List Str}{aV:List Nat}{one:Bool}{k:Option IK}
theorem lM (m:bN C C)(S:iU X scope cn aV)(hi:JI X C sub EF tg iter k aD)
 (hg:∀ fp s H Ca,JB (gN X scope own cn fp s H Ca) tg one own.length)
 (hts:∀ fp s H Ca,JQ (gN X scope own cn fp s H Ca) C sub EF ifs gF)
 (he:∀ fp s H Ca,JE (gN X scope own cn fp s H Ca) C sub EF elt xe)(hc:X.calm=true:=by kernel_rfl)(jH:one=true->own.length=1:=by decide)
 (hs:∀ x,fq iter X.env x=pure x:=by intro _;rfl):
 JE X C sub EF (.ListComp elt [⟨tg,iter,ifs,0⟩] scope pos) (.comp own.length aV (bc own.length) one k aD gF xe) :=
 ⟨ZK m S hc jH hi.h (fun a b c d=>(hg a b c d).h) (fun a b c d=>(hts a b c d).h) (fun a b c d=>(he a b c d).h) hs⟩
theorem Ef {i:Nat}{y:Str}{py spos:Pos}(m:bN C C)(nd:X.N.Nodup)(S:iU X scope cn aV)(hi:JI X C sub EF tg iter k aD)
 (hg:∀ fp s H Ca,JB (gN X scope own cn fp s H Ca) tg one own.length)
 (hts:∀ fp s H Ca,JQ (gN X scope own cn fp s H Ca) C sub EF ifs gF)
 (he:∀ fp s H Ca,JE (gN X scope own cn fp s H Ca) C sub EF elt xe)(hy:X.N[i]? = some y:=by kernel_rfl)(hx:X.env.scope.names.lookup y=some .local:=by kernel_rfl)
 (hsw:qb (.ListComp elt [⟨tg,iter,ifs,0⟩] scope pos) (some (.Name y py)) spos.line X.env=pure true:=by kernel_rfl)(hc:X.calm=true:=by kernel_rfl)(jH:one=true->own.length=1:=by decide)
 (hs:∀ x,fq iter X.env x=pure x:=by intro _;rfl):
 JS X C sub EF (.Assign [.Name y py] (.ListComp elt [⟨tg,iter,ifs,0⟩] scope pos) spos) (.asg (.nm i) (.comp own.length aV (bc own.length) one k aD gF xe)) :=
 ⟨Y6 m S hc jH hi.h (fun a b c d=>(hg a b c d).h) (fun a b c d=>(hts a b c d).h) (fun a b c d=>(he a b c d).h) nd hy (.inl hx) (.inr hx) hsw hs⟩
end
noncomputable def K6 (k:Option tv):Bool:=k==some .cell||k==some .free
noncomputable def S8 (names on:List (Str×NameKind))(N cn:List Str)(aV:List Nat):Bool :=
 names.all (fun y=>!(y.2 == .cell)&&(!(y.2 == .local)||names.lookup y.1==some .local)&&(!(y.2 == .free)||K6 (on.lookup y.1)))&&(cn.length==aV.length) &&
 (cn.zip aV).all (fun p=>names.lookup p.1==some .free&&N[p.2]? == some p.1&&K6 (on.lookup p.1))
theorem KQ {k:Option tv}(h:K6 k=true):k=some .cell∨k=some .free:=by
 unfold K6 at h
 rw[i9]at h
 rcases h with h|h
 ·exact .inl (by simpa using h)
 ·exact .inr (by simpa using h)
theorem jA {X:Cx}{scope:Scope}{cn:List Str}{aV:List Nat}{on:List (Str×NameKind)}{N:List Str}(h:S8 scope.names on N cn aV=true)(hE:X.env.scope.names=on:=by kernel_rfl)(hN:X.N=N:=by kernel_rfl)(hk:scope.kind=.function:=by kernel_rfl):iU X scope cn aV:=by
 unfold S8 at h
 rw[ay,ay]at h
 obtain⟨⟨h1,h2⟩,h3⟩:=h
 have h1:=List.all_eq_true.mp h1
 have hl:cn.length=aV.length:=by simpa using h2
 refine⟨hk,fun y hy=>?_,fun y hy e=>?_,fun y hy e=>?_,hl,fun j y e=>?_⟩
 ·have:=h1 y hy
  simp only[ay]at this
  intro z;rw[z]at this;simp at this
 ·have:=h1 y hy
  simp only[ay,i9]at this
  rcases this.1.2 with q|q
  ·rw[e]at q;simp at q
  ·simpa using q
 ·have:=h1 y hy
  simp only[ay,i9]at this
  rcases this.2 with q|q
  ·rw[e]at q;simp at q
  ·show X.env.scope.names.lookup y.1=_∨X.env.scope.names.lookup y.1=_
   rw[hE];exact KQ q
 ·obtain⟨hj,ej⟩:=List.getElem?_eq_some_iff.mp e
  have hj':j<aV.length:=by omega
  have hm:(y,aV[j])∈cn.zip aV:=by
   rw[<-ej]
   exact List.mem_iff_getElem.mpr ⟨j,by simp;omega,by simp⟩
  have:=List.all_eq_true.mp h3 _ hm
  simp only[ay]at this
  refine⟨by simpa using this.1.1,aV[j],bw hj',by rw[hN];simpa using this.1.2,?_⟩
  show X.env.scope.names.lookup y=_∨X.env.scope.names.lookup y=_
  rw[hE];exact KQ this.2
end L3
namespace L3
theorem LN {k:Nat}{A:PySem.Around}(hr:L2.dC k A):A.units+180<zd:=by have:=hr.un;omega
end L3
end
section
namespace PySem
open Sem (wp)
section
variable {prog:bq}{w:cq}{A:cg}{s:ah}{R:Pk->ah->Prop}{I:Addr}{fp wr:List Addr}{n:Nat}{P:Nat->Value->Prop}{St:Nat->Heap->Prop}
def uW (prog:bq)(w:cq)(I:Addr)(St:Nat->Heap->Prop):Prop:=∀(A:cg)(s:ah)(Q:Bool->ah->Prop)(E:Value->ah->Prop),St 0 s.heap->(∀ b tk,Q b { s with toks:=tk })->wpAny (model prog w) A (lh (.ref I)) Q E s
theorem PK {T:String}(W:Walks prog w A.in1 I fp wr n P St)(hn:n<=sizeLine)(hT:∀ h,St 0 h->∃ o,h.get? I=some o/\o.cls=.type T)(h2:(gv T==gv "list")=false)(h3:(gv T==gv "tuple")=false)(hint:uW prog w I St)
  (S:Addr)(res:Value)(c₀:Nat)(dA:St 0 s.heap)(hSf:S∉fp)(hI:I∈fp)(hS:s.heap.get? S=some { cls:=.type "list", data:=.seq #[] c₀ })
  (hR:∀ h' tk lZ c',(∀ b o,b∉S::wr->s.heap.get? b=some o->h'.get? b=some o)->h'.get? S=some { cls:=.type "list", dict:=none,data:=.seq lZ c',slots:=#[] }->zm P lZ n->R (.ok (.ret res)) { s with heap:=h',toks:=tk }):
  wpAny (model prog w) A.in1 (jf (.ref S) (.ref I) res)
   (fun fin s'=>match fin with|.done f=>R (.ok f) s'|.again c'=>c'.quiet=true/\ky (model prog w) A c' R s') (fun e s'=>R (.error e) s') s:=by
 have hSI:S≠I:=fun e=>hSf (e▸hI)
 have key:∀(h:Heap)(c₁ tk:Nat),St 0 h->(∀ b o,b≠S->s.heap.get? b=some o->h.get? b=some o)->h.get? S=some { cls:=.type "list", data:=.seq #[] c₁ } ->
   ky (model prog w) A (.builtin "list.extend.loop" ⟨[.ref S,.ref I,res],[]⟩) R { s with heap:=h,toks:=tk }:=by
  intro h c₁ tk hst₁ hk hS₁
  refine codeAny_extend_loopS W.toS hn S hSf res n 0 _ #[] c₁ rfl (dj _) hst₁ hS₁ (ItemsOf.nil _) fun s' lZ c' hm hS' hacc=>?_
  rw[Moved.eq_with hm]
  exact hR s'.heap s'.toks lZ c' (fun b o hb e=>hm.heap b o hb (hk b o (fun z=>hb (by rw[z];exact fb ..)) e)) hS' hacc
 unfold jf
 refine af (uj (T:=T) (hT _ dA) ?_)
 have h1:sj (.ref S) (.ref I)=false:=by simp [sj,hSI]
 simp only[h1,h2,h3,oj,ai,if_false]
 refine af (W.self 0 _ _ _ dA ?_)
 refine af (jj (hint _ _ _ _ dA fun b tk=>?_))
 have touch:∀{Q:Fin->ah->Prop}{E:Value->ah->Prop}{k:Unit->Sem Fin},(∀ h' , St 0 h'->(∀ b o,b≠S->s.heap.get? b=some o->h'.get? b=some o)->(∃ c₁,h'.get? S=some { cls:=.type "list", data:=.seq #[] c₁ })->wpAny (model prog w) A.in1 (k ()) Q E { s with heap:=h',toks:=tk }) ->
   wpAny (model prog w) A.in1 (rule "list.extend.makes-room" >>= fun _=>Builtin.List.listTouch (.ref S) >>= k) Q E { s with toks:=tk }:=fun{Q E k} hk=>by
  refine af (uv (af ?_))
  show wpAny _ A.in1 (Pc S (·.push .none) >>= fun _=>Pc S (·.pop)) _ _ _
  refine af (oy hS rfl ?_)
  have hS₂:=cj (jr (·.push fo)) hS rfl
  refine oy (hz:=by seq_fits) hS₂ rfl ?_
  have hS₃:=cj (jr (·.pop)) hS₂ rfl
  have oth:∀ b o,b≠S->s.heap.get? b=some o->((s.heap.update S (jr (·.push fo))).update S (jr (·.pop))).get? b=some o :=
   fun b o hb e=>(bg _ _ (gp hb)).trans ((bg _ _ (gp hb)).trans e)
  exact hk _ (W.frame _ _ _ dA fun b hb o e=>oth b o (fun h=>hSf (h▸hb)) e) oth ⟨_,hS₃⟩
 refine cy (fun _=>?_) (fun _=>aw ⟨plainId_quiet wx _,key _ c₀ _ dA (fun b o _ e=>e) hS⟩)
 refine touch fun h' a b ⟨c₁,c⟩=>aw ⟨plainId_quiet wx _,key _ c₁ _ a b c⟩
theorem HC {T:String}(W:Walks prog w A.in1 I fp wr n P St)(hn:n<=sizeLine)(hT:∀ h,St 0 h->∃ o,h.get? I=some o/\o.cls=.type T)(h2:(gv T==gv "list")=false)(h3:(gv T==gv "tuple")=false)(hint:uW prog w I St)
 (S:Addr)(dA:St 0 s.heap)(hSf:S∉fp)(hI:I∈fp)(hS:s.heap.get? S=some { cls:=.type "list", data:=.seq #[] })
 (hR:∀ h' tk lZ c',(∀ b o,b∉S::wr->s.heap.get? b=some o->h'.get? b=some o)->h'.get? S=some { cls:=.type "list", dict:=none,data:=.seq lZ c',slots:=#[] }->zm P lZ n->R (.ok (.ret .none)) { s with heap:=h',toks:=tk }):
 wpAny (model prog w) A.in1 (Builtin.«list.__init__» ⟨[.ref S,.ref I],[]⟩)
  (fun fin s'=>match fin with|.done f=>R (.ok f) s'|.again c'=>c'.quiet=true/\ky (model prog w) A c' R s') (fun e s'=>R (.error e) s') s:=by
 show wpAny _ A.in1 (do let old <-ux (.ref S);Builtin.List.listUpdate (.ref S) (fun _=>#[]);letGo old.toList.reverse;jf (.ref S) (.ref I) .none) _ _ s
 refine af ?_
 unfold ux
 refine af (wpAny_seqItems hS rfl (aw ?_))
 show wpAny _ A.in1 (Pc S (fun _=>#[]) >>= fun _=>letGo (#[]:Array Value).toList.reverse >>= fun _=>jf (.ref S) (.ref I) .none) _ _ s
 refine af (oy hS rfl ?_)
 have hS₂:=cj (jr (fun _=>(#[]:Array Value))) hS rfl
 have oth:∀ b o,b≠S->s.heap.get? b=some o->(s.heap.update S (jr (fun _=>(#[]:Array Value)))).get? b=some o :=
 fun b o hb e=>(bg _ _ (gp hb)).trans e
 refine af (wpAny_letGo ?_)
 refine PK W hn hT h2 h3 hint S .none _ (W.frame _ _ _ dA fun b hb o e=>oth b o (fun h=>hSf (h▸hb)) e) hSf hI hS₂ fun h' tk lZ c' hm hS' hacc=>?_
 exact hR h' tk lZ c' (fun b o hb e=>hm b o hb (oth b o (fun z=>hb (by rw[z];exact fb ..)) e)) hS' hacc
end
section
variable {prog:bq}{w:cq}{A:cg}{E:Value->ah->Prop}{s:ah}{I:Addr}{fp wr:List Addr}{n:Nat}{P:Nat->Value->Prop}{St:Nat->Heap->Prop}
theorem vI {T:String}{Q:Value->ah->Prop}(W:Walks prog w A.in1.in1 I fp wr n P St)(hn:n<=sizeLine)(hT:∀ h,St 0 h->∃ o,h.get? I=some o/\o.cls=.type T)(h2:(gv T==gv "list")=false)(h3:(gv T==gv "tuple")=false)(hint:uW prog w I St)
  (dA:St 0 s.heap)(hfp:∀ b∈fp,b<s.heap.objs.size)(hI:I∈fp)
  (hQ:∀ h' tk lZ c',(∀ b o,b∉wr->s.heap.get? b=some o->h'.get? b=some o)->h'.get? s.heap.objs.size=some { cls:=.type "list", dict:=none,data:=.seq lZ c',slots:=#[] }->zm P lZ n->Q (.ref s.heap.objs.size) { s with heap:=h',toks:=tk }):
  wpAny (model prog w) A (call (.type "list") [.ref I]) Q E s:=by
 have hSf:s.heap.objs.size∉fp:=fun hm=>jh _ (hfp _ hm)
 refine Ob (Q₁:=fun obj s₁=>obj=.ref s.heap.objs.size/\s₁ = { s with heap:=s.heap.push { cls:=.type "list", data:=.seq #[] } }) F.called_list (F.typeCall_list_1 _) F.entry_list_init
  (code_list_new _ ⟨rfl,rfl⟩) fun obj s₁ h₁=>?_
 obtain⟨rfl,rfl⟩:=h₁
 have hS:(s.heap.push { cls:=.type "list", data:=.seq #[] }).get? s.heap.objs.size=some { cls:=.type "list", data:=.seq #[] }:=bp _ rfl
 refine⟨⟨_,hS,rfl⟩,F.args_list_init_2 _ _,HC (A:=A.in1) W hn hT h2 h3 hint _ (W.frame _ _ _ dA fun b _ o e=>au _ e) hSf hI hS fun h' tk lZ c' hk hS' hacc=>?_⟩
 refine⟨rfl,hQ h' tk lZ c' (fun b o hb e=>hk b o (fun z=>?_) (au _ e)) hS' hacc⟩
 rcases List.mem_cons.mp z with z|z
 ·exact absurd (a9 e) (by rw[z];exact jh _)
 ·exact hb z
end
end PySem
end
section
namespace PySem
namespace F
theorem L4:qi (.type "list_reverseiterator") "__len__" = pure none:=by rw[g8,dz];kernel_rfl
theorem RD:qi (.type "list_reverseiterator") "__length_hint__" = pure (some (.builtin "list_reverseiterator.__length_hint__")):=by rw[g8,dz];kernel_rfl
end F
section
variable {prog:bq}{w:cq}
theorem RS {I l:Addr}{items:Array Value}:uW prog w I (fun i h=>i<=items.size/\h.IsRevIter I l ((items.size:Int)-1-(i:Int))/\h.IsList l items):=fun A s Q E dA hQ=>by
 have hT:=dA.2.1.typeIs
 unfold lh
 refine af (j0 hT F.L4 ?_)
 refine cy (fun dG=>absurd dG (by decide)) (fun _=>?_)
 refine cy (fun dG=>absurd dG (by decide)) (fun _=>?_)
 refine af (j0 hT F.RD ?_)
 generalize hid:("list_reverseiterator.__length_hint__" : String)=id0
 wp_delta
 rw[show Qu id0=some ("list_reverseiterator","__length_hint__")from by subst hid;decide +kernel]
 subst hid
 refine af (n9 (T :="list_reverseiterator") (b:=true) hT (by rw[ju];kernel_rfl) ?_)
 refine cy (fun dG=>absurd dG (by decide)) (fun _=>?_)
 refine cy (fun _=>?_) (fun dG=>absurd (by decide +kernel) dG)
 refine cy (fun dG=>absurd dG (by decide +kernel)) (fun _=>?_)
 exact aw (hQ false s.toks)
end
end PySem
end
section
namespace PySem
open PyProof.Rows
namespace F
theorem MX:qi (.type "tuple") "__reversed__" = pure none:=by rw[g8,dz];kernel_rfl
theorem E9:qi (.type "tuple") "__getitem__" = pure (some (.builtin "tuple.__getitem__")):=by rw[g8,dz];kernel_rfl
theorem MB:qi (.type "reversed") "__len__" = pure none:=by rw[g8,dz];kernel_rfl
theorem vC:Manifest.owners.lookup (String.ofList ['d','e','s','r','e','v','e','r'].reverse)=some Manifest.sig_reversed:=by kernel_rfl
theorem jJ:Slot "reversed" "__next__" "reversed.__next__" :=
 .of (owner :="reversed") (n :="__next__") (by rw[g8,dz];kernel_rfl) (by decide +kernel) (by decide +kernel) (by decide +kernel)
 (by first|exact .inl (by decide +kernel)|exact .inr (by decide +kernel)) (by rw[ju];kernel_rfl)
theorem nR:Slot "reversed" "__length_hint__" "reversed.__length_hint__" :=
 .of (owner :="reversed") (n :="__length_hint__") (by rw[g8,dz];kernel_rfl) (by decide +kernel) (by decide +kernel) (by decide +kernel)
 (by first|exact .inl (by decide +kernel)|exact .inr (by decide +kernel)) (by rw[ju];kernel_rfl)
theorem tZ:Slot "reversed" "__iter__" "reversed.__iter__" :=
 .of (owner :="reversed") (n :="__iter__") (by rw[g8,dz];kernel_rfl) (by decide +kernel) (by decide +kernel) (by decide +kernel)
 (by first|exact .inl (by decide +kernel)|exact .inr (by decide +kernel)) (by rw[ju];kernel_rfl)
theorem rT:Qd table "reversed.__next__" = some Builtin.«reversed.__next__»:=yv (by kernel_rfl)
theorem BX:Qd table "reversed.__length_hint__" = some Builtin.«reversed.__length_hint__»:=yv (by kernel_rfl)
theorem pX (a:Value):Oc "reversed.__next__" ⟨[a],[]⟩:=by
 unfold Oc;rw[xa (id :="reversed.__next__") (n:=['_','_','t','x','e','n','_','_']) (o:=['d','e','s','r','e','v','e','r']) (by kernel_rfl) vC];kernel_rfl
theorem AK (a:Value):Oc "reversed.__length_hint__" ⟨[a],[]⟩:=by
 unfold Oc;rw[xa (id :="reversed.__length_hint__") (n :="__length_hint__".toList.reverse) (o:=['d','e','s','r','e','v','e','r']) (by kernel_rfl) vC];kernel_rfl
theorem BL (a:Value):Oc "reversed.__iter__" ⟨[a],[]⟩:=by
 unfold Oc;rw[xa (id :="reversed.__iter__") (n:=['_','_','r','e','t','i','_','_']) (o:=['d','e','s','r','e','v','e','r']) (by kernel_rfl) vC];kernel_rfl
theorem CG:Qd table "reversed.__iter__" = some Builtin.«dict_keyiterator.__iter__» :=
 entryFor_alias (id' :="dict_keyiterator.__iter__") (by kernel_rfl) (by first|rfl|decide +kernel|(unfold String.splitOn;simp +decide [String.splitOnAux])) (by decide +kernel) (by kernel_rfl)
end F
end PySem
end
section
namespace PySem
open PyProof.Rows
section
variable {prog:bq}{w:cq}{A:cg}{E:Value->ah->Prop}{s:ah}
noncomputable def K9 (t:Addr)(i:Int):Obj:={ cls:=.type "reversed", data:=.fields #[.ref t,lu i] }
def Heap.jV (h:Heap)(a t:Addr)(i:Int):Prop:=∃ o,h.get? a=some o/\o.cls=.type "reversed" /\ o.data=.fields #[.ref t,lu i]
theorem Heap.jV.typeIs {a t:Addr}{i:Int}(x:s.heap.jV a t i):s.TypeIs (.ref a) "reversed":=let⟨o,ho,hc,_⟩:=x;⟨o,ho,hc⟩
theorem Heap.jV.at {h h':Heap}{a t:Addr}{i:Int}(x:h.jV a t i)(e:∀ o,h.get? a=some o->h'.get? a=some o):h'.jV a t i:=let⟨o,ho,r⟩:=x;⟨o,e _ ho,r⟩
theorem vF {t:Addr}{items:Array Value}{Q₁:Value->ah->Prop}(ht:IsTup s.heap t items)(lY:(items.size:Int)<2 ^ 63)
 (h:Q₁ (.ref s.heap.objs.size) { s with heap:=s.heap.push (K9 t ((items.size:Int)-1)),toks:=s.toks+1+1 }):
 ky (model prog w) A (.call (.builtin "reversed.__new__") ⟨[.type "reversed", .ref t],[]⟩) (wants Q₁ E) s:=by
 refine zi ?_
 show wpAny _ A.in1 (do t5 "reversed.__new__" ⟨[.type "reversed", .ref t],[]⟩;again (.builtin "reversed.__new__" ⟨[.type "reversed", .ref t],[]⟩)) _ _ s
 refine af (kh (F.newCall_reversed_1 _) (aw ⟨plainId_quiet vw _,oz F.entry_reversed_new ?_⟩))
 rw[ou vw _]
 unfold Builtin.«reversed.__new__»
 refine af (kh (newClass_reversed _) ?_)
 try dsimp only
 refine af (kh (a:=()) (by first|rfl|kernel_rfl) ?_)
 refine af (kh (a:=()) (by first|rfl|kernel_rfl) ?_)
 try dsimp only
 refine af (j0 ht.typeIs F.MX ?_)
 try dsimp only
 refine af ?_
 wp_delta
 refine af (n9 (T :="tuple") (b:=false) ht.typeIs (by rw[ju];kernel_rfl) ?_)
 refine cy (fun dG=>absurd dG (by decide)) (fun _=>?_)
 refine af (j0 ht.typeIs F.E9 ?_)
 refine cy (fun _=>?_) (fun dG=>absurd (by decide +kernel) dG)
 refine aw ?_
 refine cy (fun dG=>absurd dG (by decide)) (fun _=>?_)
 refine af (Oy ht lY ?_)
 refine af (m:=asInt? _) (aw ?_)
 refine af (m:=Builtin.SmallTypes.newRecord (.type "reversed") [ku t,lu ((items.size:Int)-1)]) ?_
 show wpAny _ _ (newObj (.type "reversed") (.fields #[ku t,lu ((items.size:Int)-1)])) _ _ _
 exact fu (aw h)
theorem xQ {it t:Addr}{i:Int}{Q:Value->ah->Prop}(hit:s.heap.jV it t i)(h:Q (.ref it) s):wpAny (model prog w) A (vn (.ref it)) Q E s:=by
 refine wpAny_pyIter_slot hit.typeIs F.tZ (ig F.tZ hit.typeIs F.CG ?_ (F.BL _))
 show wpAny _ _ (ret (.ref it)) _ _ s
 exact aw ⟨_,rfl,"reversed", _,hit.typeIs,F.jJ.lookup,h⟩
theorem qF {it t:Addr}{i:Nat}{items:Array Value}{x:Value}{Q:Option Value->ah->Prop}(hit:s.heap.jV it t (i:Int))(ht:IsTup s.heap t items)(lY:(items.size:Int)<2 ^ 63)(hx:items[i]? = some x)
  (hQ:∀ h',h'.jV it t ((i:Int)-1)->j2 it s.heap h'->Q (some x) { s with heap:=h',toks:=s.toks+1 }):wpAny (model prog w) A (r6 (.ref it)) Q E s:=by
 obtain⟨o,ho,hc,hd⟩:=id hit
 have hi:i<items.size:=by
  rcases Nat.lt_or_ge i items.size with z|z
  ·exact z
  ·rw[Array.getElem?_eq_none z]at hx;cases hx
 unfold r6
 refine af (sk (iq (name:=j3 "__next__") hit.typeIs F.jJ
  (ig F.jJ hit.typeIs F.rT ?_ (F.pX _))))
 unfold Builtin.«reversed.__next__»
 refine af (kh (a:=(ku it,[])) rfl ?_)
 try dsimp only
 refine af (dw ho hd (x:=.ref t) rfl ?_)
 refine af (dw ho hd (x:=lu (i:Int)) rfl ?_)
 show wpAny _ _ (if(i:Int)<0 then _ else _) _ _ s
 rw[if_neg (by omega)]
 refine af (j0 ht.typeIs F.E9 ?_)
 refine cy (fun dG=>absurd dG (by decide)) (fun _=>?_)
 refine af (wpAny_mkInt ?_)
 refine af (sk (PyProof.Rows.getItem_tuple (j:=i) ht (by omega) (by omega) (vo (by omega) (by omega)) hx ?_))
 refine af (dw ho hd (x:=lu (i:Int)) rfl ?_)
 refine af (jw ho hd (by simp) ?_)
 first
 |refine aw ⟨x,rfl,aw (hQ _ ?_ (wz ..))⟩
 |refine af (aw (aw ⟨x,rfl,aw (hQ _ ?_ (wz ..))⟩))
 exact⟨_,cj _ ho (d5 (cf hd _)),(yi ..).trans hc,by
  rw[cf hd];simp⟩
end
end PySem
end
section
namespace PySem
open PyProof.Rows
section
variable {prog:bq}{w:cq}{A:cg}{E:Value->ah->Prop}{s:ah}
theorem rX {it t:Addr}{Q:Option Value->ah->Prop}(hh:A.handled=none)(hit:s.heap.jV it t (-1))
 (hQ:∀ h',Qg it s.heap h'->Q none { s with heap:=h' }):wpAny (model prog w) A (r6 (.ref it)) Q E s:=by
 obtain⟨o,ho,hc,hd⟩:=id hit
 unfold r6
 refine af (sk (iq (name:=j3 "__next__") hit.typeIs F.jJ
 (ig F.jJ hit.typeIs F.rT ?_ (F.pX _))))
 unfold Builtin.«reversed.__next__»
 refine af (kh (a:=(ku it,[])) rfl ?_)
 try dsimp only
 refine af (dw ho hd (x:=.ref t) rfl ?_)
 refine af (dw ho hd (x:=lu (-1)) rfl ?_)
 show wpAny _ _ (if(-1:Int)<0 then _ else _) _ _ s
 rw[if_pos (by decide)]
 refine af (uv ?_)
 refine af ?_
 wp_delta
 have ho2:=cj (gm (·.setIfInBounds 1 (lu (-1)))) ho (d5 (cf hd _))
 refine af (jw ho hd (by simp) ?_)
 refine jw ho2 (cf hd _) (by simp) ?_
 first
 |show wpAny _ _ (Qn (.type "StopIteration") [] >>= _) _ _ _
 |(refine af ?_;show wpAny _ _ (Qn (.type "StopIteration") [] >>= _) _ _ _)
 refine af ?_
 simp only[Qn,newTuple]
 refine af (fu ?_ (by size_fits))
 refine af (m:=Od _ _) (kh (a:=fo) (by first|rfl|(simp only[Od];rfl)) ?_)
 refine fu ?_ (by size_fits)
 simp only[raiseNew]
 refine af (wpAny_handled ?_)
 first|rw[show A.in1.handled=none from hh]|rw[hh]
 refine af (aw (wpAny_throw ?_))
 refine af (n9 (T :="StopIteration") (b:=true) ⟨_,bp _ rfl,rfl⟩ isSubtype_stop ?_)
 refine aw (hQ _ ?_)
 have e1:Qg it s.heap ((s.heap.update it (gm (·.setIfInBounds 1 (lu (-1))))).update it (gm (·.setIfInBounds 0 fo))):=fun b u hb e =>
 (bg _ _ (gp hb)).trans ((bg _ _ (gp hb)).trans e)
 exact(e1.push _).push _
end
theorem Walks.ZE {prog:bq}{w:cq}{A:cg}(hh:A.handled=none)(I l:Addr)(hne:l≠I)(items:Array Value)(lY:(items.size:Int)<2 ^ 63):
  Walks prog w A I [I,l] [I] items.size (fun i v=>items[items.size-1-i]? = some v) (fun i h=>i<=items.size/\h.jV I l ((items.size:Int)-1-(i:Int))/\IsTup h l items) where
 sub:=fun b hb=>by simp at hb;simp [hb]
 frame:=fun _ _ _ x hk=>⟨x.1,x.2.1.at fun o e=>hk I (by simp) o e,let⟨o,ho,r⟩:=x.2.2;⟨o,hk l (by simp) o ho,r⟩⟩
 item:=fun i s Q E hi x hQ=>by
  have e:(items.size:Int)-1-(i:Int)=((items.size-1-i:Nat):Int):=by omega
  have hit:=x.2.1
  rw[e]at hit
  have hx:items[items.size-1-i]? = some (items[items.size-1-i]'(by omega)):=qz (by omega)
  refine qF hit x.2.2 lY hx fun h' hit' iO=>?_
  have e2:((items.size-1-i:Nat):Int)-1=(items.size:Int)-1-((i+1:Nat):Int):=by omega
  rw[e2]at hit'
  exact hQ _ h' _ hx ⟨hi,hit',let⟨o,ho,r⟩:=x.2.2;⟨o,(iO.2 l hne).trans ho,r⟩⟩ fun b o hb eo=>iO.extBut b o (fun h=>hb (by simp [h])) eo
 done:=fun s Q E x hQ=>by
  have e:(items.size:Int)-1-(items.size:Int) = -1:=by omega
  have hit:=x.2.1
  rw[e]at hit
  exact rX hh hit fun h' he'=>hQ h' s.toks fun b o hb eo=>he' b o (fun h=>hb (by simp [h])) eo
 self:=fun _ _ _ _ x hQ=>xQ x.2.1 hQ
section
variable {prog:bq}{w:cq}{A:cg}{E:Value->ah->Prop}{s:ah}
theorem F.wG:Slot "reversed" "__init__" "object.__init__" :=
 .of (owner :="object") (n :="__init__") (by rw[g8,dz];kernel_rfl) (by decide +kernel) (by decide +kernel) (by decide +kernel)
 (by first|exact .inl (by decide +kernel)|exact .inr (by decide +kernel)) (by rw[ju];kernel_rfl)
theorem F.lJ:TypeCalled "reversed" "reversed.__new__" "object.__init__" :=
 ⟨by decide +kernel,by decide +kernel,⟨_,_,F.mro_reversed⟩,F.made_reversed,by decide +kernel,by rw[ju];kernel_rfl,F.wG⟩
theorem xP {t:Addr}{items:Array Value}{Q:Value->ah->Prop}(ht:IsTup s.heap t items)(lY:(items.size:Int)<2 ^ 63)
  (h:Q (.ref s.heap.objs.size) { s with heap:=s.heap.push (K9 t ((items.size:Int)-1)),toks:=s.toks+1+1 }):wpAny (model prog w) A (call (.type "reversed") [.ref t]) Q E s:=by
 refine Ob (Q₁:=fun obj s₁=>s₁.TypeIs obj "reversed" /\ Q obj s₁) F.lJ (F.typeCall_reversed_1 _) F.entry_object_init
  (vF ht lY ⟨⟨_,bp _ rfl,rfl⟩,h⟩) fun obj s₁ hq=>⟨hq.1,F.args_object_init_2 obj _,?_⟩
 exact object_init_meets F.lJ.init.lookup F.lJ.made (by decide) prog w A.in1 _ s₁ ⟨hq.1,rfl,hq.2⟩
theorem RZ {I l:Addr}{items:Array Value}(lY:items.size<=sizeLine):uW prog w I (fun i h=>i<=items.size/\h.jV I l ((items.size:Int)-1-(i:Int))/\IsTup h l items):=fun A s Q E dA hQ=>by
 have hit:=dA.2.1
 have hT:=hit.typeIs
 obtain⟨o,ho,hc,hd⟩:=id hit
 have hf:(items.size:Int)<2 ^ 63:=by have:=lY;rw[gx]at this;omega
 unfold lh
 refine af (j0 hT F.MB ?_)
 refine cy (fun dG=>absurd dG (by decide)) (fun _=>?_)
 refine cy (fun dG=>absurd dG (by decide)) (fun _=>?_)
 refine af (j0 hT F.nR.lookup ?_)
 generalize hid:("reversed.__length_hint__" : String)=id0
 wp_delta
 rw[show Qu id0=some ("reversed","__length_hint__")from by subst hid;decide +kernel]
 subst hid
 refine af (n9 (T :="reversed") (b:=true) hT (by rw[ju];kernel_rfl) ?_)
 refine cy (fun dG=>absurd dG (by decide)) (fun _=>?_)
 refine cy (fun dG=>absurd dG (by decide +kernel)) (fun _=>?_)
 refine af (uv ?_)
 refine af (kh (F.nR.bind _) ?_)
 refine af (sk (ig F.nR hT F.BX ?_ (F.AK _)))
 unfold Builtin.«reversed.__length_hint__»
 refine af (kh (a:=ku I) rfl ?_)
 refine af (dw ho hd (x:=.ref l) rfl ?_)
 refine cy (fun dG=>absurd dG (by simp)) (fun _=>?_)
 refine af (Oy dA.2.2 hf ?_)
 refine af (m:=asInt? _) (aw ?_)
 refine af (m:=field (.ref I) 1) (dw ho hd (x:=lu ((items.size:Int)-1-((0:Nat):Int))) rfl ?_)
 show wpAny _ _ (if(items.size:Int)<((items.size:Int)-1-((0:Nat):Int))+1 then _ else _) _ _ _
 rw[if_neg (by omega)]
 refine af (wpAny_mkInt (aw ⟨_,rfl,?_⟩))
 refine af (m:=asInt? _) (aw ?_)
 dsimp only
 have e0:(items.size:Int)-1-((0:Nat):Int)+1=items.size:=by omega
 rw[e0]
 have hfi:Builtin.List.listFitsIndex (items.size:Int)=true:=zt (by omega) hf
 have htl:dy ((items.size:Int).toNat)=false:=by simp [dy];exact lY
 rw[hfi,htl]
 refine cy (fun dG=>absurd dG (by decide)) (fun _=>?_)
 refine cy (fun dG=>absurd dG (by omega)) (fun _=>?_)
 refine cy (fun dG=>absurd dG (by decide)) (fun _=>aw (hQ _ _))
end
end PySem
end
section
namespace L3
open PySem PySem.Spec PyProof.Rows L2
theorem SA {X:Cx}{pz:List (Addr×Obj)}{σ:L2.St}{H:Hp}{s:ah}{h':Heap}{t':Nat}{it:Addr}{ys:List V}{aD:List Value}{n:Nat}(I:Inv X pz σ H s)(f:jW X pz H it)(k:∀ b o,b≠it->s.heap.get? b=some o->h'.get? b=some o)
  (new:h'.get? s.heap.objs.size=some { cls:=.type "list", data:=.seq aD.toArray n })(hv:aR ys aD)(hz:ys.length<=sizeLine):Inv X pz σ (upd H s.heap.objs.size (.lst ys)) { s with heap:=h',toks:=t' }:=by
 have hS:=I.fresh
 have neS:∀ b o,s.heap.get? b=some o->b≠s.heap.objs.size:=fun b o e=>bj (a9 e)
 have tr:∀ b u,H b=some u->b≠s.heap.objs.size:=fun b u e=>cJ e hS
 obtain⟨f0,f1,f2,f3,f4,f5⟩:=f
 refine I.step (g':=s.gens) (d':=s.drawn) (ch:=[it]) (fun b hb=>?_) (fun b o _ _ hc e _=>k b o (fun z=>hc (by simp [z])) e) (fun b o _ _ hc e _=>⟨o.slots,k b o (fun z=>hc (by simp [z])) e⟩) (fun b o _ e n=>by rw[aZ (neS b o e)];exact n)
  (fun b o hc e=>⟨o,k b o (fun z=>hc (by simp [z])) e⟩) (fun b xs e=>by rw[aZ (tr b _ e)];exact e) (fun b o u e=>by rw[aZ (tr b _ e)];exact e) (fun b ps e=>⟨#[],by rw[aZ (tr b _ e),e];simp⟩) (fun m hm=>?_) (fun b u e=>?_) I.bare
 ·have e:b=it:=by simpa using hb
  subst e
  exact⟨f3,f1,f4,f5⟩
 ·obtain⟨o,es,ep,ho,r⟩:=hm
  exact⟨o,es,ep,k _ o (gp f1) ho,r⟩
 ·by_cases hb:b=s.heap.objs.size
  ·subst hb
   rw[dH]at e;cases e
   exact⟨hz,aD,n,hv,new⟩
  ·rw[aZ hb]at e
   refine(I.bJ b u e).nX (fun c v hc q=>k c v ?_ q) (fun c q=>by rw[aZ (tr c _ q)];exact q) fun c xs q=>by rw[aZ (tr c _ q)];exact q
   rcases hc with z|z
   ·rw[z];exact fun y=>by rw[y,f0]at e;cases e
   ·exact fun y=>by rw[y,f0]at z;cases z
theorem N4 {aD:List Value}{acc:Array Value}(h:zm (fun i v=>aD.toArray[aD.toArray.size-1-i]? = some v) acc aD.toArray.size):acc=aD.reverse.toArray:=by
 obtain⟨h1,h2⟩:=h
 apply Array.ext
 ·rw[h1];simp
 ·intro i hi hi'
  have:aD.toArray[aD.toArray.size-1-i]? = some acc[i]:=h2 i acc[i] (qz hi)
  have hl:i<aD.length:=by rw[h1]at hi;simpa using hi
  have e:aD.toArray[aD.toArray.size-1-i]? = some (aD.reverse.toArray[i]):=by
   simp
  rw[e]at this
  exact(fh this).symm
theorem aR.reverse:∀{vs:List V}{us:List Value},aR vs us->aR vs.reverse us.reverse
 |_,_,.nil=>.nil
 |_,_,.cons h t=>by simp only[kz];exact(aR.reverse t).append (.cons h .nil)
section
variable {X:Cx}{C:aS}{sub:Nat->Nat->Bool}{E:XK}{a b c e o tg:b7}{es:List b7}{x y z:Ex}{xs:List Ex}{p p2 pos pos2:Pos}{kk:IK}
theorem Gh (hm:X.mg "list" = none)(hm2:X.mg "reversed" = none)(hc:X.calm=true)(ha:PA X [a] (jP X.K (bC C sub E [x])))(hg:X.env.kindOf "list" = some .globalImplicit:=by kernel_rfl)(hg2:X.env.kindOf "reversed" = some .globalImplicit:=by kernel_rfl)
  (he:ar [.Call (.Name "reversed" p2) [a] [] pos2] X.env=(false,eval (.Call (.Name "reversed" p2) [a] [] pos2) X.env)::ar [] X.env:=by kernel_rfl)(fH:(dq pos (ar [] X.env)).any (·.1)=false:=by kernel_rfl)
  (he2:ar [a] X.env=(false,eval a X.env)::ar [] X.env:=by kernel_rfl)(hpl2:(dq pos2 (ar [] X.env)).any (·.1)=false:=by kernel_rfl):
  PE X (.Call (.Name "list" p) [.Call (.Name "reversed" p2) [a] [] pos2] [] pos) (bT X.K (aF C sub E (.bit .list .rev [x]))):=by
 intro pz s σ H Q I ⟨σd,st,R,r,ok,q,hq⟩
 refine gw (nC I hg hm CA ?_ (by decide) (by decide))
 refine gV ?_ he fH
 rw[he]
 show wpAny _ _ (zk ((false,eval (.Call (.Name "reversed" p2) [a] [] pos2) X.env)::dq pos (ar [] X.env))) _ _ s
 refine qg ?_
 refine gw (nC I hg2 hm2 IY ?_ (by decide) (by decide))
 refine gV (bA (ha pos2 pz s σ H _ I ⟨σd,st,_,r,ok,q,fun vs H' z=>z⟩) fun us s1 ⟨vs,H1,I1,rv,ds,aC,cT,aU,rs,q1⟩=>?_) he2 hpl2
 match ds,rs,q1 with
 |[d],rs,q1 =>
  obtain⟨v,rfl,rd⟩:=rs.one
  obtain⟨u,rfl,ru⟩:=vals1 rv
  have q1:fB d aC fun as xs=>fX xs.reverse aC R:=q1
  obtain⟨l,ws,as,ys,rfl,sa,g,q1⟩:=nL aU rd q1
  cases ru
  have hh:X.A.handled=none:=I1.ok.hd hc
  have nil:∀{Q':List Value->ah->Prop}{s':ah},Q' [] s'->wpAny (model X.prog X.w) X.A (zk (dq pos (ar [] X.env))) Q' X.xe s':=fun h=>rh h
  have fin:∀(aD:List Value)(s2:ah)(h':Heap)(tk:Nat)(acc:Array Value)(cc:Nat),aR ws aD->ws.length<=sizeLine->Inv X pz σ H1 s2->jW X pz H1 s1.heap.objs.size->(∀ b o,b∉[s1.heap.objs.size]->s2.heap.get? b=some o->h'.get? b=some o) ->
    h'.get? s2.heap.objs.size=some { cls:=.type "list", dict:=none,data:=.seq acc cc,slots:=#[] }->zm (fun i v=>aD.toArray[aD.toArray.size-1-i]? = some v) acc aD.toArray.size->EP X pz σ Q (.ref s2.heap.objs.size) { s2 with heap:=h',toks:=tk }:=by
   intro aD s2 h' tk acc cc hv hz I2 f2 k2 hS hacc
   have ea:=N4 hacc
   subst ea
   refine⟨.ref s2.heap.objs.size,_,SA I2 f2 (fun b o hb e=>k2 b o (by simpa using hb) e) hS (aR.reverse hv) (by simpa using hz),rfl,hq _ _ (.after cT ?_)⟩
   exact .fX aU g.reverse I2.fresh q1.2
  rcases sa with sa|sa
  ·obtain⟨aD,r1,pl,hz⟩:=I1.list sa
   have hl:=pl.isList
   have mI:l<s1.heap.objs.size:=by obtain⟨_,e,_⟩:=hl;exact a9 e
   have hzz:aD.toArray.size<=sizeLine:=by simp;rw[<-r1.length];exact hz
   refine call_reversed_list hl (nil ?_)
   have I2:Inv X pz σ H1 { s1 with heap:=s1.heap.push (revObj l ((aD.toArray.size:Int)-1)) }:=I1.kept (t':=s1.toks) fun b o e=>au _ e
   have W:=fun A hA=>Walks.listRev (prog:=X.prog) (w:=X.w) (A:=A) hA s1.heap.objs.size l (bj mI) aD.toArray
   refine vI (W _ hh) hzz (fun h st=>let⟨o,ho,hcl,_⟩:=st.2.1;⟨o,ho,hcl⟩) (by decide) (by decide) RS ⟨Nat.zero_le _,⟨_,bp _ rfl,rfl,by simp [revObj]⟩,hl.push _⟩ (fun b hb=>?_) (by simp) fun h' tk acc cc k hS hacc=>?_
   ·show b<(s1.heap.push _).objs.size
    rw[ke]
    rcases List.mem_cons.mp hb with rfl|hb
    ·exact ij _
    ·rcases List.mem_cons.mp hb with rfl|hb
     ·exact j5 mI
     ·cases hb
   ·exact fin aD _ h' tk acc cc r1 hz I2 (I1.L8 (bb _) I1.fresh) k hS hacc
  ·obtain⟨aD,r1,pl,hz⟩:=I1.tuple sa
   have mI:l<s1.heap.objs.size:=by obtain⟨_,e,_⟩:=pl;exact a9 e
   have hzz:aD.toArray.size<=sizeLine:=by simp;rw[<-r1.length];exact hz
   have lY:(aD.toArray.size:Int)<2 ^ 63:=by have:=hzz;rw[gx]at this;omega
   refine xP pl lY (nil ?_)
   have I2:Inv X pz σ H1 { s1 with heap:=s1.heap.push (K9 l ((aD.toArray.size:Int)-1)),toks:=s1.toks+1+1 }:=I1.kept (t':=s1.toks+1+1) fun b o e=>au _ e
   have W:=fun A hA=>Walks.ZE (prog:=X.prog) (w:=X.w) (A:=A) hA s1.heap.objs.size l (bj mI) aD.toArray lY
   refine vI (W _ hh) hzz (fun h st=>let⟨o,ho,hcl,_⟩:=st.2.1;⟨o,ho,hcl⟩) (by decide) (by decide) (RZ hzz) ⟨Nat.zero_le _,⟨_,bp _ rfl,rfl,by simp [K9]⟩,let⟨o,ho,r⟩:=pl;⟨o,au _ ho,r⟩⟩ (fun b hb=>?_) (by simp) fun h' tk acc cc k hS hacc=>?_
   ·show b<(s1.heap.push _).objs.size
    rw[ke]
    rcases List.mem_cons.mp hb with rfl|hb
    ·exact ij _
    ·rcases List.mem_cons.mp hb with rfl|hb
     ·exact j5 mI
     ·cases hb
   ·exact fin aD _ h' tk acc cc r1 hz I2 (I1.L8 (bb _) I1.fresh) k hS hacc
theorem Jq (hm:X.mg "list" = none)(hm2:X.mg "reversed" = none)(ha:JA X C sub E [a] [x])(hc:X.calm=true:=by kernel_rfl)(hg:X.env.kindOf "list" = some .globalImplicit:=by kernel_rfl)(hg2:X.env.kindOf "reversed" = some .globalImplicit:=by kernel_rfl)
 (he:ar [.Call (.Name "reversed" p2) [a] [] pos2] X.env=(false,eval (.Call (.Name "reversed" p2) [a] [] pos2) X.env)::ar [] X.env:=by kernel_rfl)(fH:(dq pos (ar [] X.env)).any (·.1)=false:=by kernel_rfl)
 (he2:ar [a] X.env=(false,eval a X.env)::ar [] X.env:=by kernel_rfl)(hpl2:(dq pos2 (ar [] X.env)).any (·.1)=false:=by kernel_rfl):
 JE X C sub E (.Call (.Name "list" p) [.Call (.Name "reversed" p2) [a] [] pos2] [] pos) (.bit .list .rev [x]):=⟨Gh hm hm2 hc ha.h hg hg2 he fH he2 hpl2⟩
end
theorem Ao {K:ae}{h:Heap}{mg:Str->Option Value}(X:K.In h)(G:h.Ns br mg){n:Str}{i:Int}{t:Tok}(a:fv K br n=some (some (.int i t))):GC K mg n (.int i):=⟨_,.int i,j8 X G a,⟨t,rfl⟩,fun _=>.int i⟩
theorem OI {K:ae}{h:Heap}{mg:Str->Option Value}(X:K.In h)(G:h.Ns br mg){n:Str}{x:Str}{w:List Nat}{t:Tok}(a:fv K br n=some (some (.str x t)))(e:x=⟨w.toArray⟩):GC K mg n (.str w):=⟨_,.str x,j8 X G a,⟨t,rfl⟩,fun _=>by rw[e];exact .str w⟩
noncomputable def K0:D->Value->Bool
 |.non,.none=>true
 |.bl b,.bool c=>b==c
 |.int i,.int j _=>i==j
 |.str w,.str x _=>w==x.cps.toList
 |_,_=>false
noncomputable def ES:List D->List Value->Bool
 |[],[]=>true
 |d::ds,u::us=>K0 d u&&ES ds us
 |_,_=>false
noncomputable def UD:D->V
 |.bl b=>.bl b
 |.int i=>.int i
 |.str w=>.str ⟨w.toArray⟩
 |_=>.non
set_option tactic.hygienic true in
theorem R8 {K:ae}{H:Hp}{d:D}{u:Value}(h:K0 d u=true):L2.RelV (UD d) u/\Rep K H d (UD d):=by
 unfold K0 at h
 split at h
 ·exact⟨rfl,.non⟩
 ·exact⟨by rw[eq_of_beq h];rfl,.bl _⟩
 ·exact⟨⟨_,by rw[eq_of_beq h]⟩,.int _⟩
 ·rename_i w x t
  exact⟨⟨t,by rw[eq_of_beq h]⟩,.str w⟩
 ·cases h
theorem IM {K:ae}{H:Hp}:∀{ds:List D}{us:List Value},ES ds us=true->aR (ds.map UD) us/\aJ K H ds (ds.map UD)
 |[],[],_=>⟨.nil,.nil⟩
 |d::ds,u::us,h=>by
  simp only[ES,ay]at h
  have r:=R8 (K:=K) (H:=H) h.1
  have s:=IM (K:=K) (H:=H) h.2
  exact⟨.cons r.1 s.1,.cons r.2 s.2⟩
 |[],_::_,h=>by cases h
 |_::_,[],h=>by cases h
theorem NP {K:ae}{h:Heap}{mg:Str->Option Value}(X:K.In h)(G:h.Ns br mg){n:Str}{ds:List D}{p:Addr}{aD:Array Value}{k:Nat}{sl:Array (Option Value)}(a:fv K br n=some (some (.ref p)))
 (l:K.lookup p=some ⟨.type "tuple", none,.seq aD k,sl⟩)(f:ES ds aD.toList=true)(z:Nat.ble aD.size 1000=true):GC K mg n (.tup ds):=by
 refine⟨_,.ref p,j8 X G a,rfl,fun H=>?_⟩
 have s:=IM (K:=K) (H:=H) f
 exact .tup (.inr ⟨_,aD,k,l,rfl,rfl,rfl,uf (NQ (Nat.le_of_ble_eq_true z)),s.1⟩) s.2
noncomputable def Bb:D->zv
 |.bl b=>.bool b
 |.int i=>.int i
 |.str w=>.str ⟨w.toArray⟩
 |_=>.none
noncomputable def Jl:D->Bool
 |.non=>true
 |.bl _=>true
 |.int _=>true
 |.str _=>true
 |_=>false
noncomputable def sT:List D->List D->List (Str×PyData)
 |.str w::ks,v::vs=>(⟨w.toArray⟩,Bb v)::sT ks vs
 |_,_=>[]
noncomputable def TN:List D->List D->Bool
 |[],[]=>true
 |.str _::ks,v::vs=>Jl v&&TN ks vs
 |_,_=>false
theorem YR {v:D}(h:Jl v=true):pV (Bb v)=v/\mT (Bb v)=true:=by
 cases v<;>first|exact⟨rfl,rfl⟩|cases h
theorem O5:∀{ks vs:List D},TN ks vs=true->((sT ks vs).all fun p=>mT p.2)=true/\ks=(sT ks vs).map (fun p=>.str p.1.cps.toList)/\vs=(sT ks vs).map (fun p=>pV p.2)
 |[],[],_=>⟨rfl,rfl,rfl⟩
 |.str w::ks,v::vs,h=>by
  simp only[TN,ay]at h
  obtain⟨a,b,c⟩:=O5 h.2
  obtain⟨d,e⟩:=YR h.1
  refine⟨?_,?_,?_⟩
  ·simp only[sT,ik,e,a,dm]
  ·simp only[sT,az];rw[<-b]
  ·simp only[sT,az,d];rw[<-c]
 |[],_::_,h=>by cases h
 |.str _::_,[],h=>by cases h
 |.non::_,_,h=>by cases h
 |.bl _::_,_,h=>by cases h
 |.int _::_,_,h=>by cases h
 |.tup _::_,_,h=>by cases h
 |.ref _::_,_,h=>by cases h
 |.cH _ _::_,_,h=>by cases h
 |.bD _::_,_,h=>by cases h
 |.exc _::_,_,h=>by cases h
theorem Br {K:ae}{h:Heap}{mg:Str->Option Value}(X:K.In h)(G:h.Ns br mg){n:Str}{ks vs:List D}{p:Addr}{es:Array DictEntry}{ep:Nat}(a:fv K br n=some (some (.ref p)))
 (l:K.lookup p=some ⟨.type "dict", none,.dict es ep,#[]⟩)(f:(KTD.rowsLook r9 es.toList (sT ks vs)&&TN ks vs && !(p==ue))=true):GC K mg n (.cH ks vs):=by
 simp only[ay]at f
 obtain⟨⟨f1,f2⟩,f3⟩:=f
 obtain⟨a1,a2,a3⟩:=O5 f2
 refine⟨_,.ref p,j8 X G a,rfl,fun H=>.cH ⟨sT ks vs,?_,a1,a2,a3⟩⟩
 simp only[vq,l,f1,f3]
 rfl
end L3
end
section
namespace L3
open PySem PySem.Spec PyProof.Rows L2 PySem.SeqAt
noncomputable def pS (val:Nat->Str):Nat->Nat
 |0=>0
 |i+1=>if((bc i).map val).any (·== val i)then pS val i else pS val i+1
theorem NU (val:Nat->Str):∀ i,pS val i<=i
 |0=>bb _
 |i+1=>by
  have:=NU val i
  unfold pS
  split<;>omega
section
variable {prog:bq}{w:cq}{A:cg}{R:Pk->ah->Prop}{I:Addr}{fp wr:List Addr}{G:Array xt->Array xt->Prop}{n:Nat}{P:Nat->Value->Prop}{St:Nat->ah->Prop}
abbrev oG (prog:bq)(w:cq)(val:Nat->Str)(S:Addr)(i:Nat)(h:Heap):Prop:=h.SetOf (strKind prog w) S (fun k=>((bc i).map val).any (·== k)) (pS val i)
theorem JC {val:Nat->Str}{S:Addr}{i:Nat}{h:Heap}(x:h.SetOf (strKind prog w) S (fun k'=>((bc i).map val).any (·== k')||decide (k'=val i)) (if((bc i).map val).any (·== val i)then pS val i else pS val i+1)):oG prog w val S (i+1) h:=by
 refine SetOf_congr x (fun k=>?_) rfl
 rw[List.range_succ,dr,List.any_append]
 congr 1
 simp only[az,l6,j7,List.any_nil,oj]
 by_cases e:k=val i
 ·subst e;simp
 ·rw[decide_eq_false e];symm;exact beq_eq_false_iff_ne.mpr fun z=>e z.symm
theorem QS (W:WalksS prog w A.in1 I fp wr G n P St)(S:Addr)(hSf:S∉fp)(val:Nat->Str)(hval:∀ i v,P i v->∃ t,v=.str (val i) t)(hb:n+1<t8):
 ∀(k i:Nat)(s:ah),n-i=k->i<=n->St i s->oG prog w val S i s.heap->(∀ s',Moved (S::wr) G s s'->oG prog w val S n s'.heap->R (.ok (.ret .none)) s') ->
  ky (model prog w) A (.builtin "set.update.loop" ⟨[.ref S,.ref I],[]⟩) R s:=by
 have hSw:S∉wr:=fun h=>hSf (W.sub _ h)
 have hsub:∀ b∈wr,b∈S::wr:=fun b hb=>ek _ hb
 have keep:∀{i:Nat}{s s':ah},oG prog w val S i s.heap->Moved wr G s s'->oG prog w val S i s'.heap:=fun⟨o,es,ep,t,ho,rest⟩ hm=>⟨o,es,ep,t,hm.heap S _ hSw ho,rest⟩
 intro k
 induction k with
 |zero =>
 intro i s hk hi dA hS hR
 obtain rfl:i=n:=by omega
 refine oz mf ?_
 rw[ou jd _]
 show wpAny _ A.in1 (r6 (.ref I) >>= _) _ _ s
 refine af (W.done s _ _ dA fun s' hm=>?_)
 show wpAny _ A.in1 (ret fo) _ _ s'
 exact aw (hR s' (hm.mono hsub) (keep hS hm))
 |succ k ih =>
 intro i s hk hi dA hS hR
 have mI:i<n:=by omega
 refine oz mf ?_
 rw[ou jd _]
 show wpAny _ A.in1 (r6 (.ref I) >>= _) _ _ s
 refine af (W.item i s _ _ mI dA fun v s' hP hst' hm=>?_)
 obtain⟨t,rfl⟩:=hval i v hP
 show wpAny _ A.in1 (lz [Ow (val i) t] (setAdd S (.str (val i) t)) >>= _) _ _ s'
 refine af (jj ?_)
 unfold setAdd
 refine jj (af ((strKind prog w).pyHash (k:=val i) (strKind_is _ _ _ _) ?_))
 refine wpAny_setAddHashed_of (knd:=strKind prog w) (s:={ s' with toks:=s'.toks+1 }) (strKind_is _ _ _ _) rfl (show oG prog w val S i s'.heap from keep hS hm) (by have:=NU val i;omega) fun h' hsb hS2=>?_
 refine aw ⟨plainId_quiet jd _,ih (i+1) _ (by omega) mI (W.frame _ s' _ _ hst' (Qj _) fun b hb o e=>?_) (JC hS2) fun s'' hm'' hS''=>?_⟩
 ·rw[hsb.2 b (fun h:b=S=>hSf (by rw[<-h];exact hb))];exact e
 ·refine hR s'' (Moved.trans W.gtrans ((hm.mono hsub).then_heap (Qj _) fun b o hb e=>?_) hm'') hS''
  rw[hsb.2 b (fun h:b=S=>hb (by rw[h];exact fb))];exact e
end
section
variable {prog:bq}{w:cq}{A:cg}{E:Value->ah->Prop}{s:ah}
noncomputable abbrev gY (led:Bool):Obj:={ cls:=.type "set", dict:=none,data:=.set #[] 0 (.fresh 0 0 led) }
theorem B5 {l:Addr}{items:Array Value}{val:Nat->Str}{led:Bool}{Q:PySem.Fin->ah->Prop}(hh:A.handled=none)(hl:s.heap.IsTuple l items)(hv:∀(i:Nat)(v:Value),items[i]? = some v->∃ t,v=.str (val i) t)(hb:items.size+1<t8)
  (h:∀(h':Heap)(tk:Nat),oG prog w val s.heap.objs.size items.size h'->(∀ b o,s.heap.get? b=some o->h'.get? b=some o)->Q (.done (.ret .none)) { s with heap:=h',toks:=tk }):
  wpAny (model prog w) A (Builtin.«set.__init__» ⟨[.ref s.heap.objs.size,.ref l],[]⟩) Q E { s with heap:=s.heap.push (gY led) }:=by
 obtain⟨ol,hol,hcl,nl,hdl⟩:=hl
 obtain⟨ocls,odict,odata,oslots⟩:=ol
 simp only at hcl hdl
 subst hcl;subst hdl
 have hS:(s.heap.push (gY led)).get? s.heap.objs.size=some (gY led):=bp _ rfl
 have hT:Ov { s with heap:=s.heap.push (gY led) } (.ref s.heap.objs.size) "set":=⟨_,hS,rfl⟩
 have hol':(s.heap.push (gY led)).get? l=some { cls:=.type "tuple", dict:=odict,data:=.seq items nl,slots:=oslots }:=au _ hol
 have hsls:=PySem.F.sub_tuple_set
 have hslf:=PySem.F.sub_tuple_frozenset
 have hne:(gv "tuple" == gv "dict")=false:=by decide
 have hl1:(s.heap.push (gY led)).IsTuple l items:=⟨_,hol',rfl,nl,rfl⟩
 unfold Builtin.«set.__init__» noKeywords Builtin.Frozenset.updateFrom
 generalize hPI:vn=PI
 wp_walk
 subst hPI
 refine qo hl1 ?_
 refine af (wpAny_runValue ?_)
 have hlS:l<s.heap.objs.size:=a9 hol
 have hh3:A.in1.handled=none:=by simp [hh]
 have kE:(s.heap.push (gY led)).objs.size=s.heap.objs.size+1:=ke ..
 have hneI:l≠(s.heap.push (gY led)).objs.size:=by rw[kE];exact bj (j5 hlS)
 have hSf:s.heap.objs.size∉[(s.heap.push (gY led)).objs.size,l]:=by
  simp only[bh,bo,or_false,not_or]
  exact⟨by rw[kE];exact bj (ij _),p0 hlS⟩
 refine QS ((Qa hh3 _ l hneI items).toS) s.heap.objs.size hSf val hv hb (items.size-0) 0 _ (by omega) (dj _) ⟨?hT1,?hT0⟩ ?hS0 ?hR
 case hT1=>exact⟨_,bp _ rfl,rfl,rfl⟩
 case hT0=>exact⟨_,au _ hol',rfl,nl,rfl⟩
 case hS0=>exact SetOf_congr ((setObjOf_fresh (knd:=strKind prog w) led).setOf (au _ hS) (by unfold t8;omega)) (fun _=>rfl) rfl
 case hR =>
  intro s' hm hS'
  obtain⟨h',g',d',tk',os'⟩:=s'
  have eg:g'=s.gens:=hm.gens
  have ed:d'=s.drawn:=hm.drawn
  have eo:os'=s.os:=hm.os
  subst eg;subst ed;subst eo
  show wpAny _ _ _ _ _ _
  refine aw ?_
  show wpAny _ _ (ret fo) _ _ _
  refine aw (h h' tk' hS' fun b o e=>?_)
  have hb1:b<s.heap.objs.size:=a9 e
  exact hm.heap b o (by simp only[bh,bo,or_false,not_or];exact⟨Nat.ne_of_lt hb1,by rw[kE];exact bj (j5 hb1)⟩) (au _ (au _ e))
set_option maxHeartbeats 6400000 in
theorem E6 {l:Addr}{items:Array Value}{val:Nat->Str}{Q:Value->ah->Prop}(hh:A.handled=none)(hl:s.heap.IsTuple l items)(hv:∀(i:Nat)(v:Value),items[i]? = some v->∃ t,v=.str (val i) t)(hb:items.size+1<t8)
 (h:∀(h':Heap)(tk:Nat),oG prog w val s.heap.objs.size items.size h'->(∀ b o,s.heap.get? b=some o->h'.get? b=some o)->Q (.ref s.heap.objs.size) { s with heap:=h',toks:=tk }):
 wpAny (model prog w) A (call (.type "set") [.ref l]) Q E s:=by
 obtain⟨c,tl,hmro⟩:=PySem.F.called_set.mro
 have hmade:=PySem.F.called_set.made
 have hsub:=PySem.F.called_set.sub
 refine zq (zi ?_)
 show wpAny _ _ (callAny (.type "set") _) _ _ _
 refine aw ⟨Code.quiet_builtin _ (by decide +kernel),oz PySem.F.entry_type_call ?_⟩
 rw[Around.under_plain (weight_type_call_type "set" [.ref l] []) rfl]
 have h1:=PySem.F.called_set.notType
 have h2:=PySem.F.called_set.canCreate
 have hct:=PySem.F.typeCall_set_1 (.ref l)
 repeat (any_goals (first|assumption|wp_step))
 refine l5 (code_set_new_1 (.ref l) (E:=E) (Q₁:=fun obj s₁=>∃ led:Bool,obj=.ref s.heap.objs.size/\s₁ = { s with heap:=s.heap.push (gY led) }) fun led=>⟨led,rfl,rfl⟩) fun r s₁ hr=>?_
 cases r with
 |error e=>exact hr
 |ok fl =>
 cases fl with
 |ret obj =>
  obtain⟨led,rfl,rfl⟩:=hr
  have hT:Ov { s with heap:=s.heap.push (gY led) } (.ref s.heap.objs.size) "set":=⟨_,bp _ rfl,rfl⟩
  have hli:=PySem.F.called_set.init.lookup
  have hbi:=PySem.F.called_set.init.bind (.ref s.heap.objs.size)
  repeat (any_goals (first|assumption|wp_step))
  refine l5 (vx (R:=wants (fun r s₂=>r=.none/\∃ h' tk,s₂ = { s with heap:=h',toks:=tk }/\oG prog w val s.heap.objs.size items.size h'/\(∀ b o,s.heap.get? b=some o->h'.get? b=some o)) E) PySem.F.called_set.init.plain PySem.F.entry_set_init (check_set_init_1 hT ?_)) fun r₂ s₂ hr₂=>?_
  ·exact B5 (by simp [hh]) hl hv hb fun h' tk hS hk=>⟨rfl,h',tk,rfl,hS,hk⟩
  ·cases r₂ with
  |error e=>exact hr₂
  |ok fl₂ =>
   cases fl₂ with
   |ret r =>
   obtain⟨rfl,h',tk,rfl,hS',hk'⟩:=hr₂
   repeat (any_goals (first|assumption|wp_step))
   exact h _ _ hS' hk'
   |_=>exact hr₂.elim
 |_=>exact hr.elim
end
noncomputable abbrev lL (ws:List (List Nat))(i:Nat):Str:=⟨(ws.getD i []).toArray⟩
theorem Qr (a b:List Nat):((⟨a.toArray⟩:Str)==⟨b.toArray⟩)=(a==b):=by
 by_cases h:a=b
 ·subst h;simp
 ·rw[beq_eq_false_iff_ne.mpr h]
  refine beq_eq_false_iff_ne.mpr fun e=>h ?_
  have e1:a.toArray=b.toArray:=congrArg Str.cps e
  simpa using e1
theorem N8 (ws:List (List Nat)):∀(rest seen:List (List Nat)),ws=seen++rest->pS (lL ws) seen.length+uT seen rest=pS (lL ws) ws.length
 |[],seen,h=>by simp [h,uT]
 |w::r,seen,h=>by
  have ih:=N8 ws r (seen++[w]) (by simp [h])
  rw[<-ih]
  have e1:lL ws seen.length=⟨w.toArray⟩:=by simp [lL,h]
  have e2:((bc seen.length).map (lL ws)).any (·== lL ws seen.length)=seen.any (·== w):=by
   have e3:(bc seen.length).map (lL ws)=seen.map fun x=>(⟨x.toArray⟩:Str):=by
    refine List.ext_getElem (by simp) fun i h1 h2=>?_
    have hi:i<seen.length:=by simpa using h1
    simp [lL,h,dh hi,bw hi]
   rw[e3,e1,nt]
   congr 1
   funext x
   exact Qr x w
  simp only[aq,ak,aj,uT]
  have e5:pS (lL ws) (seen.length+1)=if seen.any (·== w)=true then pS (lL ws) seen.length else pS (lL ws) seen.length+1:=by rw[<-e2];rfl
  show _=pS (lL ws) (seen.length+1)+_
  rw[e5]
  by_cases c:seen.any (·== w)=true
  ·rw[if_pos c,if_pos c];omega
  ·rw[if_neg c,if_neg c];omega
theorem CS {K:ae}{H:Hp}:∀{ds:List D}{ws:List (List Nat)}{vs:List V}{us:List Value},strsOf ds=some ws->aJ K H ds vs->aR vs us->us.length=ws.length/\∀(i:Nat)(v:Value),us[i]? = some v->∃ t,v=.str (lL ws i) t
 |[],ws,_,_,h,.nil,.nil=>by cases h;exact⟨rfl,fun i v e=>by simp at e⟩
 |.str w::r,ws,_,_,h,.cons rd rs,.cons rv rvs=>by
  have h:(strsOf r).map (w :: ·)=some ws:=h
  obtain⟨ws',e,rfl⟩:=Option.map_eq_some_iff.mp h
  obtain⟨l,ih⟩:=CS e rs rvs
  refine⟨by simpa using l,fun i v e=>?_⟩
  cases i with
  |zero =>
   cases rd.str_inv
   obtain⟨t,rfl⟩:=rv
   simp at e
   exact⟨t,e.symm⟩
  |succ i=>exact ih i v (by simpa using e)
 |.non::_,_,_,_,h,_,_=>by cases h
 |.bl _::_,_,_,_,h,_,_=>by cases h
 |.int _::_,_,_,_,h,_,_=>by cases h
 |.tup _::_,_,_,_,h,_,_=>by cases h
 |.ref _::_,_,_,_,h,_,_=>by cases h
 |.cH _ _::_,_,_,_,h,_,_=>by cases h
 |.bD _::_,_,_,_,h,_,_=>by cases h
 |.exc _::_,_,_,_,h,_,_=>by cases h
theorem Mu {a b:D}{r:List D}{st:aB}{Q:VK}(h:fP .pN (a::b::r) st Q):False:=by
 unfold fP at h
 split at h<;>simp_all
section
variable {X:Cx}{C:aS}{sub:Nat->Nat->Bool}{E:XK}{a:b7}{x:Ex}{p p2 pos pos2:Pos}
theorem Mw (hm:X.mg "len" = none)(hm2:X.mg "set" = none)(ha:JA X C sub E [a] [x])(hc:X.calm=true:=by kernel_rfl)(hg:X.env.kindOf "len" = some .globalImplicit:=by kernel_rfl)(hg2:X.env.kindOf "set" = some .globalImplicit:=by kernel_rfl)
  (he:ar [.Call (.Name "set" p2) [a] [] pos2] X.env=(false,eval (.Call (.Name "set" p2) [a] [] pos2) X.env)::ar [] X.env:=by kernel_rfl)(fH:(dq pos (ar [] X.env)).any (·.1)=false:=by kernel_rfl)
  (he2:ar [a] X.env=(false,eval a X.env)::ar [] X.env:=by kernel_rfl)(hpl2:(dq pos2 (ar [] X.env)).any (·.1)=false:=by kernel_rfl):
  JE X C sub E (.Call (.Name "len" p) [.Call (.Name "set" p2) [a] [] pos2] [] pos) (.bi .pN [x]):=⟨by
 intro pz s σ H Q I ⟨σd,st,R,r,ok,q,hq⟩
 refine gw (nC I hg hm cB ?_ (by decide) (by decide))
 rw[he]
 refine nq (by show(false||(dq pos (ar [] X.env)).any (·.1))=false;rw[fH];rfl) (oo ?_)
 show wpAny _ _ (zk ((false,eval (.Call (.Name "set" p2) [a] [] pos2) X.env)::dq pos (ar [] X.env))) _ _ s
 refine qg ?_
 refine gw (nC I hg2 hm2 Aw ?_ (by decide) (by decide))
 refine gV (bA (ha.h pos2 pz s σ H _ I ⟨σd,st,_,r,ok,q,fun vs H' z=>z⟩) fun us s1 ⟨vs,H1,I1,rv,ds,aC,cT,aU,rs,q1⟩=>?_) he2 hpl2
 match ds,rs,q1 with
 |[d],rs,q1 =>
  obtain⟨v,rfl,rd⟩:=rs.one
  obtain⟨u,rfl,ru⟩:=vals1 rv
  cases d with
  |tup es =>
   rw[DS]at q1
   obtain⟨ws,e1,hl,q1⟩:=gL q1
   obtain⟨l,vs,rfl,f,g⟩:=rd.bK
   cases ru
   obtain⟨aD,r1,pl,hz⟩:=I1.tuple f
   obtain⟨hlen,hat⟩:=CS e1 g r1
   have hh:X.A.handled=none:=I1.ok.hd hc
   refine E6 (val:=lL ws) hh (show s1.heap.IsTuple l aD.toArray from pl) (fun i v e=>hat i v (by simpa using e)) (by simp;unfold t8;omega) fun h' tk hS hk=>?_
   refine rh ?_
   have I2:Inv X pz σ H1 { s1 with heap:=h',toks:=tk }:=I1.kept hk
   obtain⟨o,es',ep,t,ho,hex,hd,hel,hmem,hb,hf,hn⟩:=hS
   refine call_len_set (s:={ s1 with heap:=h',toks:=tk }) ho hex hd hf (by unfold t8 at hb;omega) ?_
   have hn2:es'.size=uT [] ws:=by
    rw[hn]
    have:=N8 ws ws [] rfl
    simp only[aj,pS,p9]at this
    rw[this]
    simp [hlen]
   rw[hn2]
   exact⟨.int (uT [] ws:Nat),H1,I2.tok _,⟨_,rfl⟩,hq _ _ (.after cT (.here aU (.int _) q1))⟩
  |ref b =>
   obtain⟨_,_,z⟩:=cV (show bW aC b fun xs=>cS .pN xs aC R from q1)
   exact(show False from z).elim
  |_=>exact(show False from q1).elim
 |[],rs,q1=>exact(show False from q1).elim
 |_::_::_,rs,q1=>exact(Mu q1).elim⟩
end
end L3
end
section
namespace L3
open PySem PySem.Spec PyProof.Rows L2
theorem oR.rL {X:Cx}{C:aS}{n:Str}{i:Nat}{scope:Scope}{own cn:List Str}{fp:List Addr}{s:ah}{H:Hp}{Ca:Addr}(h:oR X C n i):oR (gN X scope own cn fp s H Ca) C n i:=let⟨a,b⟩:=h;⟨a,b⟩
structure Ep (K:ae)(c:List Nat):Prop where
 h:∃ C,clsAt K c C/\T8 K C
structure Np (K:ae)(c f:List Nat):Prop where
 h:∀ C,clsAt K c C->ZQ K C ⟨f.toArray⟩
structure GQ (X:Cx)(C:aS)(c:List Nat)(n:Str)(fid:Nat):Prop where
 h:∃ k f fd ps C0,cM X.prog X.w X.K X.mg X.base gH k f fd ps (jO X.K C fid)/\dC k X.A/\Binds X.K fd ps []/\clsAt X.K c C0/\T8 X.K C0/\Q7 X.K C0 n f
structure EZ (X:Cx)(C:aS)(c:List Nat)(n:Str)(fid:Nat):Prop where
 h:∃ k f fd ps C0,cM X.prog X.w X.K X.mg X.base gH k f fd ps (jO X.K C fid)/\dC (k+1) X.A/\Binds X.K fd ps []/\clsAt X.K c C0/\X.mg n=some (.ref C0)/\Mk X.K C0 f
theorem Ag {P:bq}{w:cq}{K:ae}{mg:Str->Option Value}{base:Heap}{G:Prog}{r k f:Nat}{fn:Fn}{x qual:Str}{st:Stmt}{a:Addr}{fd:fx}{N ps:List Str}(F:wC K x qual st a fd)(S:kW N ps (aH st))
  (hG:G.fns f=some fn)(hp:fn.np=ps.length)(hl:fn.nl=N.length)
  (hb:∀(aT:Value)(A:cg)(outer:List Env)(s:ah)(H:Hp)(E:L2.XK),dC r (A.deeper (gh qual (aH st) s.heap.objs.size a aT)) ->
   uA (cW gH P w K mg base N qual (aH st) a aT A outer s H E).mF (aI G k) G.sub EF (gI st) fn.body):
  cM P w K mg base gH (r+1) a fd ps (jO K (aI G (k+1)) f):=by
 refine F.ok S (fun vs H Q E h=>?_) (fun aT A outer s H vs Q E hr h=>?_)
 ·obtain⟨ds,aA,R,r,_,h,_⟩:=h
  simp only[aI,hG]at h
  rw[<-r.length,h.1,hp]
 ·obtain⟨ds,aA,R,r,ok,h,hq⟩:=h
  simp only[aI,hG]at h
  refine⟨_,(hb aT A outer s H E hr).h,?_⟩
  refine⟨start fn.np fn.nl ds,aA,_,?_,ok,h.2,⟨fun σ' H' cA aY sr s' cQ q=>?_,fun v H' z=>hq v H' z,fun _ _ _ _ _ _ _ q=>q,fun _ _ _ _ _ _ _ q=>q,fun _ _ _ q=>q⟩⟩
  ·rw[hl];exact vK r h.1
  ·exact hq _ _ ⟨.non,aY,s',cQ,.non,q⟩
inductive At where
 |top
 |bX (c:List Nat)
 |init (c:List Nat)
def Bj (K:ae)(mg:Str->Option Value)(n:Str)(a:Addr):At->Prop
 |.top=>mg n=some (.ref a)
 |.bX c=>∃ C0,clsAt K c C0/\T8 K C0/\Q7 K C0 n a
 |.init c=>∃ C0,clsAt K c C0/\mg ⟨c.toArray⟩=some (.ref C0)/\Mk K C0 a
structure FN (K:ae)(mg:Str->Option Value)(nf:Nat)(nm qn:Nat->Str)(ps:Nat->List Str)(st:Nat->Stmt)(at_:Nat->At) where
 a:Nat->Addr
 fd:Nat->fx
 fn:∀ i,i<nf->wC K (nm i) (qn i) (st i) (a i) (fd i)
 bi:∀ i,i<nf->Binds K (fd i) (ps i) []
 mg:∀ i,i<nf->Bj K mg (nm i) (a i) (at_ i)
def B7 (n q:Str)(ps:List Str)(st:Stmt):Prop:=∀(kV doc pm:Value)(an:Option Addr)(aT ct:Value)(us:List Value),us.length=ps.length->Py (je n q (kT st) (gI st) (aH st) .none kV doc pm an aT ct) ⟨us,[]⟩=pure (ps.zip us)
def tJ (K:ae)(mg:Str->Option Value)(n q:Str)(st:Stmt)(at_:At):Prop:=∃ a fd,wC K n q st a fd/\Bj K mg n a at_
theorem Gv {K:ae}{h:Heap}{mg:Str->Option Value}(X:K.In h)(G:h.Ns br mg){n:Str}{st:Stmt}{f:Addr}{oc:Value}{od an:Option Addr}{sl:Array (Option Value)}{kV dc pm cd ct:Value}
 (a:fv K br n=some (some (.ref f)))(l:K.lookup f=some ⟨oc,od,.func (je n n (kT st) (gI st) (aH st) .none kV dc pm an cd ct),sl⟩)(c:lx K cd n=true)(k:dv K (.ref f)=true):tJ K mg n n st .top :=
 ⟨f,_,IA l c k,j8 X G a⟩
theorem Gz {K:ae}{h:Heap}{mg:Str->Option Value}(X:K.In h)(G:h.Ns br mg){n q:Str}{c:List Nat}{C:Addr}{st:Stmt}{f:Addr}{oc:Value}{od an:Option Addr}{sl:Array (Option Value)}{kV dc pm cd ct:Value}
 (cl:fv K br ⟨c.toArray⟩=some (some (.ref C)))(pg:tu K C Oz=true)(hd:rf K C=true)(po:rg K C=true)(sa:du K (.ref C) "__setattr__" = some (some (.builtin "object.__setattr__")))
 (a:du K (.ref C) n=some (some (.ref f)))(fn:ug K (.ref f)=true)
 (l:K.lookup f=some ⟨oc,od,.func (je n q (kT st) (gI st) (aH st) .none kV dc pm an cd ct),sl⟩)(cc:lx K cd q=true)(k:dv K (.ref f)=true):tJ K mg n q st (.bX c) :=
 ⟨f,_,IA l cc k,C,cl,⟨pg,hd,po,sa⟩,⟨a,fn,k⟩⟩
theorem Gp {K:ae}{h:Heap}{mg:Str->Option Value}(X:K.In h)(G:h.Ns br mg){q:Str}{c:List Nat}{C:Addr}{st:Stmt}{f:Addr}{oc:Value}{od an:Option Addr}{sl:Array (Option Value)}{kV dc pm cd ct:Value}
 (cl:fv K br ⟨c.toArray⟩=some (some (.ref C)))(mk:ze K C=true)(kp:dv K (.ref C)=true)
 (a:du K (.ref C) "__init__" = some (some (.ref f)))(fn:ug K (.ref f)=true)
 (l:K.lookup f=some ⟨oc,od,.func (je "__init__" q (kT st) (gI st) (aH st) .none kV dc pm an cd ct),sl⟩)(cc:lx K cd q=true)(k:dv K (.ref f)=true):tJ K mg "__init__" q st (.init c) :=
 ⟨f,_,IA l cc k,C,cl,j8 X G cl,⟨mk,a,fn,kp⟩⟩
theorem Dh {K:ae}{c:List Nat}{C:Addr}(cl:fv K br ⟨c.toArray⟩=some (some (.ref C)))(pg:tu K C Oz=true)(hd:rf K C=true)(po:rg K C=true)(sa:du K (.ref C) "__setattr__" = some (some (.builtin "object.__setattr__"))):Ep K c:=⟨C,cl,pg,hd,po,sa⟩
theorem Eb {K:ae}{c f:List Nat}{C:Addr}(cl:fv K br ⟨c.toArray⟩=some (some (.ref C)))(na:du K (.ref C) ⟨f.toArray⟩=some none):Np K c f:=⟨fun C' h=>by cases clsAt.inj h cl;exact na⟩
theorem J7 {K:ae}{mg:Str->Option Value}{nm qn:Nat->Str}{ps:Nat->List Str}{st:Nat->Stmt}{at_:Nat->At}:∀(nf:Nat),(∀ i,i<nf->B7 (nm i) (qn i) (ps i) (st i))->(∀ i,i<nf->tJ K mg (nm i) (qn i) (st i) (at_ i))->fx->Nonempty (FN K mg nf nm qn ps st at_)
 |0,_,_,d=>⟨⟨fun _=>0,fun _=>d,fun i h=>absurd h (by omega),fun i h=>absurd h (by omega),fun i h=>absurd h (by omega)⟩⟩
 |nf+1,B,H,d=>by
  obtain⟨T⟩:=J7 nf (fun i h=>B i (by omega)) (fun i h=>H i (by omega)) d
  obtain⟨a,fd,hF,hm⟩:=H nf (by omega)
  refine⟨⟨fun i=>if i=nf then a else T.a i,fun i=>if i=nf then fd else T.fd i,fun i h=>?_,fun i h=>?_,fun i h=>?_⟩⟩
  ·by_cases e:i=nf
   ·subst e;simpa using hF
   ·simpa only[if_neg e]using T.fn i (by omega)
  ·by_cases e:i=nf
   ·subst e;simpa using hF.binds (B i (by omega))
   ·simpa only[if_neg e]using T.bi i (by omega)
  ·by_cases e:i=nf
   ·subst e;simpa using hm
   ·simpa only[if_neg e]using T.mg i (by omega)
theorem ME {K:ae}{n q x:Str}{st:Stmt}{a:Addr}{fd:fx}(F:wC K n q st a fd)(h:B7 n q [x] st)(s:ah)(u:Value):we s fd ⟨[u],[]⟩ [(x,u)]:=by
 obtain⟨oc,od,kV,doc,pm,an,aT,ct,osl,rfl,lk,hcd⟩:=F.ex
 exact .of_eq (h kV doc pm an aT ct [u] rfl)
end L3
end
section
namespace L3
section
variable {C:aS}{sub:Nat->Nat->Bool}{E:XK}{σ:St}{st:aB}{Q:VK}{QQ:List D->aB->Prop}{QB:Bool->aB->Prop}{P:eB}{e a b c:Ex}{es:List Ex}{i:Nat}{d:D}{M:St->aB->Prop}
theorem FE:aF C sub E (.c d) σ st Q=Q d st:=rfl
theorem D3:aF C sub E (.v i) σ st Q=fK σ i fun d=>Q d st:=rfl
theorem Ja:aF C sub E (.tup es) σ st Q=bC C sub E es σ st fun ds aA=>Q (.tup ds) aA:=rfl
theorem Ih:aF C sub E (.lst es) σ st Q=bC C sub E es σ st fun ds aA=>fX ds aA Q:=rfl
theorem MF {op:qT}:aF C sub E (.bin op a b) σ st Q=aF C sub E a σ st fun x aC=>aF C sub E b σ aC fun y aG=>hV op x y aG Q:=rfl
theorem Fq:aF C sub E (.neg a) σ st Q=aF C sub E a σ st fun x aC=>vT x aC Q:=rfl
theorem Gb {op:nF}:aF C sub E (.cmp op a b) σ st Q=aF C sub E a σ st fun x aC=>aF C sub E b σ aC fun y aG=>cO op x y aG fun k=>Q (.bl k) aG:=rfl
theorem XB {op op':nF}:aF C sub E (.chain op op' a b c) σ st Q=aF C sub E a σ st fun x aC=>aF C sub E b σ aC fun y aG=>cO op x y aG fun k =>
 if k=true then aF C sub E c σ aG fun z aQ=>cO op' y z aQ fun k=>Q (.bl k) aQ else Q (.bl false) aG:=rfl
theorem Hc:aF C sub E (.and_ a b) σ st Q=aF C sub E a σ st fun x aC=>dJ x aC fun k=>if k=true then aF C sub E b σ aC Q else Q x aC:=rfl
theorem Kj:aF C sub E (.or_ a b) σ st Q=aF C sub E a σ st fun x aC=>dJ x aC fun k=>if k=true then Q x aC else aF C sub E b σ aC Q:=rfl
theorem Ew:aF C sub E (.not_ a) σ st Q=aF C sub E a σ st fun x aC=>dJ x aC fun k=>Q (.bl (!k)) aC:=rfl
theorem Gc:aF C sub E (.ite c a b) σ st Q=aF C sub E c σ st fun x aC=>dJ x aC fun k=>if k=true then aF C sub E a σ aC Q else aF C sub E b σ aC Q:=rfl
theorem Ax {f:Nat}:aF C sub E (.call f es) σ st Q=bC C sub E es σ st fun ds aA=>C f ds aA Q (fun _ _=>False):=rfl
theorem WS {f:Nat}:aF C sub E (.callx f es) σ st Q=bC C sub E es σ st fun ds aA=>C f ds aA Q E:=rfl
theorem Cv {f:BI}:aF C sub E (.bi f es) σ st Q=bC C sub E es σ st fun ds aA=>fP f ds aA Q:=rfl
theorem Ik {ts:List Ty}:aF C sub E (.isi a ts) σ st Q=aF C sub E a σ st fun x aC=>qK sub x aC ts fun k=>Q (.bl k) aC:=rfl
theorem YV {m:MT}:aF C sub E (.bX m a es) σ st Q=aF C sub E a σ st fun x aC=>mP m x aC/\bC C sub E es σ aC fun ds aG=>dZ m x ds aG Q:=rfl
theorem zJ:aF C sub E (.ix a b) σ st Q=aF C sub E a σ st fun x aC=>aF C sub E b σ aC fun y aG=>sG x y aG Q:=rfl
theorem Lu {lo hi:List Ex}:aF C sub E (.sl a lo hi) σ st Q=aF C sub E a σ st fun x aC=>bC C sub E lo σ aC fun ls aG=>mY ls fun l=>bC C sub E hi σ aG fun hs aQ=>mY hs fun h=>yM x l h aQ Q:=rfl
theorem Il {f:BI}{k:IK}:aF C sub E (.bit f k es) σ st Q=bC C sub E es σ st fun ds aC=>iJ (some k) ds aC fun _ xs=>cS f xs aC Q:=rfl
theorem Ea {n:Nat}{aV tg:List Nat}{one:Bool}{k:Option IK}{aD ifs:List Ex}:aF C sub E (.comp n aV tg one k aD ifs e) σ st Q=bC C sub E aD σ st fun ds aC=>iJ k ds aC fun as xs =>
 fD (same as aC) (fun x aG K=>iP one tg x (ao n none++aV.map fun i=>(σ[i]?).getD none) fun σ' =>
 eE C sub E ifs σ' aG fun b aQ=>if b=true then aF C sub E e σ' aQ fun d bY=>K (some d) bY else K none aQ) xs [] aC fun ds dY=>fX ds dY Q:=rfl
theorem P0:bC C sub E [] σ st QQ=QQ [] st:=rfl
theorem J5:bC C sub E (e::es) σ st QQ=aF C sub E e σ st fun d aA=>bC C sub E es σ aA fun ds aY=>QQ (d::ds) aY:=rfl
theorem Fl:eE C sub E [] σ st QB=QB true st:=rfl
theorem Cj:eE C sub E (e::es) σ st QB=aF C sub E e σ st fun d aA=>dJ d aA fun k=>if k=true then eE C sub E es σ aA QB else QB false aA:=rfl
theorem VG {c:Nat}:wpS C sub (.rais c es) P σ st=bC C sub (fun c aA=>P.ex c σ aA) es σ st fun _ aA=>P.ex c σ aA:=rfl
theorem Ge:wpS C sub (.ex e) P σ st=aF C sub (fun c aA=>P.ex c σ aA) e σ st fun _ aA=>P.nx σ aA:=rfl
theorem sE {t:Tg}:wpS C sub (.asg t e) P σ st=aF C sub (fun c aA=>P.ex c σ aA) e σ st fun d aA=>lR C sub (fun c aA=>P.ex c σ aA) t d σ aA P.nx:=rfl
theorem Bv {op:qT}:wpS C sub (.aug i op e) P σ st=fK σ i fun x=>aF C sub (fun c aA=>P.ex c σ aA) e σ st fun y aA=>notRef x/\hV op x y aA fun d aY=>P.nx (σ.set i (some d)) aY:=rfl
theorem Cw {x y:List Sx}:wpS C sub (.iff e x y) P σ st=aF C sub (fun c aA=>P.ex c σ aA) e σ st fun d aA=>dJ d aA fun k=>if k=true then bU C sub x P σ aA else bU C sub y P σ aA:=rfl
theorem Dy {t:Tg}{k:Option IK}{b:List Sx}:wpS C sub (.kJ t k es b) P σ st=bC C sub (fun c aA=>P.ex c σ aA) es σ st fun ds aC=>iJ k ds aC fun as xs=>vE (same as aC) (fun x next σ st=>lR C sub (fun c aA=>P.ex c σ aA) t x σ st fun σ' aA=>bU C sub b { P with nx:=next,ct:=next,bk:=P.nx } σ' aA) P.nx xs σ aC:=rfl
theorem P1:wpS C sub (.ret e) P σ st=aF C sub (fun c aA=>P.ex c σ aA) e σ st P.rt:=rfl
theorem Ct:wpS C sub .brk P σ st=P.bk σ st:=rfl
theorem ZU:wpS C sub .cnt P σ st=P.ct σ st:=rfl
theorem YA:wpS C sub .pass P σ st=P.nx σ st:=rfl
theorem xH:lR C sub E (.nm i) d σ st M=M (σ.set i (some d)) st:=rfl
theorem Ij {is:List Nat}:lR C sub E (.tp is) d σ st M=iP false is d σ fun σ'=>M σ' st:=rfl
theorem Fb:lR C sub E (.ix a b) d σ st M=aF C sub E a σ st fun x aC=>aF C sub E b σ aC fun y aG=>yY x y d aG fun aQ=>M σ aQ:=rfl
theorem Ia {c f:List Nat}:lR C sub E (.fl c f a) d σ st M=aF C sub E a σ st fun x aC=>OC c f d x aC fun aG=>M σ aG:=rfl
theorem Fo:lR C sub E (.dk a b) d σ st M=aF C sub E a σ st fun x aC=>aF C sub E b σ aC fun y aG=>JY y d x aG fun aQ=>M σ aQ:=rfl
theorem Fi {c f:List Nat}:aF C sub E (.fld c f a) σ st Q=aF C sub E a σ st fun x aC=>HW c f x aC Q:=rfl
theorem Kt {c:List Nat}{f:Nat}:aF C sub E (.mk c f es) σ st Q=bC C sub E es σ st fun ds aC=>∀ p,aC p=none->C f (.ref p::ds) (put aC p (.ins c [])) (fun d aG=>d=.non/\Q (.ref p) aG) (fun _ _=>False):=rfl
theorem Fw {c m:List Nat}{f:Nat}:aF C sub E (.mcl c m f a es) σ st Q=aF C sub E a σ st fun x aC=>L7 c m x aC/\bC C sub E es σ aC fun ds aG=>C f (x::ds) aG Q (fun _ _=>False):=rfl
theorem Z5 {c m:List Nat}{f:Nat}:aF C sub E (.mclx c m f a es) σ st Q=aF C sub E a σ st fun x aC=>L7 c m x aC/\bC C sub E es σ aC fun ds aG=>C f (x::ds) aG Q E:=rfl
theorem Cy:aF C sub E .dnew σ st Q = ∀ p,st p=none->Q (.ref p) (put st p (.tab [] [])):=rfl
theorem Fk {neg:Bool}:aF C sub E (.din neg a b) σ st Q=aF C sub E a σ st fun x aC=>aF C sub E b σ aC fun y aG=>FU x y aG fun k=>Q (.bl (if neg=true then !k else k)) aG:=rfl
theorem Ga:aF C sub E (.dix a b) σ st Q=aF C sub E a σ st fun y aC=>aF C sub E b σ aC fun x aG=>FY x y aG Q:=rfl
end
section
variable {d:D}{r:St}{R:D->Prop}{o0 o1 o2 o3 o4 o5 o6 o7 o8 o9 jC jM UX:Option D}
theorem CL:fK (some d::r) 0 R=R d:=rfl
theorem Dx:fK (o0::some d::r) 1 R=R d:=rfl
theorem Km:fK (o0::o1::some d::r) 2 R=R d:=rfl
theorem Mf:fK (o0::o1::o2::some d::r) 3 R=R d:=rfl
theorem Lk:fK (o0::o1::o2::o3::some d::r) 4 R=R d:=rfl
theorem Kx:fK (o0::o1::o2::o3::o4::some d::r) 5 R=R d:=rfl
theorem Kr:fK (o0::o1::o2::o3::o4::o5::some d::r) 6 R=R d:=rfl
theorem Kz:fK (o0::o1::o2::o3::o4::o5::o6::some d::r) 7 R=R d:=rfl
theorem Ll:fK (o0::o1::o2::o3::o4::o5::o6::o7::some d::r) 8 R=R d:=rfl
theorem Ls:fK (o0::o1::o2::o3::o4::o5::o6::o7::o8::some d::r) 9 R=R d:=rfl
theorem Iz:fK (o0::o1::o2::o3::o4::o5::o6::o7::o8::o9::some d::r) 10 R=R d:=rfl
theorem Ig:fK (o0::o1::o2::o3::o4::o5::o6::o7::o8::o9::jC::some d::r) 11 R=R d:=rfl
theorem Hd:fK (o0::o1::o2::o3::o4::o5::o6::o7::o8::o9::jC::jM::some d::r) 12 R=R d:=rfl
theorem Ib:fK (o0::o1::o2::o3::o4::o5::o6::o7::o8::o9::jC::jM::UX::some d::r) 13 R=R d:=rfl
end
end L3
end
section
namespace L3
open PySem PySem.Spec PyProof.Rows L2
def pP (h:Heap)(e T:Addr)(c fl:Value):Prop :=
 ∃ oe vs oT ts,h.get? e=some oe/\oe.cls=c/\oe.dict=none/\oe.data=.fields vs/\vs[1]? = some (.ref T)/\T≠e/\h.get? T=some oT/\oT.data=.fields ts/\ts[3]? = some fl
structure eF (fs ex:List Addr)(h h':Heap):Prop where
 keep:∀ b o,h.get? b=some o->b∉fs->b∉ex->h'.get? b=some o
 slot:∀ b o,h.get? b=some o->b∉ex->∃ sl,h'.get? b=some { o with slots:=sl }
section
variable {fs ex ex':List Addr}{h h1 h2:Heap}
theorem eF.trans (a:eF fs ex h h1)(b:eF fs ex' h1 h2):eF fs (ex++ex') h h2 where
 keep:=fun c o q n m=>b.keep c o (a.keep c o q n fun z=>m (ll _ z)) n fun z=>m (cz _ z)
 slot:=fun c o q m=>by
  obtain⟨s1,e1⟩:=a.slot c o q fun z=>m (ll _ z)
  obtain⟨s2,e2⟩:=b.slot c _ e1 fun z=>m (cz _ z)
  exact⟨s2,e2⟩
theorem eF.more (a:eF [] ex h h1):eF fs ex h h1:=⟨fun c o q _ m=>a.keep c o q (by simp) m,a.slot⟩
theorem eF.old (a:eF fs ex h h1)(k:∀ b o,h2.get? b=some o->h.get? b=some o)(n:∀ b∈ex,b∈ex'∨h2.get? b=none):eF fs ex' h2 h1 where
 keep:=fun c o q m m'=>a.keep c o (k c o q) m fun z=>by
  rcases n c z with z|z
  ·exact m' z
  ·rw[z]at q;cases q
 slot:=fun c o q m'=>a.slot c o (k c o q) fun z=>by
  rcases n c z with z|z
  ·exact m' z
  ·rw[z]at q;cases q
theorem eF.kG {base:Heap}{l:List Env}(a:eF fs ex h h1)(n:∀ b∈ex,∀ o,h.get? b=some o->∃ vs,o.data=.fields vs)(f:h.FunFrames base l):h1.FunFrames base l :=
 f.of_keeps fun b o q d=>by
 obtain⟨sl,e⟩:=a.slot b o q fun z=>let⟨vs,w⟩:=n b z o q;d vs w
 exact⟨_,e,rfl⟩
theorem eF.ok {P:bq}{w:cq}{H:Hp}(a:eF fs ex h h1)(x:dN P w H h)(hf:∀ b∈fs,H b=none)(hx:∀ b∈ex,H b=none):dN P w H h1:=fun b o q =>
 (x b o q).nX (fun c u hc e=>a.keep c u e
 (fun z=>by
  have:=hf c z
  rcases hc with rfl|hc
  ·rw[this]at q;cases q
  ·rw[this]at hc;cases hc)
 (fun z=>by
  have:=hx c z
  rcases hc with rfl|hc
  ·rw[this]at q;cases q
  ·rw[this]at hc;cases hc)) (fun _ z=>z) fun _ _ z=>z
end
theorem RN (o:Obj)(f:Array Value->Array Value):(o.mapFields f).dict=o.dict:=by unfold gm;split<;>rfl
section
variable {M:Model}{A:cg}{E:Value->ah->Prop}{s:ah}{base:Heap}{env:Env}{outer:List Env}{L e T:Addr}{c fl:Value}{Q:Unit->ah->Prop}
theorem HE {oe:Obj}{vs:Array Value}{head:Value}{nx:Bool}(hfr:A.frames=some (env::outer))(hl:s.heap.FunFrames base (env::outer))(hf:env.frame=some L)(he:s.heap.get? e=some oe)(hn:oe.dict=none)(hd:oe.data=.fields vs)(hz:1<vs.size)
  (k:∀ h' T,eF (eM (env::outer)) [e] s.heap h'->s.heap.get? T=none->pP h' e T oe.cls (lu L)->Q () { s with heap:=h' }):
  wpAny M A (do let f <-frameOf env;let pl <-entryPlaceOf L nx;let t <-w4 head f .none (lu L) .none pl;setField (.ref e) 1 t) Q E s:=by
 have ne:e∉eM (env::outer):=fun m=>by
  obtain⟨_,o,ho,hn⟩:=hl.mem m
  rw[he]at ho;cases ho
  exact hn vs hd
 refine af (wpAny_frameOf_fun hfr hl hf fun h1 z=>af (wpAny_entryPlaceOf fun pl hp=>?_))
 unfold w4 newFields
 refine af (fu ?_ (hp.sizeOk5 _ _ _ _ _))
 have e1:h1.get? e=some oe:=(z.2.1 e ne).trans he
 have te:h1.objs.size≠e:=p0 (a9 e1)
 refine jw (au _ e1) hd hz (k _ h1.objs.size ⟨fun b o q n m=>?_,fun b o q m=>?_⟩ ?_ ?_)
 ·rw[bg _ _ (fun w=>m (by simp [w]))]
  exact au _ ((z.2.1 b n).trans q)
 ·obtain⟨sl,w⟩:=z.2.2 b o q
  refine⟨sl,?_⟩
  rw[bg _ _ (fun w=>m (by simp [w]))]
  exact au _ w
 ·exact vm (by rw[z.1];exact bb _)
 ·refine⟨_,_,_,_,cj _ (au _ e1) (d5 (cf hd _)),yi _ _,(RN _ _).trans hn,cf hd _,by simp [hz],te,(bg _ _ (gp te)).trans (bp h1 rfl),rfl,?_⟩
  first
   |(simp;done)
   |(rcases hp with rfl|⟨_,_,_,_,_,_,_,rfl⟩<;>simp)
theorem RO {oe:Obj}{vs:Array Value}(hfr:A.frames=some (env::outer))(hl:s.heap.FunFrames base (env::outer))(hf:env.frame=some L)(he:s.heap.get? e=some oe)(hn:oe.dict=none)(hd:oe.data=.fields vs)(h1:vs[1]? = some .none)
 (k:∀ h' T,eF (eM (env::outer)) [e] s.heap h'->s.heap.get? T=none->pP h' e T oe.cls (lu L)->Q () { s with heap:=h' }):wpAny M A (jz (.ref e) env) Q E s:=by
 unfold jz
 simp only[hf]
 refine af (dw he hd h1 ?_)
 rw[if_neg (by decide)]
 exact HE hfr hl hf he hn hd (Array.getElem?_eq_some_iff.mp h1).1 k
theorem J6 (hfr:A.frames=some (env::outer))(hl:s.heap.FunFrames base (env::outer))(hf:env.frame=some L)(f:pP s.heap e T c .none)
  (k:∀ h' T',eF (eM (env::outer)) [e,T] s.heap h'->s.heap.get? T'=none->pP h' e T' c (lu L)->(∃ o ts,h'.get? T=some o/\o.data=.fields ts)->Q () { s with heap:=h' }):wpAny M A (jz (.ref e) env) Q E s:=by
 obtain⟨oe,vs,oT,ts,he,rfl,hn,hd,h1,hTe,hT,hdT,h3⟩:=f
 unfold jz
 simp only[hf]
 refine af (dw he hd h1 ?_)
 rw[if_pos (by simp)]
 refine af (dw hT hdT h3 ?_)
 rw[if_neg (by simp [lu])]
 refine af (jw hT hdT (Array.getElem?_eq_some_iff.mp h3).1 ?_)
 have oth:∀ b,b≠T->(s.heap.update T (gm (·.setIfInBounds 3 fo))).get? b=s.heap.get? b:=fun b n=>bg _ _ (gp n)
 have B:eF (eM (env::outer)) [T] s.heap (s.heap.update T (gm (·.setIfInBounds 3 fo))):=⟨fun b o q _ m=>(oth b (by simpa using m)).trans q,fun b o q m=>⟨o.slots,(oth b (by simpa using m)).trans q⟩⟩
 refine HE hfr (B.kG (fun b m o q=>?_) hl) hf ((oth e (gp hTe)).trans he) hn hd (Array.getElem?_eq_some_iff.mp h1).1 fun h' T' b' n' f'=>k h' T' ((B.trans b').old (ex':=[e,T]) (fun _ _ q=>q) fun b m=>.inl ?_) ?_ f' ?_
 ·simp only[bf]at m
  subst m
  rw[hT]at q;cases q
  exact⟨ts,hdT⟩
 ·simp only[j1,bf,bh,bo,or_false]at m ⊢
  exact m.symm
 ·cases q:s.heap.get? T' with
  |none=>rfl
  |some o =>
   obtain⟨sl,w⟩:∃ o,(s.heap.update T (gm (·.setIfInBounds 3 fo))).get? T'=some o:=by
    by_cases z:T'=T
    ·subst z
     exact⟨_,cj _ hT (d5 (cf hdT _))⟩
    ·exact⟨o,(oth T' z).trans q⟩
   have n':(s.heap.update T (gm (·.setIfInBounds 3 fo))).get? T'=none:=n'
   rw[w]at n';cases n'
 ·obtain⟨sl,w⟩:=b'.slot T _ (cj _ hT (d5 (cf hdT _))) (by simpa using hTe)
  exact⟨_,_,w,cf hdT _⟩
theorem wF (f:pP s.heap e T c fl)(k:∀ h',eF [] [T] s.heap h'->pP h' e T c .none->Q () { s with heap:=h' }):wpAny M A (wk (.ref e) none) Q E s:=by
 obtain⟨oe,vs,oT,ts,he,hc,hn,hd,h1,hTe,hT,hdT,h3⟩:=f
 have z3:3<ts.size:=(Array.getElem?_eq_some_iff.mp h3).1
 unfold wk
 refine af (dw he hd h1 ?_)
 rw[if_pos (by simp)]
 refine jw hT hdT z3 (k _ ⟨fun b o q _ m=>?_,fun b o q m=>⟨o.slots,?_⟩⟩ ⟨oe,vs,_,_,?_,hc,hn,hd,h1,hTe,cj _ hT (d5 (cf hdT _)),cf hdT _,by simp [z3]⟩)
 ·exact(bg _ _ (fun w=>m (by simp [w]))).trans q
 ·exact(bg _ _ (fun w=>m (by simp [w]))).trans q
 ·exact(bg _ _ hTe).trans he
end
structure DO (K:ae)(C:Addr):Prop where
 ga:du K (.ref C) "__getattribute__" = some (some (.builtin "BaseException.__getattribute__"))
 gt:du K (.ref C) "__getattr__" = some none
 cl:du K (.ref C) "__class__" = some (some (.builtin "object.__class__"))
 ob:jm K C (.type "object")=some true
 be:jm K C (.type "BaseException")=some true
section
variable {prog:bq}{w:cq}{A:cg}{E:Value->ah->Prop}{K:ae}{h:Heap}{g:Array xt}{d:Drawn}{t:Nat}{os:OsState}{a C:Addr}{o:Obj}
theorem QN {tk:Tok}{Q:Fin->ah->Prop}(X:K.In h)(Z:DO K C)(I:kf h a o C none)(q:Q (.done (.ret (.ref C))) ⟨h,g,d,t,os⟩):
 wpAny (model prog w) A (Builtin.«object.__getattribute__» ⟨[.ref a,.str "__class__" tk],[]⟩) Q E ⟨h,g,d,t,os⟩:=by
 have hx:=I.at_
 have hc:=I.cls
 have l1:=ow (M:=model prog w) X Z.cl
 have f5:=F.typeOf_object_class
 have f6:=F.slot_gs_get.lookup
 have f7:=F.slot_gs_set.lookup
 repeat (any_goals (first|assumption|(with_reducible refine rp hx ?_;rw[hc])|with_reducible refine l1.at ?_|wp_step))
 refine PySem.W.class_get (K:=K) (s:=⟨h,g,d,t,os⟩) X I Z.ob ?_
 repeat (any_goals (first|assumption|wp_step))
theorem S4 {v:Value}{Q:Unit->ah->Prop}(X:K.In h)(Z:DO K C)(I:kf h a o C none)(q:Q () ⟨h,g,d,t,os⟩):wpAny (model prog w) A (t5 "BaseException.__getattribute__" ⟨[.ref a,v],[]⟩) Q E ⟨h,g,d,t,os⟩:=by
 have hx:=I.at_
 have hc:=I.cls
 have l1:=pj (M:=model prog w) X Z.be
 have k1:builtinKind "BaseException.__getattribute__" = some .slot:=by decide +kernel
 have k2:Qu "BaseException.__getattribute__" = some ("BaseException","__getattribute__"):=by decide +kernel
 have k3:=F.args_bexc_ga (.ref a) v
 simp only[t5,k1,k2]
 refine af ?_
 unfold isInstance
 repeat (first|(with_reducible refine rp hx ?_;rw[hc])|with_reducible refine l1.at ?_|wp_step)
 exact q
theorem Iu {tk:Tok}{Q:Value->ah->Prop}(X:K.In h)(Z:DO K C)(I:kf h a o C none)(q:Q (.ref C) ⟨h,g,d,t,os⟩):wpAny (model prog w) A (getAttrBy (.ref a) (.str "__class__" tk) false) Q E ⟨h,g,d,t,os⟩:=by
 have hx:=I.at_
 have hc:=I.cls
 have f3:=F.attr_ValueError.ga.bind (.ref a)
 have y1:(sv "BaseException.__getattribute__" == sv "object.__getattribute__")=false:=by decide +kernel
 have y2:(onTheHeap (ku C)&&sv "BaseException.__getattribute__" == sv "object.__getattribute__")=false:=by rw[y1];rfl
 have l1:=ow (M:=model prog w) X Z.ga
 have l2:=ow (M:=model prog w) X Z.gt
 repeat (any_goals (first|assumption|(with_reducible refine rp hx ?_;rw[hc])|with_reducible refine l1.at ?_|with_reducible refine l2.at ?_|wp_step))
 refine vx F.attr_ValueError.ga.plain F.entry_bexc_ga (S4 X Z I (QN X Z I ?_))
 repeat (any_goals (first|assumption|wp_step))
theorem VE {Q:Option Value->ah->Prop}(X:K.In h)(Z:DO K C)(I:kf h a o C none)(q:Q (some (.ref C)) ⟨h,g,d,t+1,os⟩):wpAny (model prog w) A (getAttr? (.ref a) "__class__") Q E ⟨h,g,d,t,os⟩:=by
 unfold getAttr? getAttrBy?
 repeat (any_goals (first|assumption|with_reducible apply Iu X Z I|wp_step))
theorem QH {c:Value}{b:Bool}{aO:Int}{tk:Tok}{Q:Fin->ah->Prop}(X:K.In h)(Z:DO K C)(I:kf h a o C none)(ty:fz (model prog w) h (xk c) (.type "type"))(it:fz (model prog w) h (yw c) true)
 (ic:fz (model prog w) h (yw (.ref C)) true)(ne:(ku C==c)=false)(su:fz (model prog w) h (Pd (.ref C) c) b)(q:∀ tk,Q (.done (.ret (.bool b))) ⟨h,g,d,tk,os⟩):
 wpAny (model prog w) A (Builtin.«isinstance.nested» ⟨[.ref a,c,.int aO tk],[]⟩) Q E ⟨h,g,d,t,os⟩:=by
 have l0:=I.type (M:=model prog w)
 have li:fz (model prog w) h (isInstance (.ref a) c) b:=l0.andThen su
 unfold Builtin.«isinstance.nested»
 refine af (l0.at ?_)
 rw[if_neg (fun z=>by rw[ne]at z;cases z)]
 refine af (ty.at ?_)
 rw[if_pos (by decide)]
 k_delta"plainIsInstance"
 refine af (af (it.at ?_))
 simp only[b5,ai,if_false]
 refine af (li.at ?_)
 cases b with
 |true =>
 simp only[if_true]
 first
  |exact aw (q _)
  |exact aw (aw (q _))
  |exact af (aw (aw (q _)))
 |false =>
 simp only[ai,if_false]
 refine af (VE X Z I ?_)
 refine af (ic.at ?_)
 simp only[b5,ai,if_false]
 refine af (uv (su.at ?_))
 first
  |exact aw (q _)
  |exact aw (aw (q _))
  |exact af (aw (aw (q _)))
theorem Ek {c:Value}{b:Bool}{Q:Value->ah->Prop}{s:ah}(X:K.In s.heap)(Z:DO K C)(I:kf s.heap a o C none)(ty:∀ M,fz M s.heap (xk c) (.type "type"))(it:∀ M,fz M s.heap (yw c) true)
 (ic:∀ M,fz M s.heap (yw (.ref C)) true)(ne:(ku C==c)=false)(su:∀ M,fz M s.heap (Pd (.ref C) c) b)(q:∀ tk,Q (.bool b) { s with toks:=tk }):
 wpAny (model prog w) A (call (.builtin "isinstance") [.ref a,c]) Q E s :=
 call_isinstance (S:=fun _ R s'=>s'=s/\∀ tk,R (.ok (.ret (.bool b))) { s with toks:=tk })
 (fun _ _ _ _ s' hs=>by
  obtain⟨rfl,hs⟩:=hs
  obtain⟨h,g,d,t,os⟩:=s'
  exact isinstance_outer (QH (b:=b) X Z I (ty _) (it _) (ic _) ne (su _) hs) (fun z=>nomatch z)) ⟨rfl,q⟩
end
section
variable {prog:bq}{w:cq}{A:cg}{E:Value->ah->Prop}{s:ah}{env:Env}{nm q:Str}{C N:Addr}{bs bm:List Value}{hdct:Bool}{sn:List Str}{sub:List Value}{ab:Bool}{col:Option Bool}{dd:Option Addr}{k0 k1 k2 k3 k5:Option Value}{newId:String}
theorem SO {e:Addr}{t:b7}{n:Str}{b0:Stmt}{suite:List Stmt}{pos:Pos}{rest:List ExceptHandler}{Q:Flow->ah->Prop}(hb:bm.contains (.type "BaseException")=true)
 (h:wpAny (model prog w) (A.mark (some (.ref e))) (eval t env) (fun c s1=>c=.ref C/\s1.heap.get? C=some (excClassObj nm q C N bs bm hdct sn sub ab col dd k0 k1 k2 k3 k5 newId)/\(∃ oe,s1.heap.get? e=some oe/\oe.cls=.ref C) /\
  wpAny (model prog w) (A.mark (some (.ref e))) (wk (.ref e) none) (fun _ s2=>wpAny (model prog w) (A.mark (some (.ref e))) (Ox env n (.ref e)) (fun _ s3 =>
  wpAny (model prog w) (A.mark (some (.ref e))) (execs (b0::suite) env) (fun f s4=>wpAny (model prog w) A (do bindName env n .none;unbindBehindTheSuite env n pos) (fun _ s5=>Q f s5) E s4) (fun _ _=>False) s3) (fun _ _=>False) s2) (fun _ _=>False) s1) (fun _ _=>False) s):
 wpAny (model prog w) A (handleBy (.ref e) env (.ExceptHandler (some t) (some n) (b0::suite) pos::rest)) Q E s:=by
 refine wpAny_handleBy_cons (codeAny_handlers_test (ee h (fun c s1 h1=>?_) fun _ _ z=>z.elim)) (by intro z;cases z)
 obtain⟨rfl,hC,⟨oe,he,hc⟩,hk⟩:=h1
 obtain⟨hh,g,d,tk,os⟩:=s1
 exact wpAny_excMatches_sub_self hC he hc hb (codeAny_handlers_suite_as (ee hk (fun _ s2 h2=>ee h2 (fun _ s3 h3=>ee h3 (fun _ _ z=>z) fun _ _ z=>z.elim) fun _ _ z=>z.elim) fun _ _ z=>z.elim))
end
noncomputable def sA (a:Addr)(c:Value):HO:=.ext fun _ _ h=>∃ o vs,h.get? a=some o/\o.cls=c/\o.dict=none/\o.data=.fields vs
noncomputable def oB (a:Addr):HO:=.ext fun _ _ h=>∃ o vs,h.get? a=some o/\o.data=.fields vs
section
variable {P:bq}{w:cq}{H H0 H1:Hp}{h h0 h1 h2:Heap}{a T:Addr}{o:HO}{c:Value}{fs ex:List Addr}
theorem _root_.L2.fV.here (x:fV P w H h a o):∃ u,h.get? a=some u:=by
 cases o with
 |lst xs=>obtain⟨_,_,_,_,e⟩:=x;exact⟨_,e⟩
 |tup xs=>obtain⟨_,_,_,_,e,_⟩:=x;exact⟨_,e⟩
 |dK gU=>obtain⟨_,_,_,_,o,_,_,e,_⟩:=x;exact⟨_,e⟩
 |dT gU=>obtain⟨_,_,_,_,o,_,_,e,_⟩:=x;exact⟨_,e⟩
 |set S n=>obtain⟨o,_,_,_,e,_⟩:=x;exact⟨_,e⟩
 |ins C dx fs=>obtain⟨_,_,_,e,_⟩:=x;exact⟨_,e⟩
 |own y=>exact x
 |xd fs=>obtain⟨_,⟨_,_,_,e,_⟩,_⟩:=x;exact⟨_,e⟩
 |rng lo hi=>obtain⟨_,_,_,e⟩:=x;exact⟨_,e⟩
 |frz ob u=>exact⟨_,x.1⟩
 |tbl ps=>exact⟨_,x⟩
 |met f y=>exact⟨_,x⟩
 |ext φ=>exact x.2.1
theorem _root_.L2.dN.nothing (x:dN P w H h)(n:h.get? a=none):H a=none:=by
 cases q:H a with
 |none=>rfl
 |some u =>
 obtain⟨v,e⟩:=(x a u q).here
 rw[n]at e;cases e
theorem _root_.L2.dN.xS (x:dN P w H h)(n:H a=none)(new:fV P w (upd H a o) h a o):dN P w (upd H a o) h:=fun b u e=>by
 by_cases hb:b=a
 ·subst hb;rw[dH]at e;cases e;exact new
 ·rw[aZ hb]at e
  exact(x b u e).nX (fun _ _ _ q=>q) (fun c q=>by rw[aZ (cJ q n)];exact q) fun c xs q=>by rw[aZ (cJ q n)];exact q
theorem ET {oe:Obj}{vs:Array Value}(e:h.get? a=some oe)(e1:oe.cls=c)(e2:oe.dict=none)(e3:oe.data=.fields vs):fV P w H h a (sA a c) :=
 ⟨⟨oe,vs,e,e1,e2,e3⟩,⟨oe,e⟩,fun h1 h2 ⟨o,vs,q,r⟩ k=>⟨o,vs,k o q,r⟩⟩
theorem pZ {oe:Obj}{vs:Array Value}(e:h.get? a=some oe)(e3:oe.data=.fields vs):fV P w H h a (oB a) :=
 ⟨⟨oe,vs,e,e3⟩,⟨oe,e⟩,fun h1 h2 ⟨o,vs,q,r⟩ k=>⟨o,vs,k o q,r⟩⟩
theorem BR {b:Addr}{u o1 o2:HO}(n1:H1 a=none)(n2:H1 T=none)(e:H1 b=some u):upd (upd H1 a o1) T o2 b=H1 b:=by rw[aZ (cJ e n2),aZ (cJ e n1)]
theorem ZR (u:Un fs [] H0 H1 h0 h1)(n1:H1 a=none)(n2:H1 T=none)(g1:h0.get? a=none)(g2:h0.get? T=none){o1 o2:HO}:Un fs [] H0 (upd (upd H1 a o1) T o2) h0 h1 where
 keep:=u.keep
 slot:=u.slot
 free:=fun b o q n hx=>by
  have e1:b≠a:=fun z=>by rw[z,g1]at q;cases q
  have e2:b≠T:=fun z=>by rw[z,g2]at q;cases q
  rw[aZ e2,aZ e1];exact u.free b o q n hx
 there:=u.there
 iM:=fun b xs q=>by have:=u.iM b xs q;rw[BR n1 n2 this];exact this
 iA:=fun b o v q=>by have:=u.iA b o v q;rw[BR n1 n2 this];exact this
 iX:=fun b ps q=>by obtain⟨m,e⟩:=u.iX b ps q;exact⟨m,by rw[BR n1 n2 e];exact e⟩
theorem HV (u:Un fs [] H0 H1 h0 h1)(n1:H1 a=none)(g1:h0.get? a=none){o1:HO}:Un fs [] H0 (upd H1 a o1) h0 h1 where
 keep:=u.keep
 slot:=u.slot
 free:=fun b o q n hx=>by
  have e1:b≠a:=fun z=>by rw[z,g1]at q;cases q
  rw[aZ e1];exact u.free b o q n hx
 there:=u.there
 iM:=fun b xs q=>by have:=u.iM b xs q;rw[aZ (cJ this n1)];exact this
 iA:=fun b o v q=>by have:=u.iA b o v q;rw[aZ (cJ this n1)];exact this
 iX:=fun b ps q=>by obtain⟨m,e⟩:=u.iX b ps q;exact⟨m,by rw[aZ (cJ e n1)];exact e⟩
theorem Q1 {gs:List Addr}{L:Addr}(u:Un fs [] H0 H1 h0 h1)(b:eF gs [] h1 h2)(hg:∀ c∈gs,c=L∨c∈fs)(hL:h0.objs.size<=L):Un fs [] H0 H1 h0 h2 where
 keep:=fun c o q n hc hx=>b.keep c o (u.keep c o q n hc hx) (fun z=>by
  rcases hg c z with z|z
  ·rw[z]at q;exact absurd (a9 q) (Nat.not_lt.mpr hL)
  ·exact hc z) (by simp)
 slot:=fun c o q n hc hx=>by
  obtain⟨s1,e1⟩:=u.slot c o q n hc hx
  obtain⟨s2,e2⟩:=b.slot c _ e1 (by simp)
  exact⟨s2,e2⟩
 free:=u.free
 there:=fun c o q hx=>by
  obtain⟨o',e1⟩:=u.there c o q hx
  obtain⟨s2,e2⟩:=b.slot c _ e1 (by simp)
  exact⟨_,e2⟩
 iM:=u.iM
 iA:=u.iA
 iX:=u.iX
end
noncomputable def fG (P:bq)(w:cq)(C:Addr):qS:=fun outer H s E e s'=>∃ a T H',e=.ref a/\s'.os=s.os/\px s'.gens/\Un (eM outer) [] H H' s.heap s'.heap/\dN P w H' s'.heap /\
 H' a=some (sA a (.ref C))/\H' T=some (oB T)/\pP s'.heap a T (.ref C) .none/\E (.ref C) (some a) H'
abbrev As:List Value:=[.type "ValueError", .type "Exception", .type "BaseException", .type "object"]
structure mE (K:ae)(x:Str)(C:Addr):Prop where
 ns:fv K br x=some (some (.ref C))
 ex:xb K C As "ValueError.__new__" = true
 xc:DO K C
set_option tactic.hygienic true in
theorem mE.own {K:ae}{x:Str}{C:Addr}{h:Heap}{mg:Str->Option Value}(Z:mE K x C)(X:K.In h)(G:h.Ns br mg):OwnCls x C As "ValueError.__new__" mg h:=by
 have z:=Z.ex
 refine⟨PySem.W.mg_of X G Z.ns,?_⟩
 unfold xb at z
 split at z
 ·rename_i dd cd sl look
  split at z
  ·rename_i C' bm k0 k1 k2 k3 n k5 em es
   simp only[ay,beq_iff_eq,Bool.not_eq_true']at z
   obtain⟨⟨⟨⟨⟨rfl,rfl⟩,nodel⟩,tl⟩,okn⟩,ini⟩:=z
   obtain⟨nm,bs,mro,ns,qn,hd,sn,sub,ab,col,del⟩:=cd
   dsimp only at em nodel okn ini
   subst em nodel
   have esl:sl = #[k0,k1,k2,k3,some (.builtin "ValueError.__new__"),k5]:=by
    obtain⟨l⟩:=sl
    simp only at es
    rw[es]
   subst esl
   exact⟨bm,ns,nm,qn,bs,hd,sn,sub,ab,col,dd,k0,k1,k2,k3,k5,_,X _ _ look,.of_isNs (PySem.W.isNs_of_in X okn),PySem.W.nsMap_none_of_in X okn ini,PySem.W.tail_of_in X tl⟩
  ·cases z
 ·cases z
section
variable {P:bq}{w:cq}{K:ae}{mg:Str->Option Value}{base:Heap}{N:List Str}{qual:Str}{scope:Scope}{f C:Addr}{cd:Value}{A:cg}{outer:List Env}{s:ah}{H:Hp}{E:L2.XK}{x:Str}
theorem RU {np ap cp pos:Pos}{tx:Str}{j:Nat}(Z:mE K x C)(hg:scope.names.lookup x=some .globalImplicit)(hd:(x==("__debug__" : Str))=false):
  PS (cW (fG P w C) P w K mg base N qual scope f cd A outer s H E) (.Raise (some (.Call (.Name x np) [.Constant (.str tx) j ap] [] cp)) none pos)
   (fun D σ H'=>∀ a T,H' a=none->H' T=none->a≠T->E (.ref C) (some a) (upd (upd H' a (sA a (.ref C))) T (oB T))):=by
 intro pz s1 σ H1 D I hE
 obtain⟨hm,bm,Nn,nm,q,bs,hdct,sn,sub,ab,col,dd,k0,k1,k2,k3,k5,mN,hC,hN,hni,T⟩:=Z.own I.mod.kin I.mod.glob
 refine wpAny_Raise_call_subU (C:=C) (nm:=nm) (q:=q) (N:=Nn) (bs:=bs) (hdct:=hdct) (sn:=sn) (sub:=sub) (ab:=ab) (col:=col) (dd:=dd) (k0:=k0) (k1:=k1) (k2:=k2) (k3:=k3) (k5:=k5) vy (by decide) vy (T.hasType (by decide)) (I.ok.hd rfl) rfl hni ?_
 refine rH I hg hm ⟨rfl,?_⟩ hd
 have h2:=(oJ (NA (x:=tx) (j:=j) (pos:=ap)) AO) cp pz s1 σ H1 (fun vs H'=>vs.length=1/\H'=H1) I ⟨rfl,rfl⟩
 refine oo (bA h2 fun us s2 ⟨vs,H2,I2,r,hl,e2⟩=>?_)
 subst e2
 refine⟨rfl,?_,I2.bk _ _ hC,hN.keeps I2.bk,T.keeps I2.bk,fun h' e hm=>?_⟩
 ·have:=r.length
  show us.length<=sizeLine
  rw[<-this,hl];decide
 obtain⟨t,et,ht,htt⟩:=hm.there
 have hfr:(A.deeper (gh qual scope s.heap.objs.size f cd)).frames=some (gh qual scope s.heap.objs.size f cd::outer):=I2.ok.frames
 have fun2:=I2.stack
 have funs':h'.FunFrames base (gh qual scope s.heap.objs.size f cd::outer):=fun2.of_keeps fun b o q _=>⟨o,hm.keeps b o q,rfl⟩
 show wpAny (model P w) _ (wg _ (.ref e)) _ _ _
 unfold wg
 refine af (RO (base:=base) hfr funs' rfl et rfl rfl rfl fun h3 T b1 n1 f1=>wF f1 fun h4 b2 f2=>?_)
 have n1:h'.get? T=none:=n1
 have b1:eF (eM (gh qual scope s.heap.objs.size f cd::outer)) [e] h' h3:=b1
 have b2:eF [] [T] h3 h4:=b2
 have n2:s2.heap.get? T=none:=by
  cases z:s2.heap.get? T with
  |none=>rfl
  |some u=>rw[hm.keeps T u z]at n1;cases n1
 have B:eF (eM (gh qual scope s.heap.objs.size f cd::outer)) [] s2.heap h4:=(b1.trans b2.more).old hm.keeps fun b z=>.inr (by
  simp only[j1,bf]at z
  rcases z with rfl|rfl
  ·exact hm.new
  ·exact n2)
 have hH1:H2 e=none:=I2.bJ.nothing hm.new
 have hH2:H2 T=none:=I2.bJ.nothing n2
 have hgs:∀ c∈eM (gh qual scope s.heap.objs.size f cd::outer),c=s.heap.objs.size∨c∈eM outer:=fun c z=>by
  unfold eM at z ⊢
  rw[gb,show(gh qual scope s.heap.objs.size f cd).frame=some s.heap.objs.size from rfl]at z
  exact List.mem_cons.mp z
 have old:∀ b,s2.heap.get? b=none->s.heap.get? b=none:=fun b z=>by
  cases q:s.heap.get? b with
  |none=>rfl
  |some u =>
   obtain⟨v,e⟩:=I2.base.there b u q (by show b∉([]:List Addr);simp)
   rw[z]at e;cases e
 have u0:Un (eM outer) [] H H2 s.heap s2.heap:=I2.base
 have U:=Q1 u0 B hgs (bb _)
 have K4:dN P w H2 h4:=B.ok I2.bJ I2.mS (by simp)
 obtain⟨oe,vs,oT,ts,he,hc,hn,hdd,h1,hTe,hT,hdT,h3'⟩:=f2
 have ne:e≠T:=gp hTe
 refine⟨e,T,upd (upd H2 e (sA e (.ref C))) T (oB T),rfl,I2.os,I2.bare,ZR U hH1 hH2 (old e hm.new) (old T n2),?_,?_,dH,⟨oe,vs,oT,ts,he,hc,hn,hdd,h1,hTe,hT,hdT,h3'⟩,hE e T hH1 hH2 ne⟩
 ·exact(K4.xS hH1 (ET he hc hn hdd)).xS (by rw[aZ hTe];exact hH2) (pZ hT hdT)
 ·rw[aZ ne];exact dH
end
structure yG (K:ae)(C:Addr)(u:Value)(b:Bool):Prop where
 ty:∀(M:Model)(h:Heap),K.In h->fz M h (xk u) (.type "type")
 it:∀(M:Model)(h:Heap),K.In h->fz M h (yw u) true
 su:∀(M:Model)(h:Heap),K.In h->fz M h (Pd (.ref C) u) b
 ne:(ku C==u)=false
set_option tactic.hygienic true in
theorem PV {K:ae}{C:Addr}(e:(mn K C).isSome=true){M:Model}{h:Heap}(X:K.In h):fz M h (yw (.ref C)) true:=by
 unfold mn at e
 split at e
 ·rename_i ho
  intro A Q E s k q
  unfold yw loadHead
  exact af (wpAny_loadPart (k _ _ (X _ _ ho)) (aw q))
 ·cases e
theorem J4 {K:ae}{C C':Addr}{b:Bool}(n:(mn K C').isSome=true)(t:vz K (.ref C')=some (.type "type"))(s:jm K C (.ref C')=some b)(ne:Qv C C'=false):yG K C (.ref C') b :=
 ⟨fun _ _ X=>PySem.W.looks_typeIn X t,fun _ _ X=>PV n X,fun _ _ X=>pj X s,Bool.eq_false_iff.mpr fun q=>by
 rw[Value.ref.inj (beq_iff_eq.mp q)]at ne
 rw[Nat.beq_refl]at ne;cases ne⟩
theorem W8 {K:ae}{C:Addr}{b:Bool}(s:jm K C (.type "ValueError")=some b):yG K C (.type "ValueError") b :=
 ⟨fun _ _ _=>vi (by kernel_rfl),fun _ _ _=>vi rfl,fun _ _ X=>pj X s,rfl⟩
section
variable {X:Cx}{C:Addr}{u:Value}{v:V}{b:Bool}
theorem VO (Z:DO X.K C)(zc:(mn X.K C).isSome=true)(q:yG X.K C u b)(r:RelV v u)(ru:∀ u',RelV v u'->u'=u):
 oI X (.builtin "isinstance") (fun vs H Q=>∃ a,vs=[.ref a,v]/\H a=some (sA a (.ref C))/\Q (.bl b) H):=by
 intro pz s σ H xs us Q I rv h
 obtain⟨a,rfl,hH,hQ⟩:=h
 cases rv with
 |cons r1 rv =>
 cases rv with
 |cons r2 rv =>
 cases rv
 cases r1
 cases ru _ r2
 obtain⟨⟨o,vs,e,e1,e2,e3⟩,_,_⟩:=I.bJ a _ hH
 have inst:kf s.heap a o C none:=⟨e,e1,by unfold PySem.W.notCls;rw[e3],by rw[e2];trivial⟩
 exact Ek I.jQ Z inst (fun M=>q.ty M _ I.jQ) (fun M=>q.it M _ I.jQ) (fun M=>PV zc I.jQ) q.ne (fun M=>q.su M _ I.jQ) fun tk=>⟨.bl b,H,I.tok tk,rfl,hQ⟩
end
section
variable {P:bq}{w:cq}{H:Hp}{h h':Heap}{fs ex:List Addr}
theorem AX (B:eF fs ex h h')(hx:∀ b∈ex,H b≠none)(ht:∀ b∈ex,∃ o,h'.get? b=some o):Un fs [] H H h h' where
 keep:=fun b o q n hb _=>B.keep b o q hb fun z=>hx b z n
 slot:=fun b o q n _ _=>B.slot b o q fun z=>hx b z n
 free:=fun _ _ _ n _=>n
 there:=fun b o q _=>by
  by_cases z:b∈ex
  ·exact ht b z
  ·obtain⟨sl,e⟩:=B.slot b o q z;exact⟨_,e⟩
 iM:=fun _ _ q=>q
 iA:=fun _ _ _ q=>q
 iX:=fun _ ps q=>⟨#[],by rw[q];simp⟩
theorem A0 (x:dN P w H h)(B:eF fs ex h h')(hf:∀ b∈fs,H b=none)(hx:∀ b∈ex,∃ φ,H b=some (.ext φ))(hn:∀ b∈ex,∀ u,H b=some u->fV P w H h' b u):dN P w H h':=fun b u e=>by
 by_cases z:b∈ex
 ·exact hn b z u e
 ·refine(x b u e).nX (fun c v hc q=>B.keep c v q (fun y=>?_) fun y=>?_) (fun _ q=>q) fun _ _ q=>q
  ·have:=hf c y
   rcases hc with rfl|hc
   ·rw[this]at e;cases e
   ·rw[this]at hc;cases hc
  ·rcases hc with rfl|hc
   ·exact z y
   ·obtain⟨φ,w⟩:=hx c y
    rw[hc]at w;cases w
end
noncomputable abbrev mk (X:Cx)(a:Addr):Cx:={ X with A:=X.A.mark (some (.ref a)),calm:=false,xe:=fun _ _=>False }
theorem Ce {X:Cx}{pz:List (Addr×Obj)}{σ:L2.St}{H:Hp}{s:ah}{a:Addr}(I:Inv X pz σ H s):Inv (mk X a) pz σ H s :=
 ⟨⟨I.ok.mod,I.ok.kind,I.ok.glob,I.ok.blt,I.ok.above,I.ok.inj,I.ok.has,I.ok.cab,fun z=>(nomatch z),I.ok.frames,I.ok.stk,I.ok.exf,I.ok.bs,I.ok.bsz,I.ok.noex,I.ok.exfs,I.ok.kG,I.ok.frf⟩,I.os,I.bare,I.base,I.loc,I.cell,I.free,I.jG,I.pin,I.bJ,I.len⟩
theorem PN {X:Cx}{pz:List (Addr×Obj)}{σ:L2.St}{H:Hp}{s:ah}{a:Addr}{h':Heap}{m:Str->Option Value}{t:Nat}(ok:X.Ok)(I:Inv (mk X a) pz σ H s)(hn:h'.Ns X.env.locals m)(hs:j2 X.env.locals s.heap h'):
  Inv X pz (ao X.N.length none) H { s with heap:=h',toks:=t }:=by
 have far:∀{b:Addr}{o:Obj},X.s₀.heap.get? b=some o->b≠X.env.locals:=fun e=>bj (bu (a9 e) ok.above)
 refine⟨ok,I.os,I.bare,⟨fun b o e n hb hx=>(hs.2 b (far e)).trans (I.base.keep b o e n hb hx),fun b o e n hb hx=>?_,I.base.free,fun b o e hx=>?_,I.base.iM,I.base.iA,I.base.iX⟩,⟨m,hn,fun i x v _ e _=>?_⟩,fun y c e=>?_,I.free,I.jG,fun p hp=>?_,fun b u e=>?_,by simp⟩
 ·obtain⟨sl,q⟩:=I.base.slot b o e n hb hx
  exact⟨sl,(hs.2 b (far e)).trans q⟩
 ·obtain⟨o',q⟩:=I.base.there b o e hx
  exact⟨o',(hs.2 b (far e)).trans q⟩
 ·rw[fw]at e
  split at e<;>cases e
 ·obtain⟨v,z⟩:=I.cell y c e
  exact⟨v,z.sameBut hs (I.xZ y c e)⟩
 ·obtain⟨e,n,ne,nf,d⟩:=I.pin p hp
  exact⟨(hs.2 p.1 ne).trans e,n,ne,nf,d⟩
 ·have fr:H X.env.locals=none:=I.free
  refine(I.bJ b u e).nX (fun c v hc q=>(hs.2 c fun z=>?_).trans q) (fun _ q=>q) fun _ _ q=>q
  rcases hc with rfl|hc
  ·rw[z,fr]at e;cases e
  ·rw[z,fr]at hc;cases hc
section
variable {X:Cx}{pz:List (Addr×Obj)}{σ:L2.St}{H:Hp}{s:ah}
set_option tactic.hygienic true in
theorem zI {K:ae}:∀{ds:List D}{ws:List (List Nat)}{vs:List V}{us:List Value},strsOf ds=some ws->aJ K H ds vs->aR vs us->StrsAre us (ws.map fun w=>⟨w.toArray⟩)
 |[],ws,vs,us,h,r,v=>by
  cases h;cases r;cases v;exact .nil
 |d::ds,ws,vs,us,h,r,v=>by
  cases d<;>first|(simp only[strsOf]at h;cases h;done)|skip
  rename_i x
  simp only[strsOf,cb]at h
  obtain⟨ws',h',rfl⟩:=h
  cases r with
  |cons r1 r2 =>
   cases r1.str_inv
   cases v with
   |cons v1 v2 =>
    obtain⟨t,rfl⟩:=v1
    exact .cons _ t (zI h' r2 v2)
theorem zN (s:List Nat):∀ ws:List (List Nat),v5 ⟨s.toArray⟩ (ws.map fun w=>⟨w.toArray⟩)=⟨(cY s ws).toArray⟩
 |[]=>rfl
 |[w]=>rfl
 |w::v::r=>by
  have ih:=zN s (v::r)
  rw[az]at ih
  rw[az,az]
  show(⟨w.toArray⟩:Str)++⟨s.toArray⟩++v5 ⟨s.toArray⟩ (⟨v.toArray⟩::r.map fun w=>⟨w.toArray⟩)=_
  rw[ih,B6,B6]
  rfl
theorem BM:∀ ws:List (List Nat),((ws.map fun w=>(⟨w.toArray⟩:Str)).map (·.length)).sum=(ws.map jk).sum
 |[]=>rfl
 |w::r=>by
  have:=BM r
  simp only[az,sy,this]
  simp [c7]
set_option tactic.hygienic true in
theorem U9:tW X "str" "str.join" (dZ .join):=by
 intro pz s σ H st d ds v vs u us R I ok r rv rs rvs q
 cases d<;>first|exact(show False from q).elim|skip
 rename_i sep
 match ds,q with
 |[d],q =>
  cases r.str_inv
  obtain⟨t,rfl⟩:=rv
  obtain⟨w,rfl,rd⟩:=rs.one
  have q:pF d st fun ds=>cP (strsOf ds) fun ws=>(ws.map jk).sum+ws.length*sep.length<=aK/\R (.str (cY sep ws)) st:=q
  cases d<;>first|exact(show False from q).elim|skip
  ·obtain⟨b,ys,rfl,f,g⟩:=rd.bK
   obtain⟨uu,rfl,ru⟩:=rvs.one
   cases ru
   obtain⟨ws,e,q1,q2⟩:=gL (show cP _ _ from q)
   obtain⟨aD,r1,p1,_⟩:=I.tuple f
   refine join_tuple p1 (zI e g (by simpa using r1)) ?_ fun t' k=>?_
   ·rw[BM,aa];simpa [c7]using q1
   ·rw[show Txt.join (⟨sep.toArray⟩:Str) _=v5 ⟨sep.toArray⟩ _ from vj _ _,zN]
    exact⟨.str _,H,I.tok _,⟨_,rfl⟩,.here ok (.str _) q2⟩
  ·cases rd.dQ
   obtain⟨uu,rfl,ru⟩:=rvs.one
   cases ru
   obtain⟨xs,e0,q⟩:=cV (st:=st) q
   obtain⟨ws,e,q1,q2⟩:=gL q
   obtain⟨ys,g1,g2⟩:=ok.lst e0
   obtain⟨z,aD,n,r1,hl,eh⟩:=I.qE g1
   refine join_list (items:=aD.toArray) ⟨_,eh,rfl,n,rfl⟩ (zI e g2 (by simpa using r1)) ?_ fun t' k=>?_
   ·rw[BM,aa];simpa [c7]using q1
   ·rw[show Txt.join (⟨sep.toArray⟩:Str) _=v5 ⟨sep.toArray⟩ _ from vj _ _,zN]
    exact⟨.str _,H,I.tok _,⟨_,rfl⟩,.here ok (.str _) q2⟩
 |[],q=>exact(show False from q).elim
 |_::_::_,q=>exact(show False from q).elim
end
section
variable {X:Cx}{C:aS}{sub:Nat->Nat->Bool}{E:XK}{a b c e o:b7}{x y z:Ex}{pos apos gD:Pos}
theorem wQ {m:MT}{name:Str}{id:String}{es:List b7}{xs:List Ex}(hrc:∀ d st,mP m d st->∃ z,d=.str z)(slot:Slot "str" name id)(hty:xk (.builtin id)=pure (.type "method_descriptor"))(hm:tW X "str" id (dZ m))(ho:PE X o (bT X.K (aF C sub E x)))(ha:PA X (e::es) (jP X.K (bC C sub E xs)))
 (eQ:gk o name X.env (eval o X.env)=eval o X.env)
 (jZ:((dq gD (ar (e::es) X.env)).all (fun x=>!x.1)&&(om gD (kg [] X.env)).all (fun x=>x.1.isSome)&&decide ((e::es).length+([]:List j4).length+(if([]:List j4).isEmpty then 0 else 1)<30))=true)(eT:(apos.endLine==gD.line)=true)
 (hs:ar (e::es) X.env=(false,eval e X.env)::ar es X.env)(gE:(dq gD (ar es X.env)).any (·.1)=false):
 PE X (.Call (.Attribute o name apos) (e::es) [] gD) (bT X.K (aF C sub E (.bX m x xs))) :=
 (T6 PySem.F.plainAttrs_str slot hty hm.mt ho ha eQ jZ eT hs gE).imp fun σ H Q ⟨σd,st,R,r,ok,q,hq⟩=>by
 refine⟨σd,st,_,r,ok,q,fun v H1 ⟨d,aC,s1,aU,r1,q1⟩=>⟨?_,?_⟩⟩
 ·obtain⟨z,rfl⟩:=hrc _ _ q1.1
  cases r1.str_inv
  rfl
 refine⟨σd,aC,_,r.step ok s1,aU,q1.2,fun vs H2 ⟨ds,aG,s2,cI,r2,q2⟩=>?_⟩
 exact⟨d,ds,aG,R,r1.step aU s2,r2,cI,q2,fun v H' z=>hq _ _ (.after (s1.trans s2) z)⟩
end
end L3
end
section
namespace L3
open PySem PySem.Spec PyProof.Rows PyProof.V L2
section
variable {X:Cx}{C:aS}{sub:Nat->Nat->Bool}{E:XK}{a b c e o:b7}{es:List b7}{x y z:Ex}{xs:List Ex}{pos apos gD:Pos}
theorem JV (ho:JE X C sub E o x)(ha:JA X C sub E (e::es) xs)(eQ:gk o "join" X.env (eval o X.env)=eval o X.env:=by kernel_rfl)
 (jZ:((dq pos (ar (e::es) X.env)).all (fun x=>!x.1)&&(om pos (kg [] X.env)).all (fun x=>x.1.isSome)&&decide ((e::es).length+([]:List j4).length+(if([]:List j4).isEmpty then 0 else 1)<30))=true:=by kernel_rfl)(eT:(apos.endLine==pos.line)=true:=by kernel_rfl)
 (hs:ar (e::es) X.env=(false,eval e X.env)::ar es X.env:=by kernel_rfl)(gE:(dq pos (ar es X.env)).any (·.1)=false:=by kernel_rfl):
 JE X C sub E (.Call (.Attribute o "join" apos) (e::es) [] pos) (.bX .join x xs) :=
 ⟨wQ (fun d st h=>by cases d<;>first|exact(show False from h).elim|exact⟨_,rfl⟩) PySem.F.slot_str_join PySem.F.type_str_join U9 ho.h ha.h eQ jZ eT hs gE⟩
end
end L3
end
section
namespace L3
theorem pL (c:Nat)(s:List Nat):aW c s≠[]:=by
 cases s with
 |nil=>simp [aW]
 |cons x s =>
 simp only[aW]
 split
 ·simp
 ·split<;>simp
theorem join_cons {c:Nat}{w:List Nat}{r:List (List Nat)}(h:r≠[]):cY [c] (w::r)=w++c::cY [c] r:=by
 cases r with
 |nil=>exact absurd rfl h
 |cons v r=>simp [cY]
set_option tactic.hygienic true in
theorem join_split (c:Nat):∀ s:List Nat,cY [c] (aW c s)=s
 |[]=>rfl
 |x::s=>by
  have ih:=join_split c s
  simp only[aW]
  split
  ·rename_i e
   rw[join_cons (pL c s),ih,e];rfl
  ·cases h:aW c s with
   |nil=>exact absurd h (pL c s)
   |cons w r =>
    rw[h]at ih
    dsimp only
    cases r with
    |nil=>simp only[cY]at ih ⊢;rw[ih]
    |cons v r=>simp only[cY,jq]at ih ⊢;rw[ih]
theorem qJ (c:Nat):∀ w:List Nat,c∉w->aW c w=[w]
 |[],_=>rfl
 |x::w,h=>by
  simp only[bh,not_or]at h
  simp only[aW,qJ c w h.2]
  rw[if_neg (fun z=>h.1 z.symm)]
theorem vJ (c:Nat)(s:List Nat):∀ w:List Nat,c∉w->aW c (w++c::s)=w::aW c s
 |[],_=>by simp [aW]
 |x::w,h=>by
  simp only[bh,not_or]at h
  simp only[jq,aW,vJ c s w h.2]
  rw[if_neg (fun z=>h.1 z.symm)]
theorem oF (c:Nat):∀ ws:List (List Nat),ws≠[]->(∀ w∈ws,c∉w)->aW c (cY [c] ws)=ws
 |[],h,_=>absurd rfl h
 |[w],_,h=>by simp only[cY];exact qJ c w (h w (by simp))
 |w::v::r,_,h=>by
  rw[join_cons (by simp),vJ c _ w (h w (by simp)),oF c (v::r) (by simp) fun x hx=>h x (by simp [hx])]
theorem VD (w:List Nat)(c:Nat):val (w++[c])=10*val w+(c-48):=by simp [val,List.foldl_append]
theorem AM (n:Nat):val (dg n)=n:=by
 induction n using vc with
 |_ n ih =>
 unfold dg
 split
 ·simp [val]
 ·rw[VD,ih (n / 10) (by omega)];omega
theorem R5 (n:Nat):(dg n).all lV=true:=by
 induction n using vc with
 |_ n ih =>
 unfold dg
 split
 ·simp only[ik,Pp,lV];simp;omega
 ·rw[List.all_append,ih (n / 10) (by omega)]
  simp only[ik,Pp,lV];simp;omega
theorem TR (n:Nat):dg n≠[]:=by unfold dg;split<;>simp
theorem BB {n:Nat}(h:n<100):(dg n).length<=2:=by
 unfold dg
 split
 ·simp
 ·unfold dg
  rw[if_pos (by omega)];simp
theorem NJ {n c:Nat}(hc:lV c=false):c∉dg n:=fun h=>by
 have:=List.all_eq_true.mp (R5 n) c h
 rw[hc]at this;cases this
noncomputable abbrev Wy:=List Bool×Nat
noncomputable def hZ (b:Bool):Nat:=if b then 49 else 48
noncomputable def gO (x:Wy):List Nat:=x.1.map hZ++62::dg x.2
noncomputable def jR (xs:List Wy):List Nat:=cY [32] (xs.map gO)
noncomputable def kD (m:List (List Wy)):List Nat:=(m.map fun xs=>jR xs++[10]).flatten
theorem FV {c:Nat}(h0:c≠48)(h1:c≠49)(bs:List Bool):c∉bs.map hZ:=fun h=>by
 obtain⟨b,_,e⟩:=List.mem_map.mp h
 cases b<;>simp [hZ]at e<;>omega
theorem T5 {c:Nat}(h0:lV c=false)(h1:c≠62)(x:Wy):c∉gO x:=by
 unfold gO
 simp only[j1,bh,not_or]
 refine⟨FV (fun z=>by rw[z]at h0;cases h0) (fun z=>by rw[z]at h0;cases h0) _,h1,NJ h0⟩
theorem KA {c s:Nat}(hc:c≠s):∀ ws:List (List Nat),(∀ w∈ws,c∉w)->c∉cY [s] ws
 |[],_=>by simp [cY]
 |[w],h=>by simp only[cY];exact h w (by simp)
 |w::v::r,h=>by
  rw[join_cons (by simp)]
  simp only[j1,bh,not_or]
  exact⟨h w (by simp),hc,KA hc (v::r) fun x hx=>h x (by simp [hx])⟩
theorem Hg (xs:List Wy):10∉jR xs:=KA (by decide) _ fun w hw=>by
 obtain⟨x,_,rfl⟩:=List.mem_map.mp hw
 exact T5 (by decide) (by decide) x
theorem IC {xs:List Wy}(h:xs≠[]):aW 32 (jR xs)=xs.map gO:=oF 32 _ (by simpa using h) fun w hw=>by
 obtain⟨x,_,rfl⟩:=List.mem_map.mp hw
 exact T5 (by decide) (by decide) x
theorem sZ:∀ m:List (List Wy),m≠[]->kD m=cY [10] (m.map jR)++[10]
 |[],h=>absurd rfl h
 |[xs],_=>by simp [kD,cY]
 |xs::ys::r,_=>by
  have ih:=sZ (ys::r) (by simp)
  rw[az,join_cons (by simp)]
  unfold kD at ih ⊢
  rw[az,gg,ih]
  simp
theorem FP {m:List (List Wy)}(h:m≠[]):aW 10 (kD m).dropLast=m.map jR:=by
 rw[sZ m h,List.dropLast_concat]
 exact oF 10 _ (by simpa using h) fun w hw=>by
  obtain⟨x,_,rfl⟩:=List.mem_map.mp hw
  exact Hg x
theorem KC {m:List (List Wy)}(h:m≠[]):(kD m).getLast? = some 10:=by rw[sZ m h,v7]
def C4 (f w:Nat)(m:List (List Wy)):Prop:=1<=m.length/\m.length<=64/\∀ xs∈m,xs.length=w/\∀ x∈xs,x.1.length=f/\x.2<m.length
noncomputable def tY (s:List Nat):Option Wy:=if((part 62 s).2.length<1∨2<(part 62 s).2.length)∨(part 62 s).2.all lV=false then none else some ((part 62 s).1.map fun c=>decide (c=49),val (part 62 s).2)
noncomputable def bP {α β:Type}(g:α->Option β):List α->Option (List β)
 |[]=>some []
 |a::r=>(g a).bind fun b=>(bP g r).map (b :: ·)
noncomputable def xU (s:List Nat):Option (List Wy):=bP tY (aW 32 s)
noncomputable def CQ (T:List Nat):Option (List (List Wy)):=if T.getLast? = some 10 then bP xU (aW 10 T.dropLast)else none
theorem SK {c:Nat}{a b:List Nat}(h:c∉a):part c (a++c::b)=(a,b):=by
 induction a with
 |nil=>simp [part]
 |cons x a ih =>
 simp only[bh,not_or]at h
 have ih:=ih h.2
 unfold part at ih ⊢
 have e:(x != c)=true:=by simpa using fun z=>h.1 z.symm
 rw[jq,List.takeWhile_cons,List.dropWhile_cons,e]
 simp only[if_true,Prod.mk.injEq]at ih ⊢
 exact⟨by rw[ih.1],ih.2⟩
theorem C8 (bs:List Bool):(bs.map hZ).map (fun c=>decide (c=49))=bs:=by
 induction bs with
 |nil=>rfl
 |cons b r ih=>simp only[az,ih];cases b<;>simp [hZ]
theorem lH {α β γ:Type}{g:β->Option γ}{f:α->β}{h:α->γ}:∀{xs:List α},(∀ x∈xs,g (f x)=some (h x))->bP g (xs.map f)=some (xs.map h)
 |[],_=>rfl
 |x::r,q=>by
  have ih:=lH (xs:=r) fun y hy=>q y (ek _ hy)
  simp only[az,bP,q x (fb ..),dt,ih,pe]
theorem Gd {x:Wy}(h:x.2<100):tY (gO x)=some x:=by
 unfold tY gO
 rw[SK (FV (by decide) (by decide) _)]
 have l1:=BB h
 have l0:1<=(dg x.2).length:=by
  cases e:dg x.2 with
  |nil=>exact absurd e (TR _)
  |cons _ _=>simp
 rw[if_neg (by
  dsimp only
  rintro((z|z)|z)
  ·omega
  ·omega
  ·rw[R5]at z;cases z)]
 simp only[C8,AM]
theorem Jd {xs:List Wy}(hn:xs≠[])(h:∀ x∈xs,x.2<100):xU (jR xs)=some xs:=by
 unfold xU
 rw[IC hn]
 have:=lH (g:=tY) (f:=gO) (h:=fun x=>x) (xs:=xs) fun x hx=>Gd (h x hx)
 simpa using this
theorem Fd {f w:Nat}(hw:1<=w){m:List (List Wy)}(h:C4 f w m):CQ (kD m)=some m:=by
 have hn:m≠[]:=fun z=>by rw[z]at h;exact absurd h.1 (by decide)
 unfold CQ
 rw[KC hn,if_pos rfl,FP hn]
 have:=lH (g:=xU) (f:=jR) (h:=fun x=>x) (xs:=m) fun xs hx=>Jd (fun z=>by have:=(h.2.2 xs hx).1;rw[z]at this;simp at this;omega) fun x hx'=>by have:=(h.2.2 xs hx).2 x hx';have:=h.2.1;omega
 simpa using this
noncomputable def pU (f n:Nat)(s:List Nat):Option Wy:=match aW 62 s with
 |[a,b]=>if a.length=f/\(a.all fun c=>c==48||c==49)=true/\b∈(bc n).map dg then some (a.map fun c=>decide (c=49),val b)else none
 |_=>none
noncomputable def zX (f w n:Nat)(s:List Nat):Option (List Wy):=(bP (pU f n) (aW 32 s)).bind fun xs=>if xs.length=w then some xs else none
noncomputable def rS (f w:Nat)(T:List Nat):Option (List (List Wy)):=if T.getLast? = some 10 then(if(aW 10 T.dropLast).length<=64 then bP (zX f w (aW 10 T.dropLast).length) (aW 10 T.dropLast)else none)else none
theorem Gs {f n:Nat}{x:Wy}(h1:x.1.length=f)(h2:x.2<n):pU f n (gO x)=some x:=by
 unfold pU gO
 rw[vJ 62 _ _ (FV (by decide) (by decide) _),qJ 62 _ (NJ (by decide))]
 dsimp only
 rw[if_pos]
 ·simp only[C8,AM]
 ·refine⟨by simpa using h1,?_,List.mem_map.mpr ⟨x.2,List.mem_range.mpr h2,rfl⟩⟩
  rw[km]
  exact List.all_eq_true.mpr fun b _=>by cases b<;>rfl
theorem TF {f w:Nat}(hw:1<=w){m:List (List Wy)}(h:C4 f w m):rS f w (kD m)=some m:=by
 have hn:m≠[]:=fun z=>by rw[z]at h;exact absurd h.1 (by decide)
 unfold rS
 rw[KC hn,if_pos rfl,FP hn,aa,if_pos h.2.1]
 have:=lH (g:=zX f w m.length) (f:=jR) (h:=fun x=>x) (xs:=m) fun xs hx=>by
  obtain⟨l,q⟩:=h.2.2 xs hx
  have ne:xs≠[]:=fun z=>by rw[z]at l;simp at l;omega
  unfold zX
  rw[IC ne]
  have e:=lH (g:=pU f m.length) (f:=gO) (h:=fun x=>x) (xs:=xs) fun x hx'=>Gs (q x hx').1 (q x hx').2
  rw[e]
  simp only[dt,List.map_id']
  rw[if_pos l]
 simpa using this
theorem qG {α β:Type}{g:α->Option β}{f:β->α}{P:β->Prop}:∀{as:List α}{bs:List β},(∀ a b,g a=some b->f b=a/\P b)->bP g as=some bs->bs.map f=as/\∀ b∈bs,P b
 |[],bs,_,h=>by cases h;exact⟨rfl,by simp⟩
 |a::as,bs,q,h=>by
  simp only[bP,gz,cb]at h
  obtain⟨b,h1,bs',h2,rfl⟩:=h
  obtain⟨e1,p1⟩:=q a b h1
  obtain⟨e2,p2⟩:=qG q h2
  refine⟨by rw[az,e1,e2],fun x hx=>?_⟩
  rcases List.mem_cons.mp hx with rfl|hx
  ·exact p1
  ·exact p2 x hx
theorem U1 {a:List Nat}(h:(a.all fun c=>c==48||c==49)=true):(a.map fun c=>decide (c=49)).map hZ=a:=by
 induction a with
 |nil=>rfl
 |cons c r ih =>
 simp only[ik,ay,i9,beq_iff_eq]at h
 simp only[az,ih h.2]
 rcases h.1 with e|e<;>subst e<;>simp [hZ]
set_option tactic.hygienic true in
theorem QW {f n:Nat}{s:List Nat}{x:Wy}(h:pU f n s=some x):gO x=s/\x.1.length=f/\x.2<n:=by
 unfold pU at h
 split at h
 ·rename_i a b e
  split at h
  ·rename_i hc
   cases h
   obtain⟨k,hk,rfl⟩:=List.mem_map.mp hc.2.2
   have j:=join_split 62 s
   rw[e]at j
   simp only[cY]at j
   refine⟨?_,by simpa using hc.1,by rw[AM];exact List.mem_range.mp hk⟩
   unfold gO
   rw[U1 hc.2.1,AM,<-j]
   simp
  ·cases h
 ·cases h
theorem iC {α β:Type}{g:α->Option β}:∀{as:List α}{bs:List β},bP g as=some bs->bs.length=as.length
 |[],bs,h=>by cases h;rfl
 |a::as,bs,h=>by
  simp only[bP,gz,cb]at h
  obtain⟨b,h1,bs',h2,rfl⟩:=h
  simp [iC h2]
set_option tactic.hygienic true in
theorem R6 {f w:Nat}{T:List Nat}{m:List (List Wy)}(h:rS f w T=some m):kD m=T/\C4 f w m:=by
 unfold rS at h
 split at h
 ·rename_i hl
  split at h
  ·rename_i h64
   have len:=iC h
   have hs:=qG (f:=jR) (P:=fun xs=>xs.length=w/\∀ x∈xs,x.1.length=f/\x.2<(aW 10 T.dropLast).length) (fun a b q=>by
    unfold zX at q
    simp only[gz]at q
    obtain⟨xs,q1,q2⟩:=q
    split at q2
    ·rename_i lw
     cases q2
     have:=qG (f:=gO) (P:=fun x=>x.1.length=f/\x.2<(aW 10 T.dropLast).length) (fun a b z=>QW z) q1
     exact⟨by unfold jR;rw[this.1,join_split],lw,this.2⟩
    ·cases q2) h
   have ne:m≠[]:=fun z=>by
    rw[z]at len
    exact pL 10 T.dropLast (List.length_eq_zero_iff.mp len.symm)
   refine⟨?_,?_,by omega,fun xs hx=>?_⟩
   ·rw[sZ m ne,hs.1,join_split]
    obtain⟨ys,e⟩:=List.getLast?_eq_some_iff.mp hl
    rw[e];simp
   ·cases m with
    |nil=>exact absurd rfl ne
    |cons _ _=>simp
   ·rw[len];exact hs.2 xs hx
  ·cases h
 ·cases h
open Classical in
noncomputable def wA (f w:Nat)(T:List Nat):Option (List (List Wy)):=(CQ T).bind fun m=>if C4 f w m/\kD m=T then some m else none
set_option tactic.hygienic true in
theorem M1 {f w:Nat}(hw:1<=w)(T:List Nat):wA f w T=rS f w T:=by
 cases h:rS f w T with
 |some m =>
  obtain⟨e,ok⟩:=R6 h
  unfold wA
  rw[<-e,Fd hw ok,dt,if_pos ⟨ok,rfl⟩]
 |none =>
  cases h':wA f w T with
  |none=>rfl
  |some m =>
   unfold wA at h'
   simp only[gz]at h'
   obtain⟨m',_,q⟩:=h'
   split at q
   ·rename_i ok
    cases q
    rw[<-ok.2,TF hw ok.1]at h;cases h
   ·cases q
end L3
end
section
namespace L3
open PySem PySem.Spec PyProof.Rows PyProof.V L2
theorem FK:∀ d:Nat,d<10->(xf d).toNat=48+d:=by decide
set_option tactic.hygienic true in
theorem M4 (n:Nat):(uy 10 n).map Char.toNat=dg n:=by
 induction n using vc with
 |_ n ih =>
 unfold dg
 split
 ·rename_i h
  rw[ua h]
  show[(xf n).toNat]=_
  rw[FK n h]
 ·rename_i h
  have hm:n % 10<10:=Nat.mod_lt n (by decide)
  have t:uy 10 (n / 10)++uy 10 (n % 10)=uy 10 (10*(n / 10)+n % 10):=Nat.toDigits_append_toDigits (by decide) (by omega) hm
  rw[Nat.div_add_mod]at t
  rw[<-t,dr,ua hm,ih (n / 10) (by omega)]
  show _++[(xf (n % 10)).toNat]=_
  rw[FK _ hm]
theorem AU (c:Nat):∀ ps:List Str,(v5 ⟨#[c]⟩ ps).cps.toList=cY [c] (ps.map fun p=>p.cps.toList)
 |[]=>rfl
 |[p]=>rfl
 |p::q::r=>by
  have ih:=AU c (q::r)
  show((p++(⟨#[c]⟩:Str))++v5 ⟨#[c]⟩ (q::r)).cps.toList=_
  rw[Oe,ph,ih,Oe,ph]
  rfl
theorem FR (x:List Nat)(c:Nat):(qe ⟨x.toArray⟩ ⟨#[c]⟩).map (fun p=>p.cps.toList)=aW c x:=by
 have h1:=congrArg (fun p:Str=>p.cps.toList) (StrLaws.join_split ⟨x.toArray⟩ ⟨#[c]⟩)
 dsimp only at h1
 rw[AU]at h1
 have h2:=StrLaws.split_free ⟨x.toArray⟩ c
 have h3:qe ⟨x.toArray⟩ ⟨#[c]⟩≠[]:=by
  unfold qe
  split
  ·simp
  ·split
   ·simp
   ·rw[StrLaws.partsBetween_eq]
    obtain⟨p,r,e⟩:=StrLaws.partsFrom_ne ⟨x.toArray⟩ (⟨#[c]⟩:Str).length 0 (ef ⟨x.toArray⟩ ⟨#[c]⟩ 0 (⟨x.toArray⟩:Str).length ((⟨x.toArray⟩:Str).length+1))
    rw[e];simp
 generalize qe ⟨x.toArray⟩ ⟨#[c]⟩=ps at *
 have h1:cY [c] (ps.map fun p=>p.cps.toList)=x:=by simpa using h1
 rw[<-h1]
 exact(oF c _ (by simpa using h3) fun w hw=>by
  obtain⟨p,hp,rfl⟩:=List.mem_map.mp hw
  exact h2 p hp).symm
theorem VP (x:List Nat)(c:Nat):(j9 ⟨x.toArray⟩ ⟨#[c]⟩).1.cps.toList=(part c x).1/\(j9 ⟨x.toArray⟩ ⟨#[c]⟩).2.1.cps.toList=(if x.any (·== c)=true then[c]else[])/\(j9 ⟨x.toArray⟩ ⟨#[c]⟩).2.2.cps.toList=(part c x).2:=by
 unfold j9 part
 rcases StrLaws.occ_head ⟨x.toArray⟩ ⟨#[c]⟩ 1 (bb 1)with⟨h0,hn⟩|⟨i,r,h0,hi,hn⟩
 ·have hfree:c∉x:=fun hm=>by
   obtain⟨j,hj⟩:=List.getElem?_of_mem hm
   exact hn j ((rq ⟨x.toArray⟩ c j).mpr (by simpa using hj))
  rw[h0]
  have e1:x.any (·== c)=false:=by
   rw[rz];intro y hy z;exact hfree (by rw[<-beq_iff_eq.mp z];exact hy)
  have e2:∀ l:List Nat,c∉l->l.takeWhile (·!= c)=l:=fun l=>by
   induction l with
   |nil=>intro _;rfl
   |cons y l ih =>
    intro h
    simp only[bh,not_or]at h
    rw[qs (by simpa using fun z=>h.1 z.symm),ih h.2]
  refine⟨by simp [e2 x hfree],by rw[e1];rfl,by rw[dropWhile_none hfree];rfl⟩
 ·have hm:x[i]? = some c:=by have:=(rq ⟨x.toArray⟩ c i).mp hi;simpa using this
  have hk:∀ k,k<i->x[k]?≠some c:=fun k hk e=>hn k hk ((rq ⟨x.toArray⟩ c k).mpr (by simpa using e))
  rw[h0]
  have e1:x.any (·== c)=true:=List.any_eq_true.mpr ⟨c,cw hm,by simp⟩
  have e2:∀(l:List Nat)(i:Nat),l[i]? = some c->(∀ k,k<i->l[k]?≠some c)->l.takeWhile (·!= c)=l.take i:=fun l=>by
   induction l with
   |nil=>intro i h;simp at h
   |cons y l ih =>
    intro i h hn
    cases i with
    |zero =>
     have e:y=c:=by simpa using h
     rw[List.takeWhile_cons_of_neg (by simp [e])];rfl
    |succ i =>
     have h1:y≠c:=fun e=>hn 0 (by omega) (by simp [e])
     rw[qs (by simp [h1]),ih i (by simpa using h) fun k hk=>by have:=hn (k+1) (by omega);simpa using this]
     rfl
  refine⟨?_,by rw[e1];rfl,?_⟩
  ·rw[e2 x i hm hk]
   show(xr ⟨x.toArray⟩ 0 i).cps.toList=_
   rw[vk];simp
  ·rw[dropWhile_at hm hk]
   show(xr ⟨x.toArray⟩ (i+1) (⟨x.toArray⟩:Str).length).cps.toList=_
   rw[vk]
   simp only[c7]
   exact kn (by simp)
theorem YK (z w:List Nat):Pq ⟨z.toArray⟩ ⟨w.toArray⟩=w.isSuffixOf z:=by
 unfold Pq
 rw[StrLaws.subAt_eq]
 have l1:(⟨z.toArray⟩:Str).length=z.length:=by simp [c7]
 have l2:(⟨w.toArray⟩:Str).length=w.length:=by simp [c7]
 rw[l1,l2]
 show(decide (0+w.length<=z.length)&&((z.drop (z.length-w.length)).take w.length==w))=_
 rw[gq]
 simp only[ay,decide_eq_true_eq,beq_iff_eq,qt]
 constructor
 ·rintro⟨h1,h⟩
  rw[kn (by rw[fk];omega)]at h
  exact⟨z.take (z.length-w.length),by rw[<-h,fk,show z.length-(z.length-(z.length-w.length))=z.length-w.length from by omega,List.take_append_drop]⟩
 ·rintro⟨t,rfl⟩
  refine⟨by simp,?_⟩
  rw[aq,Nat.add_sub_cancel,Og,n6]
section
variable {prog:bq}{w:cq}{A:cg}{E:Value->ah->Prop}{s:ah}{x:Str}{t:Tok}{Q:Value->ah->Prop}
theorem LX {y:Str}{u:Tok}(hy:(y.length==0)=false)
  (hq:∀ l k,l.map (·.1)=qe x y->Q (.ref s.heap.objs.size) { s with heap:=s.heap.push { cls:=.type "list", data:=.seq (strValues l).toArray },toks:=k })
  (kE:x.length<=sizeLine)(hsz2:(qe x y).length<=sizeLine):
  wpAny (model prog w) A (call (.builtin "str.split") [.str x t,.str y u]) Q E s:=by
 cases h1:(decide (x.length<y.length)||decide (w5 x<w5 y))
 ·cases hf:(ef x y 0 x.length (x.length+1)).isEmpty
  ·have es:qe x y=tj x (ef x y 0 x.length (x.length+1)) y.length:=(if_neg (ne_true_of_eq_false h1)).trans (if_neg (ne_true_of_eq_false hf))
   refine j6 ko (qj _ _ _) nj (mq _ _) (meets_str_split_sep x y t u h1 hy hf kE (es▸hsz2)) ?_
   show wants Q E _ { s with toks:=_,heap:=s.heap.push { cls:=.type "list", data:=.seq (strsFrom s.toks (tj x (ef x y 0 x.length (x.length+1)) y.length)).toArray } }
   rw[strsFrom_eq]
   exact hq (numbered s.toks _) _ ((numbered_texts _ _).trans ((if_neg (ne_true_of_eq_false h1)).trans (if_neg (ne_true_of_eq_false hf))).symm)
  ·exact j6 ko (qj _ _ _) nj (mq _ _) (meets_str_split_not_found x y t u h1 hy hf)
    (hq [(x,t)] _ ((if_neg (ne_true_of_eq_false h1)).trans (if_pos hf)).symm)
 ·exact j6 ko (qj _ _ _) nj (mq _ _) (meets_str_split_cannot_occur x y t u h1)
   (hq [(x,t)] _ (if_pos h1).symm)
theorem NH {y:Str}{u:Tok}(hy:(y.length==0)=false)(h:∀ ta tb tc k,Q (.ref s.heap.objs.size) { s with heap:=s.heap.push { cls:=.type "tuple", data:=.seq [.str (j9 x y).1 ta,.str (j9 x y).2.1 tb,.str (j9 x y).2.2 tc].toArray },toks:=k })(kE:x.length<=sizeLine):
 wpAny (model prog w) A (call (.builtin "str.partition") [.str x t,.str y u]) Q E s:=by
 refine j6 qv (qj _ _ _) PySem.F.entry_str_partition (PySem.F.args_str_partition_2 _ _) (meets_str_partition x y t u hy kE) ?_
 have h':=h
 unfold j9 at h'
 revert h'
 cases ef x y 0 x.length 1 with
 |nil=>intro h';exact h' _ _ _ _
 |cons i r=>intro h';exact h' _ _ _ _
end
theorem qU {K:ae}{H:Hp}{w:List Nat}{p:Str}(h:p.cps.toList=w):Rep K H (.str w) (.str p):=by
 have:p=⟨w.toArray⟩:=by rw[<-h]
 rw[this];exact .str w
theorem C9 {K:ae}{H:Hp}:∀ ps:List Str,aJ K H ((ps.map fun p=>p.cps.toList).map .str) (ps.map .str)
 |[]=>.nil
 |p::r=>.cons (qU rfl) (C9 r)
theorem C6:∀ l:List (Str×Tok),aR ((l.map (·.1)).map .str) (strValues l)
 |[]=>.nil
 |p::r=>.cons ⟨p.2,rfl⟩ (C6 r)
section
variable {X:Cx}
set_option tactic.hygienic true in
theorem QU:tW X "str" "str.split" (dZ .split):=by
 intro pz s σ H st d ds v vs u us R I ok r rv rs rvs q
 cases d<;>first|exact(show False from q).elim|skip
 rename_i z
 match ds,q with
 |[.str [c]],q =>
  cases r.str_inv
  obtain⟨t,rfl⟩:=rv
  obtain⟨w,rfl,rd⟩:=rs.one
  cases rd.str_inv
  obtain⟨uu,rfl,ru⟩:=rvs.one
  obtain⟨t1,rfl⟩:=ru
  have q:z.length<aK/\((aW c z).map D.str).length<=aK/\∀ p,st p=none->R (.ref p) (put st p (.lst ((aW c z).map .str))):=q
  have el:(⟨z.toArray⟩:Str).length=z.length:=by simp [c7]
  refine LX (y:=⟨#[c]⟩) rfl (fun l k hl=>?_) (by rw[el,gx];have:aK=16777216:=rfl;omega) ?_
  ·have e:=FR z c
   rw[<-hl]at e
   have hz:((l.map (·.1)).map V.str).length<=sizeLine:=by
    rw[aa,<-aa (f:=fun p:Str=>p.cps.toList),e,<-aa (f:=D.str)]
    rw[gx];exact q.2.1
   refine⟨.ref _,_,I.E4 (C6 l) hz,rfl,.fX ok ?_ I.fresh q.2.2⟩
   rw[<-e];exact C9 _
  ·rw[<-aa (f:=fun p:Str=>p.cps.toList),FR,<-aa (f:=D.str),gx];exact q.2.1
set_option tactic.hygienic true in
theorem XR:tW X "str" "str.partition" (dZ .partition):=by
 intro pz s σ H st d ds v vs u us R I ok r rv rs rvs q
 cases d<;>first|exact(show False from q).elim|skip
 rename_i z
 match ds,q with
 |[.str [c]],q =>
 cases r.str_inv
 obtain⟨t,rfl⟩:=rv
 obtain⟨w,rfl,rd⟩:=rs.one
 cases rd.str_inv
 obtain⟨uu,rfl,ru⟩:=rvs.one
 obtain⟨t1,rfl⟩:=ru
 have q:z.length<=aK/\R (.tup [.str (part c z).1,.str (if z.any (·== c)=true then[c]else[]),.str (part c z).2]) st:=q
 have el:(⟨z.toArray⟩:Str).length=z.length:=by simp [c7]
 obtain⟨e1,e2,e3⟩:=VP z c
 refine NH (y:=⟨#[c]⟩) rfl (fun ta tb tc k=>?_) (by rw[el,gx];exact q.1)
 refine⟨.ref _,_,I.laid (fun b o e=>au _ e) (bb _) (show fV X.prog X.w _ _ _ (.tup [.str _,.str _,.str _])from⟨by rw[gx];show 3<=_;decide,_,.cons ⟨ta,rfl⟩ (.cons ⟨tb,rfl⟩ (.cons ⟨tc,rfl⟩ .nil)),mK.new _ _⟩),rfl,.CJ ok (.cons (qU e1) (.cons (qU e2) (.cons (qU e3) .nil))) I.fresh q.2⟩
set_option tactic.hygienic true in
theorem W6:tW X "str" "str.endswith" (dZ .endswith):=by
 intro pz s σ H st d ds v vs u us R I ok r rv rs rvs q
 cases d<;>first|exact(show False from q).elim|skip
 rename_i z
 match ds,q with
 |[.str w],q =>
 cases r.str_inv
 obtain⟨t,rfl⟩:=rv
 obtain⟨v1,rfl,rd⟩:=rs.one
 cases rd.str_inv
 obtain⟨uu,rfl,ru⟩:=rvs.one
 obtain⟨t1,rfl⟩:=ru
 have q:z.length<=aK/\R (.bl (w.isSuffixOf z)) st:=q
 refine SC.endswith ?_
 rw[YK]
 exact⟨.bl _,H,I,rfl,.here ok (.bl _) q.2⟩
theorem ZP {i:Int}(h0:0<=i)(h1:i<1000000):i.natAbs.log2<1920:=by
 have h:i.natAbs<2 ^ 20:=by omega
 by_cases h0:i.natAbs=0
 ·rw[h0];decide
 ·exact bu ((Nat.log2_lt h0).mpr h) (by decide)
theorem vO:qZ X (.type "str") (fP .str):=by
 intro pz s σ H st ds vs us R I ok r rv q
 match ds,q with
 |[d],q =>
  have q:fP .str [d] st R:=q
  cases d<;>first|exact(show False from q).elim|skip
  ·obtain⟨v,rfl,rd⟩:=r.one
   cases rd.int_inv
   obtain⟨u,rfl,t,rfl⟩:=vals1 rv
   rw[OU]at q
   refine P.str_of_int (ZP q.1.1 q.1.2) ?_
   ·obtain⟨m,rfl⟩:=Int.eq_ofNat_of_zero_le q.1.1
    refine⟨.str _,H,I.tok _,⟨_,rfl⟩,.here ok (qU ?_) q.2⟩
    rw[PySem.W.KIN.signs_num,M4];rfl
  ·exact(cV (st:=st) q).elim fun _ z=>z.2.elim
 |[],q=>exact(show False from q).elim
 |a::_::_,q=>exact(show False by cases a<;>exact q).elim
end
section
variable {X:Cx}{C:aS}{sub:Nat->Nat->Bool}{E:XK}{a b c e o:b7}{es:List b7}{x y z:Ex}{xs:List Ex}{pos apos gD:Pos}
theorem Ni (ho:JE X C sub E o x)(ha:JA X C sub E (e::es) xs)(eQ:gk o "endswith" X.env (eval o X.env)=eval o X.env:=by kernel_rfl)
 (jZ:((dq pos (ar (e::es) X.env)).all (fun x=>!x.1)&&(om pos (kg [] X.env)).all (fun x=>x.1.isSome)&&decide ((e::es).length+([]:List j4).length+(if([]:List j4).isEmpty then 0 else 1)<30))=true:=by kernel_rfl)(eT:(apos.endLine==pos.line)=true:=by kernel_rfl)
 (hs:ar (e::es) X.env=(false,eval e X.env)::ar es X.env:=by kernel_rfl)(gE:(dq pos (ar es X.env)).any (·.1)=false:=by kernel_rfl):
 JE X C sub E (.Call (.Attribute o "endswith" apos) (e::es) [] pos) (.bX .endswith x xs) :=
 ⟨wQ (fun d st h=>by cases d<;>first|exact(show False from h).elim|exact⟨_,rfl⟩) PySem.F.slot_str_endswith PySem.F.type_str_endswith W6 ho.h ha.h eQ jZ eT hs gE⟩
theorem M7 (ho:JE X C sub E o x)(ha:JA X C sub E (e::es) xs)(eQ:gk o "split" X.env (eval o X.env)=eval o X.env:=by kernel_rfl)
 (jZ:((dq pos (ar (e::es) X.env)).all (fun x=>!x.1)&&(om pos (kg [] X.env)).all (fun x=>x.1.isSome)&&decide ((e::es).length+([]:List j4).length+(if([]:List j4).isEmpty then 0 else 1)<30))=true:=by kernel_rfl)(eT:(apos.endLine==pos.line)=true:=by kernel_rfl)
 (hs:ar (e::es) X.env=(false,eval e X.env)::ar es X.env:=by kernel_rfl)(gE:(dq pos (ar es X.env)).any (·.1)=false:=by kernel_rfl):
 JE X C sub E (.Call (.Attribute o "split" apos) (e::es) [] pos) (.bX .split x xs) :=
 ⟨wQ (fun d st h=>by cases d<;>first|exact(show False from h).elim|exact⟨_,rfl⟩) ko PySem.F.type_str_split QU ho.h ha.h eQ jZ eT hs gE⟩
theorem Na (ho:JE X C sub E o x)(ha:JA X C sub E (e::es) xs)(eQ:gk o "partition" X.env (eval o X.env)=eval o X.env:=by kernel_rfl)
 (jZ:((dq pos (ar (e::es) X.env)).all (fun x=>!x.1)&&(om pos (kg [] X.env)).all (fun x=>x.1.isSome)&&decide ((e::es).length+([]:List j4).length+(if([]:List j4).isEmpty then 0 else 1)<30))=true:=by kernel_rfl)(eT:(apos.endLine==pos.line)=true:=by kernel_rfl)
 (hs:ar (e::es) X.env=(false,eval e X.env)::ar es X.env:=by kernel_rfl)(gE:(dq pos (ar es X.env)).any (·.1)=false:=by kernel_rfl):
 JE X C sub E (.Call (.Attribute o "partition" apos) (e::es) [] pos) (.bX .partition x xs) :=
 ⟨wQ (fun d st h=>by cases d<;>first|exact(show False from h).elim|exact⟨_,rfl⟩) qv PySem.F.type_str_partition XR ho.h ha.h eQ jZ eT hs gE⟩
end
end L3
end
section
namespace L3
open PySem PySem.Spec PyProof.Rows L2
noncomputable abbrev xN:Nat:=4
noncomputable def EE (K:ae)(EX:XK):L2.XK:=fun _ _ H'=>∃ aA,aN K aA H'/\EX xN aA
inductive tR (K:ae)(C:aS)(f:Nat)(vs:List V)(H:Hp)(Q:L2.VK)(E:L2.XK):Prop where
 |mk (ds:List D)(st:aB)(R:VK)(EX:XK)(r:aJ K H ds vs)(ok:aN K st H)(q:C f ds st R EX)(hq:∀ v H',QD K H st R v H'->Q v H')(hE:∀ cl a H',EE K EX cl a H'->E cl a H'):tR K C f vs H Q E
theorem jO.x {K:ae}{C:aS}{f:Nat}{vs:List V}{H:Hp}{Q:L2.VK}{E E':L2.XK}(h:jO K C f vs H Q E):tR K C f vs H Q E' :=
 let⟨ds,st,R,r,ok,q,hq⟩:=h;⟨ds,st,R,_,r,ok,q,hq,fun _ _ _ z=>let⟨_,_,z⟩:=z;z.elim⟩
theorem cM.calm {P:bq}{w:cq}{K:ae}{mg:Str->Option Value}{base:Heap}{C:aS}{k f:Nat}{a Cl:Addr}{fd:fx}{ps:List Str}(F:cM P w K mg base (fG P w Cl) k a fd ps (tR K C f)):cM P w K mg base gH k a fd ps (jO K C f) :=
 ⟨fun vs H Q E q=>F.len vs H Q E q.x,fun A outer s H args us vs Q E hr he hb hv hs=>l5 (F.run A outer s H args us vs Q (fun _ _ _=>False) hr he hb hv hs.x) fun res s' h=>by
 cases res with
 |ok fl=>cases fl<;>exact h
 |error e=>obtain⟨_,_,_,_,_,_,_,_,_,_,_,z⟩:=h;exact z⟩
section
variable {P:bq}{w:cq}{K:ae}{mg:Str->Option Value}{base:Heap}{N:List Str}{qual:Str}{scope:Scope}{f Cl:Addr}{cd:Value}{A:cg}{outer:List Env}{s:ah}{H:Hp}{E:L2.XK}{EX:XK}
theorem UW (hE:∀ cl a H',EE K EX cl a H'->E cl a H'):iG (fG P w Cl) (cW (fG P w Cl) P w K mg base N qual scope f cd A outer s H E) (EE K EX):=by
 intro pz σ H1 s1 e s' I hx
 obtain⟨a,T,H',rfl,os,bare,un,bJ,ha1,hT1,fly,aA,cQ,ex'⟩:=hx
 have I2:=I.lT (ch:=[]) os un bJ bare (fun _ z=>nomatch z)
 have hfr:(A.deeper (gh qual scope s.heap.objs.size f cd)).frames=some (gh qual scope s.heap.objs.size f cd::outer):=I2.ok.frames
 have fun2:=I2.stack
 have sfr:=I2.mS
 show wpAny (model P w) _ (wg _ (.ref a)) _ _ _
 unfold wg
 refine af (J6 (base:=base) hfr fun2 rfl fly fun h2 T' b1 n1 f1 hT2=>wF f1 fun h3 b2 f2=>?_)
 have b2:eF [] [T'] h2 h3:=b2
 have n1:s'.heap.get? T'=none:=n1
 have B:eF (eM (gh qual scope s.heap.objs.size f cd::outer)) [a,T] s'.heap h3:=(b1.trans b2.more).old (fun _ _ z=>z) fun b z=>by
  rcases List.mem_append.mp z with z|z
  ·exact .inl z
  ·exact .inr (by rw[List.mem_singleton.mp z];exact n1)
 obtain⟨oe,ws,oT,ts,xe,xc,xn,xd,x1,xTe,xT,xdT,x3⟩:=id f2
 have TT':T≠T':=fun z=>by
  rw[z]at hT1
  obtain⟨u,e⟩:=(I2.bJ T' _ hT1).here
  rw[n1]at e;cases e
 obtain⟨o2,ts2,e2,d2⟩:=hT2
 have hT3:h3.get? T=some o2:=b2.keep T o2 e2 (by simp) (by simpa using TT')
 have nT':H' T'=none:=I2.bJ.nothing n1
 have aT':a≠T':=fun z=>by rw[z,nT']at ha1;cases ha1
 have U:Un (eM (gh qual scope s.heap.objs.size f cd::outer)) [] H' H' s'.heap h3:=AX B (fun b z=>by
  simp only[bh,bo,or_false]at z
  rcases z with rfl|rfl
  ·rw[ha1];intro y;cases y
  ·rw[hT1];intro y;cases y) fun b z=>by
  simp only[bh,bo,or_false]at z
  rcases z with rfl|rfl
  ·exact⟨_,xe⟩
  ·exact⟨_,hT3⟩
 have K3:dN P w H' h3:=A0 I2.bJ B sfr (fun b z=>by
  simp only[bh,bo,or_false]at z
  rcases z with rfl|rfl
  ·exact⟨_,ha1⟩
  ·exact⟨_,hT1⟩) fun b z u e=>by
  simp only[bh,bo,or_false]at z
  rcases z with rfl|rfl
  ·rw[ha1]at e;cases e;exact ET xe xc xn xd
  ·rw[hT1]at e;cases e;exact pZ hT3 d2
 have I3:=I2.lT (H':=upd H' T' (oB T')) (s':={ s' with heap:=h3 }) (ch:=[]) rfl (HV U nT' n1) (K3.xS nT' (pZ xT xdT)) I2.bare (fun _ z=>nomatch z)
 refine⟨a,T',upd H' T' (oB T'),rfl,I3.os,I3.bare,I3.base,I3.bJ,?_,dH,f2,hE _ _ _ ⟨aA,cQ.new nT',ex'⟩⟩
 rw[aZ aT'];exact ha1
theorem XF {C:aS}{sub:Nat->Nat->Bool}{x:Str}{np ap cp pos:Pos}{tx:Str}{j:Nat}{t:List Nat}(hE:∀ cl a H',EE K EX cl a H'->E cl a H')(Z:mE K x Cl)(hg:scope.names.lookup x=some .globalImplicit)(hd:(x==("__debug__" : Str))=false):
 PS (cW (fG P w Cl) P w K mg base N qual scope f cd A outer s H E) (.Raise (some (.Call (.Name x np) [.Constant (.str tx) j ap] [] cp)) none pos) (iW K EX (wpS C sub (.rais xN [.c (.str t)]))) :=
 (RU Z hg hd).imp fun D σ H' ⟨σd,st,P,r,ok,q,h⟩=>by
 intro a T ha hT ne
 refine hE _ _ _ ⟨st,(ok.new ha).new ?_,h.ex _ _ _ q⟩
 rw[aZ (gp ne)];exact hT
end
section
variable {X:Cx}{C:aS}{sub:Nat->Nat->Bool}{E EX:XK}{a b e o value:b7}{es:List b7}{x y:Ex}{xs:List Ex}{p pos apos pos':Pos}{n:Str}{c f:List Nat}{fid:Nat}{Cl:Addr}
theorem VL {k:Nat}{f:Addr}{fd:fx}{ps:List Str}(F:cM X.prog X.w X.K X.mg X.base (fG X.prog X.w Cl) k f fd ps (tR X.K C fid))(hr:dC k X.A)(hg:Gl X n)(hm:X.mg n=some (.ref f))
 (hk:dv X.K (.ref f)=true)(hb:Binds X.K fd ps [])(hx:iG (fG X.prog X.w Cl) X (EE X.K EX))(ha:PA X (e::es) (jP X.K (bC C sub EX xs)))
 (hdb:(n==("__debug__" : Str))=false)(he:ar (e::es) X.env=(false,eval e X.env)::ar es X.env)(fH:(dq pos (ar es X.env)).any (·.1)=false):
 PE X (.Call (.Name n p) (e::es) [] pos) (bT X.K (aF C sub EX (.callx fid xs))) :=
 (KR F hr hg hm hk hb .nil hx ha hdb he fH).imp fun σ H Q ⟨σd,st,R,r,ok,q,hq⟩=>by
 refine⟨σd,st,_,r,ok,q,fun vs H1 ⟨ds,aC,s1,aU,r1,q1⟩=>?_⟩
 show tR X.K C fid (vs++[]) H1 Q (EE X.K EX)
 rw[d7]
 exact⟨ds,aC,R,EX,r1,aU,q1,fun v H' z=>hq _ _ (.after s1 z),fun _ _ _ z=>z⟩
end
section
variable {K:ae}{H H':Hp}
theorem Dj {a:Addr}{vs:List V}(ht:∀ b xs,H b=some (.tup xs)->H' b=some (.tup xs))(hf:∀ b o u,H b=some (.frz o u)->H' b=some (.frz o u))(h:eG K H a vs):eG K H' a vs:=by
 rcases h with(h|⟨o,h⟩)|h
 ·exact .inl (.inl (ht _ _ h))
 ·exact .inl (.inr ⟨o,hf _ _ _ h⟩)
 ·exact .inr h
theorem VF {a:Addr}{vs:List V}(hf:∀ b o u,H b=some (.frz o u)->H' b=some (.frz o u))(h:mR K H a vs):mR K H' a vs:=by
 rcases h with⟨o,h⟩|h
 ·exact .inl ⟨o,hf _ _ _ h⟩
 ·exact .inr h
mutual
theorem Rep.un (ht:∀ b xs,H b=some (.tup xs)->H' b=some (.tup xs))(hf:∀ b o u,H b=some (.frz o u)->H' b=some (.frz o u)):∀{d:D}{v:V},Rep K H d v->Rep K H' d v
 |_,_,.non=>.non
 |_,_,.bl b=>.bl b
 |_,_,.int i=>.int i
 |_,_,.str x=>.str x
 |_,_,.tup h r=>.tup (Dj ht hf h) (aJ.un ht hf r)
 |_,_,.ref a=>.ref a
 |_,_,.bD h r=>.bD (VF hf h) (aJ.un ht hf r)
 |_,_,.cH h=>.cH h
theorem aJ.un (ht:∀ b xs,H b=some (.tup xs)->H' b=some (.tup xs))(hf:∀ b o u,H b=some (.frz o u)->H' b=some (.frz o u)):∀{ds:List D}{vs:List V},aJ K H ds vs->aJ K H' ds vs
 |_,_,.nil=>.nil
 |_,_,.cons h r=>.cons (Rep.un ht hf h) (aJ.un ht hf r)
end
theorem bZ.un {σd:St}{σ:L2.St}(ht:∀ b xs,H b=some (.tup xs)->H' b=some (.tup xs))(hf:∀ b o u,H b=some (.frz o u)->H' b=some (.frz o u))(r:bZ K H σd σ):bZ K H' σd σ :=
 ⟨r.1,fun i d e=>let⟨v,e1,e2⟩:=r.2 i d e;⟨v,e1,e2.un ht hf⟩⟩
theorem bZ.unset {σd:St}{σ:L2.St}(r:bZ K H σd σ)(i:Nat):bZ K H (σd.set i none) (σ.set i none):=by
 refine⟨by simpa using r.1,fun j e hj=>?_⟩
 by_cases q:j=i
 ·subst q
  by_cases hl:j<σd.length
  ·rw[fe hl]at hj;cases hj
  ·rw[kx (by simp;omega)]at hj;cases hj
 ·rw[ey (gp q)]at hj
  obtain⟨u,e1,e2⟩:=r.2 j e hj
  exact⟨u,by rw[ey (gp q)];exact e1,e2⟩
end
structure CN (K:ae)(EX:XK)(P:eB)(D:Ends):Prop where
 nx:∀ σ' H' cA aA,bZ K H' cA σ'->aN K aA H'->P.nx cA aA->D.nx σ' H'
 rt:∀ v H' d aA,aN K aA H'->Rep K H' d v->P.rt d aA->D.rt v H'
 bk:∀ σ' H' cA aA,bZ K H' cA σ'->aN K aA H'->P.bk cA aA->D.bk σ' H'
 ct:∀ σ' H' cA aA,bZ K H' cA σ'->aN K aA H'->P.ct cA aA->D.ct σ' H'
 ex:∀ c σd st,P.ex c σd st->EX c st
theorem CN.s {K:ae}{EX:XK}{P:eB}{D:Ends}{H:Hp}{st:aB}(h:CN K EX P D):vD K EX H st P D :=
 ⟨fun σ' H' cA aA r _ ok q=>h.nx σ' H' cA aA r ok q,fun v H' z=>let⟨d,aA,_,ok,r,q⟩:=z;h.rt v H' d aA ok r q,fun σ' H' cA aA r _ ok q=>h.bk σ' H' cA aA r ok q,fun σ' H' cA aA r _ ok q=>h.ct σ' H' cA aA r ok q,h.ex⟩
inductive EV (K:ae)(EX:XK)(ts:eB->St->aB->Prop)(D:Ends)(σ:L2.St)(H:Hp):Prop where
 |mk (σd:St)(st:aB)(P:eB)(r:bZ K H σd σ)(ok:aN K st H)(q:ts P σd st)(h:CN K EX P D):EV K EX ts D σ H
structure Jp (X:Cx)(C:aS)(sub:Nat->Nat->Bool)(EX:XK)(s:Stmt)(x:Sx):Prop where
 h:PS X s (EV X.K EX (wpS C sub x))
structure LG (X:Cx)(C:aS)(sub:Nat->Nat->Bool)(EX:XK)(ss:List Stmt)(xs:List Sx):Prop where
 h:iN X ss (EV X.K EX (bU C sub xs))
section
variable {X:Cx}{C:aS}{sub:Nat->Nat->Bool}{EX:XK}{s:Stmt}{ss:List Stmt}{x:Sx}{xs:List Sx}
theorem JS.z (h:JS X C sub EX s x):Jp X C sub EX s x:=⟨h.h.imp fun D σ H ⟨σd,st,P,r,ok,q,e⟩=>⟨σd,st,P,r,ok,q,e.s⟩⟩
theorem z0:LG X C sub EX [] []:=⟨UB.imp fun D σ H ⟨σd,st,P,r,ok,q,e⟩=>⟨σd,st,P,r,ok,q,e.s⟩⟩
theorem zc (h1:Jp X C sub EX s x)(h2:LG X C sub EX ss xs):LG X C sub EX (s::ss) (x::xs) :=
 ⟨(FW h1.h h2.h).imp fun D σ H ⟨σd,st,P,r,ok,q,h⟩=>by
 exact⟨σd,st,_,r,ok,q,⟨fun σ' H' cA aA r' cQ q'=>⟨cA,aA,P,r',cQ,q',h⟩,h.rt,h.bk,h.ct,h.ex⟩⟩⟩
end
inductive HM (K:ae)(C:aS)(f:Nat)(vs:List V)(H:Hp)(Q:L2.VK)(E:L2.XK):Prop where
 |mk (ds:List D)(st:aB)(R:VK)(r:aJ K H ds vs)(ok:aN K st H)(q:C f ds st R EF)(hq:∀ v H' d aA,aN K aA H'->Rep K H' d v->R d aA->Q v H'):HM K C f vs H Q E
theorem Am {P:bq}{w:cq}{K:ae}{mg:Str->Option Value}{base:Heap}{G:Prog}{r k f:Nat}{fn:Fn}{x qual:Str}{st:Stmt}{a:Addr}{fd:fx}{N ps:List Str}(F:wC K x qual st a fd)(S:kW N ps (aH st))
  (hG:G.fns f=some fn)(hp:fn.np=ps.length)(hl:fn.nl=N.length)
  (hb:∀(aT:Value)(A:cg)(outer:List Env)(s:ah)(H:Hp)(E:L2.XK),dC r (A.deeper (gh qual (aH st) s.heap.objs.size a aT)) ->
   LG (cW gH P w K mg base N qual (aH st) a aT A outer s H E).mF (aI G k) G.sub EF (gI st) fn.body):
  cM P w K mg base gH (r+1) a fd ps (HM K (aI G (k+1)) f):=by
 refine F.ok S (fun vs H Q E h=>?_) (fun aT A outer s H vs Q E hr h=>?_)
 ·obtain⟨ds,aA,R,r,_,h,_⟩:=h
  simp only[aI,hG]at h
  rw[<-r.length,h.1,hp]
 ·obtain⟨ds,aA,R,r,ok,h,hq⟩:=h
  simp only[aI,hG]at h
  refine⟨_,(hb aT A outer s H E hr).h,?_⟩
  refine⟨start fn.np fn.nl ds,aA,_,?_,ok,h.2,⟨fun σ' H' cA aY sr cQ q=>?_,fun v H' d aG cI rd q=>hq v H' d aG cI rd q,fun _ _ _ _ _ _ q=>q,fun _ _ _ _ _ _ q=>q,fun _ _ _ q=>q⟩⟩
  ·rw[hl];exact vK r h.1
  ·exact hq _ _ .non aY cQ .non q
theorem Az {P:bq}{w:cq}{K:ae}{mg:Str->Option Value}{base:Heap}{G:Prog}{r k f:Nat}{fn:Fn}{x qual:Str}{st:Stmt}{a Cl:Addr}{fd:fx}{N ps:List Str}(F:wC K x qual st a fd)(S:kW N ps (aH st))
  (hG:G.fns f=some fn)(hp:fn.np=ps.length)(hl:fn.nl=N.length)
  (hb:∀(aT:Value)(A:cg)(outer:List Env)(s:ah)(H:Hp)(E:L2.XK)(EX:XK),dC r (A.deeper (gh qual (aH st) s.heap.objs.size a aT))->(∀ cl a H',EE K EX cl a H'->E cl a H') ->
   uA (cW (fG P w Cl) P w K mg base N qual (aH st) a aT A outer s H E) (aI G k) G.sub EX (gI st) fn.body):
  cM P w K mg base (fG P w Cl) (r+1) a fd ps (tR K (aI G (k+1)) f):=by
 obtain⟨oc,od,kV,doc,pm,an,aT,ct,osl,rfl,lk,hcd⟩:=F.ex
 refine US lk hcd S (fun vs H Q E h=>?_) fun A outer s H vs Q E hr h=>?_
 ·obtain⟨ds,aA,R,EX,r,_,h,_⟩:=h
  simp only[aI,hG]at h
  rw[<-r.length,h.1,hp]
 ·obtain⟨ds,aA,R,EX,r,ok,h,hq,hE⟩:=h
  simp only[aI,hG]at h
  refine⟨_,(hb aT A outer s H E EX hr hE).h,?_⟩
  refine⟨start fn.np fn.nl ds,aA,_,?_,ok,h.2,⟨fun σ' H' cA aY sr s' cQ q=>?_,fun v H' z=>hq v H' z,fun _ _ _ _ _ _ _ q=>q,fun _ _ _ _ _ _ _ q=>q,fun _ _ _ q=>q⟩⟩
  ·rw[hl];exact vK r h.1
  ·exact hq _ _ ⟨.non,aY,s',cQ,.non,q⟩
theorem SQ {P:bq}{w:cq}{K:ae}{mg:Str->Option Value}{base:Heap}{G:Prog}{f:Nat}{a Cl:Addr}{fd:fx}{ps:List Str}:cM P w K mg base (fG P w Cl) 0 a fd ps (tR K (aI G 0) f) :=
 ⟨fun _ _ _ _ h=>let⟨_,_,_,_,_,_,q,_,_⟩:=h;q.elim,fun _ _ _ _ _ _ _ _ _ _ _ _ _ h=>let⟨_,_,_,_,_,_,q,_,_⟩:=h;q.elim⟩
structure MH (X:Cx)(C:aS)(EX:XK)(n:Str)(fid:Nat):Prop where
 h:∃ k f fd ps Cl,cM X.prog X.w X.K X.mg X.base (fG X.prog X.w Cl) k f fd ps (tR X.K C fid)/\dC k X.A/\X.mg n=some (.ref f)/\dv X.K (.ref f)=true/\Binds X.K fd ps []/\iG (fG X.prog X.w Cl) X (EE X.K EX)
structure UN (X:Cx)(C:aS)(EX:XK)(c:List Nat)(n:Str)(fid:Nat):Prop where
 h:∃ k f fd ps C0 Cl,cM X.prog X.w X.K X.mg X.base (fG X.prog X.w Cl) k f fd ps (tR X.K C fid)/\dC k X.A/\Binds X.K fd ps []/\clsAt X.K c C0/\T8 X.K C0/\Q7 X.K C0 n f/\iG (fG X.prog X.w Cl) X (EE X.K EX)
section
variable {X:Cx}{C:aS}{sub:Nat->Nat->Bool}{E EX:XK}{a b e o value:b7}{es:List b7}{x y:Ex}{xs:List Ex}{p pos apos pos':Pos}{n:Str}{c f:List Nat}{fid:Nat}
theorem II (h:MH X C EX n fid)(ha:JA X C sub EX (e::es) xs)(hg:X.env.kindOf n=some .globalImplicit:=by kernel_rfl)(hdb:(n==("__debug__" : Str))=false:=by kernel_rfl)(he:ar (e::es) X.env=(false,eval e X.env)::ar es X.env:=by kernel_rfl)(fH:(dq pos (ar es X.env)).any (·.1)=false:=by kernel_rfl):
 JE X C sub EX (.Call (.Name n p) (e::es) [] pos) (.callx fid xs):=⟨let⟨k,f,fd,ps,Cl,h1,h2,h3,h4,h5,h6⟩:=h.h;VL h1 h2 hg h3 h4 h5 h6 ha.h hdb he fH⟩
end
section
variable {P:bq}{w:cq}{K:ae}{mg:Str->Option Value}{base:Heap}{N:List Str}{qual:Str}{scope:Scope}{f Cl:Addr}{cd:Value}{A:cg}{outer:List Env}{s:ah}{H:Hp}{E:L2.XK}{EX:XK}
theorem T9 {C:aS}{sub:Nat->Nat->Bool}{x:Str}{np ap cp pos:Pos}{tx:Str}{j:Nat}{t:List Nat}(hE:∀ cl a H',EE K EX cl a H'->E cl a H')(Z:mE K x Cl)(hg:scope.names.lookup x=some .globalImplicit:=by kernel_rfl)(hd:(x==("__debug__" : Str))=false:=by kernel_rfl):
 JS (cW (fG P w Cl) P w K mg base N qual scope f cd A outer s H E) C sub EX (.Raise (some (.Call (.Name x np) [.Constant (.str tx) j ap] [] cp)) none pos) (.rais xN [.c (.str t)]):=⟨XF hE Z hg hd⟩
end
theorem K5 {X:Cx}{pz:List (Addr×Obj)}{σ:L2.St}{H:Hp}{s:ah}{a:Addr}{i:Nat}{ne:Str}{h':Heap}{m:Str->Option Value}{v':Option Value}{t:Nat}(ok:X.Ok)(I:Inv (mk X a) pz σ H s)(nd:X.N.Nodup)(hi:X.N[i]? = some ne)(hne:X.env.scope.names.lookup ne=some .local)(hn7:s.heap.Ns X.env.locals m)
  (hl7:∀(i:Nat)(x:Str)(v:V),X.N[i]? = some x->σ[i]? = some (some v)->TU X.env.scope x->∃ u,RelV v u/\Look X.env s.heap m x u)(hn:h'.Ns X.env.locals (fun x=>if x=ne then v' else m x))(hs:j2 X.env.locals s.heap h'):
  Inv X pz (σ.set i none) H { s with heap:=h',toks:=t }:=by
 have far:∀{b:Addr}{o:Obj},X.s₀.heap.get? b=some o->b≠X.env.locals:=fun e=>bj (bu (a9 e) ok.above)
 refine⟨ok,I.os,I.bare,⟨fun b o e n hb hx=>(hs.2 b (far e)).trans (I.base.keep b o e n hb hx),fun b o e n hb hx=>?_,I.base.free,fun b o e hx=>?_,I.base.iM,I.base.iA,I.base.iX⟩,⟨_,hn,fun j x v e1 e2 e3=>?_⟩,fun y c e=>?_,I.free,I.jG,fun p hp=>?_,fun b u e=>?_,by rw[u6];exact I.len⟩
 ·obtain⟨sl,q⟩:=I.base.slot b o e n hb hx
  exact⟨sl,(hs.2 b (far e)).trans q⟩
 ·obtain⟨o',q⟩:=I.base.there b o e hx
  exact⟨o',(hs.2 b (far e)).trans q⟩
 ·have ji:j≠i:=fun z=>by
   subst z
   by_cases hl:j<σ.length
   ·rw[fe hl]at e2;cases e2
   ·rw[kx (by simp;omega)]at e2;cases e2
  rw[ey (gp ji)]at e2
  obtain⟨u,ru,lk⟩:=hl7 j x v e1 e2 e3
  have xn:x≠ne:=fun z=>by
   subst z
   obtain⟨l1,q1⟩:=List.getElem?_eq_some_iff.mp e1
   obtain⟨l2,q2⟩:=List.getElem?_eq_some_iff.mp hi
   have pw:=List.pairwise_iff_getElem.mp nd
   rcases Nat.lt_or_gt_of_ne ji with h|h
   ·exact pw j i l1 l2 h (q1.trans q2.symm)
   ·exact pw i j l2 l1 h (q2.trans q1.symm)
  refine⟨u,ru,?_⟩
  rcases lk with⟨k1,k2⟩|⟨k1,c,k2,k3⟩
  ·exact .inl ⟨k1,by dsimp only;rw[if_neg xn];exact k2⟩
  ·exact .inr ⟨k1,c,k2,k3.sameBut hs (I.xZ x c k2)⟩
 ·obtain⟨v,z⟩:=I.cell y c e
  exact⟨v,z.sameBut hs (I.xZ y c e)⟩
 ·obtain⟨e,n,ne,nf,d⟩:=I.pin p hp
  exact⟨(hs.2 p.1 ne).trans e,n,ne,nf,d⟩
 ·have fr:H X.env.locals=none:=I.free
  refine(I.bJ b u e).nX (fun c v hc q=>(hs.2 c fun z=>?_).trans q) (fun _ q=>q) fun _ _ q=>q
  rcases hc with rfl|hc
  ·rw[z,fr]at e;cases e
  ·rw[z,fr]at hc;cases hc
section
variable {X:Cx}{k i:Nat}{f C:Addr}{fd:fx}{ps:List Str}{sp:Sp}{n x ne:Str}{p cp xp np hp pos:Pos}{e0:b7}{es:List b7}{t:TA}{b0:Stmt}{suite:List Stmt}{tS:Addr->TS}
theorem U2 {iy:Nat}{ny:Str}{py:Pos}(hxe:∀ e s,¬X.xe e s)(dA:X.stack=X.env::X.outer)(hfm:X.env.frame=some X.env.locals)(nd:X.N.Nodup)(Fc:cM X.prog X.w X.K X.mg X.base (fG X.prog X.w C) k f fd ps sp)(hr:dC k X.A)(hg:Gl X n)(hm:X.mg n=some (.ref f))
  (hk:dv X.K (.ref f)=true)(hb:Binds X.K fd ps [])(ha:PA X (e0::es) t)(Z:mE X.K x C)(hgx:Gl X x)(hi:X.N[i]? = some ne)(hne:X.env.scope.names.lookup ne=some .local)(hiy:X.N[iy]? = some ny)(hny:X.env.scope.names.lookup ny=some .local)
  (hs:∀ a,iN (mk X a) (b0::suite) (tS a)) (hdb:(n==("__debug__" : Str))=false) (hdx:(x==("__debug__" : Str))=false) (he:ar (e0::es) X.env=(false,eval e0 X.env)::ar es X.env)(fH:(dq cp (ar es X.env)).any (·.1)=false)
  (hsw:qb (.Call (.Name n p) (e0::es) [] cp) (some (.Name ny py)) xp.line X.env=pure false):
  PS X (.Try [.Assign [.Name ny py] (.Call (.Name n p) (e0::es) [] cp) xp] [.ExceptHandler (some (.Name x np)) (some ne) (b0::suite) hp] [] [] pos)
   (fun D σ H=>t σ H fun vs H1=>sp vs H1 (fun v H'=>D.nx (σ.set iy (some v)) H') (fun _ o H'=>∀ a,o=some a->H' a=some (sA a (.ref C))->(∀ b xs,H1 b=some (.tup xs)->H' b=some (.tup xs))->(∀ b o u,H1 b=some (.frz o u)->H' b=some (.frz o u))->∀ T',H' T'=none ->
    tS a { nx:=fun σ2 H2=>D.nx (σ2.set i none) H2,rt:=D.rt } (σ.set i (some (.ref a))) (upd H' T' (oB T')))):=by
 intro pz s σ H D I h
 refine wpAny_Try_except (tq (wpAny_Assign_Name ?_ hsw))
 refine gw (rH I hg hm ?_ hdb)
 refine xi (h₀:=X.base) I.ok.mod.kin hk (ee (ha cp pz s σ H _ I h) (fun us s1 ⟨vs,H1,I1,r,q⟩=>⟨I1.jQ,?_⟩) fun e s z=>absurd z (hxe e s)) he fH
 have hl:us.length=ps.length:=by rw[<-r.length];exact Fc.len _ _ _ _ q
 have hbi:=hb s1 us I1.jQ (by rw[d7];exact hl)
 rw[d7]at hbi
 refine zq (l5 (Fc.run X.A X.stack s1 H1 ⟨us,[]⟩ us vs _ _ hr I1.Av hbi r q) fun res s' hq=>?_)
 cases res with
 |ok fl =>
  cases fl with
  |ret u =>
   obtain⟨v,H',I',r',q'⟩:=I1.after hq
   exact zK I' nd hiy (.inl hny) r' (fun s6 I6=>kq (kq ⟨_,H',I6,q'⟩)) (.inr hny)
  |next=>exact i7 hq
  |brk=>exact i7 hq
  |cont=>exact i7 hq
 |error ev =>
  obtain⟨a,T,H',rfl,os,bare,un,bJ,ha1,hT1,fly,hE⟩:=hq
  have I2:Inv X pz σ H' s':=I1.lT (ch:=[]) os un bJ bare (fun _ z=>nomatch z)
  have hfr:X.A.frames=some (X.env::X.outer):=by rw[<-dA];exact I.ok.frames
  have fun2:s'.heap.FunFrames X.base (X.env::X.outer):=by rw[<-dA];exact I2.stack
  have sfr:∀ b∈eM (X.env::X.outer),H' b=none:=by rw[<-dA];exact I2.mS
  refine J6 (base:=X.base) hfr fun2 hfm fly fun h2 T' b1 n1 f1 hT2=>wF f1 fun h3 b2 f2=>?_
  have b2:eF [] [T'] h2 h3:=b2
  have B:eF (eM (X.env::X.outer)) [a,T] s'.heap h3:=(b1.trans b2.more).old (fun _ _ z=>z) fun b z=>by
   rcases List.mem_append.mp z with z|z
   ·exact .inl z
   ·exact .inr (by rw[List.mem_singleton.mp z];exact n1)
  obtain⟨oe,ws,oT,ts,xe,xc,xn,xd,x1,xTe,xT,xdT,x3⟩:=id f2
  have TT':T≠T':=fun z=>by
   rw[z]at hT1
   obtain⟨u,e⟩:=(I2.bJ T' _ hT1).here
   rw[n1]at e;cases e
  obtain⟨o2,ts2,e2,d2⟩:=hT2
  have hT3:h3.get? T=some o2:=b2.keep T o2 e2 (by simp) (by simpa using TT')
  have nT':H' T'=none:=I2.bJ.nothing n1
  have U:Un (eM (X.env::X.outer)) [] H' H' s'.heap h3:=AX B (fun b z=>by
   simp only[bh,bo,or_false]at z
   rcases z with rfl|rfl
   ·rw[ha1];intro y;cases y
   ·rw[hT1];intro y;cases y) fun b z=>by
   simp only[bh,bo,or_false]at z
   rcases z with rfl|rfl
   ·exact⟨_,xe⟩
   ·exact⟨_,hT3⟩
  have K3:dN X.prog X.w H' h3:=A0 I2.bJ B sfr (fun b z=>by
   simp only[bh,bo,or_false]at z
   rcases z with rfl|rfl
   ·exact⟨_,ha1⟩
   ·exact⟨_,hT1⟩) fun b z u e=>by
   simp only[bh,bo,or_false]at z
   rcases z with rfl|rfl
   ·rw[ha1]at e;cases e;exact ET xe xc xn xd
   ·rw[hT1]at e;cases e;exact pZ hT3 d2
  have I3:Inv X pz σ (upd H' T' (oB T')) { s' with heap:=h3 }:=I2.lT (s':={ s' with heap:=h3 }) (ch:=[]) rfl (by rw[dA];exact HV U nT' n1) (K3.xS nT' (pZ xT xdT)) I2.bare (fun _ z=>nomatch z)
  obtain⟨hmx,bm,Nn,nm,q',bs,hdct,sn,sub,ab,col,dd,k0,k1,k2,k3,k5,mN,hC,hN,hni,Tl⟩:=Z.own I.mod.kin I.mod.glob
  refine SO (C:=C) (nm:=nm) (q:=q') (N:=Nn) (bs:=bs) (hdct:=hdct) (sn:=sn) (sub:=sub) (ab:=ab) (col:=col) (dd:=dd) (k0:=k0) (k1:=k1) (k2:=k2) (k3:=k3) (k5:=k5) (newId :="ValueError.__new__") (Tl.hasType (by decide)) ?_
  have I4:Inv (mk X a) pz σ (upd H' T' (oB T')) { s' with heap:=h3 }:=Ce I3
  refine rH (X:=mk X a) I4 hgx hmx ⟨rfl,I4.bk _ _ hC,⟨oe,xe,xc⟩,?_⟩ hdx
  refine wF f2 fun h4 b3 f3=>?_
  have b3:eF [] [T'] h3 h4:=b3
  obtain⟨_,_,oT4,ts4,_,_,_,_,_,_,xT4,xdT4,_⟩:=id f3
  have tT':upd H' T' (oB T') T'=some (oB T'):=dH
  have I5:Inv (mk X a) pz σ (upd H' T' (oB T')) { s' with heap:=h4 }:=I4.lT (s':={ s' with heap:=h4 }) (ch:=[]) rfl (AX b3.more (fun b z=>by rw[List.mem_singleton.mp z,tT'];intro y;cases y) fun b z=>by rw[List.mem_singleton.mp z];exact⟨_,xT4⟩)
   (A0 I4.bJ (b3.more (fs:=eM X.stack)) I4.mS (fun b z=>by rw[List.mem_singleton.mp z];exact⟨_,tT'⟩) fun b z u e=>by
    rw[List.mem_singleton.mp z]at e ⊢
    rw[tT']at e;cases e
    exact pZ xT4 xdT4) I4.bare (fun _ z=>nomatch z)
  refine zK (X:=mk X a) (v:=.ref a) I5 nd hi (.inl hne) rfl (fun s6 I6=>?_) (.inr hne)
  refine bA (hs a pz s6 _ _ _ I6 (hE a rfl ha1 un.iM un.iA T' nT')) fun fl s7 hf=>?_
  cases fl with
  |next =>
   obtain⟨σ7,H7,I7,q7⟩:=hf
   obtain⟨m,hn7,hl7⟩:=id I7.loc
   exact v8 hne hn7 (by rw[I.ok.kind];rfl) fun h8 v' hn8 hs8=>⟨_,H7,K5 I.ok I7 nd hi hne hn7 hl7 hn8 hs8,q7⟩
  |brk=>obtain⟨_,_,_,z⟩:=hf;exact z.elim
  |cont=>obtain⟨_,_,_,z⟩:=hf;exact z.elim
  |ret u =>
   obtain⟨v,σ7,H7,I7,r7,q7⟩:=hf
   obtain⟨m,hn7,_⟩:=id I7.loc
   exact v8 hne hn7 (by rw[I.ok.kind];rfl) fun h8 v' hn8 hs8=>⟨v,_,H7,PN I.ok I7 hn8 hs8,r7,q7⟩
end
noncomputable def OG (i:Nat)(v:V)(Cl:Addr)(b:Bool):TE:=UI (fun vs H Q=>∃ a,vs=[.ref a,v]/\H a=some (sA a (.ref Cl))/\Q (.bl b) H) (M0 (LI i) (M0 (tC v) Bw))
section
variable {X:Cx}{i:Nat}{Cl:Addr}{v1 v2 v3:V}{e1 e2 e3:b7}{p1 p2 p3 p5:Pos}{r:Stmt}
theorem IL {b:Bool}{v:V}{σ:L2.St}{H:Hp}{Q:L2.VK}{a:Addr}(h1:σ[i]? = some (some (.ref a)))(h2:H a=some (sA a (.ref Cl)))(q:Q (.bl b) H):OG i v Cl b σ H Q:=⟨.ref a,h1,a,rfl,h2,q⟩
theorem ZS {f1 f2 f3:b7}{a1 a2 a3:List b7}{q1 q2 q3:Pos}(h1:PE X (.Call f1 a1 [] q1) (OG i v1 Cl true))(h2:PE X (.Call f2 a2 [] q2) (OG i v2 Cl true))(h3:PE X (.Call f3 a3 [] q3) (OG i v3 Cl false)):
 iN X [.If (.BoolOp .Or [.UnaryOp .Not (.Call f1 a1 [] q1) p1,.UnaryOp .Not (.Call f2 a2 [] q2) p2,.Call f3 a3 [] q3] p3) [r] [] p5] (fun D σ H=>∃ a,σ[i]? = some (some (.ref a))/\H a=some (sA a (.ref Cl))/\D.nx σ H):=by
 intro pz s σ H D I hq
 obtain⟨a,q1,q2,q⟩:=hq
 refine J3 (T3 (LS (E3 (GG h1)) (LS (E3 (GG h2)) (NI (GG h3)))).pt (J3 G4) KJ) pz s σ H D I ?_
 unfold ZH Jw Eg tB
 dsimp only
 refine IL q1 q2 ⟨true,rfl,?_⟩
 rw[if_neg (by decide)]
 refine IL q1 q2 ⟨true,rfl,?_⟩
 rw[if_neg (by decide)]
 exact IL q1 q2 ⟨false,rfl,by rw[if_neg (by decide)];exact q⟩
end
section
variable {X:Cx}{C:aS}{sub:Nat->Nat->Bool}{k i iy fid:Nat}{f Cl:Addr}{fd:fx}{ps:List Str}{n x ne ny:Str}{p cp xp np hp pos py:Pos}{e0:b7}{es:List b7}{xs:List Ex}{b0:Stmt}{suite:List Stmt}{hx:List Sx}
theorem Dc (hxe:∀ e s,¬X.xe e s)(dA:X.stack=X.env::X.outer)(hfm:X.env.frame=some X.env.locals)(nd:X.N.Nodup)(Fc:cM X.prog X.w X.K X.mg X.base (fG X.prog X.w Cl) k f fd ps (tR X.K C fid))(hr:dC k X.A)(hg:Gl X n)(hm:X.mg n=some (.ref f))
  (hk:dv X.K (.ref f)=true)(hb:Binds X.K fd ps [])(ha:∀ E,PA X (e0::es) (jP X.K (bC C sub E xs)))(Z:mE X.K x Cl)(hgx:Gl X x)(hi:X.N[i]? = some ne)(hne:X.env.scope.names.lookup ne=some .local)(hiy:X.N[iy]? = some ny)(hny:X.env.scope.names.lookup ny=some .local)
  (hs:∀ a,iN (mk X a) (b0::suite) (fun D σ H=>∃ a,σ[i]? = some (some (.ref a))/\H a=some (sA a (.ref Cl))/\D.nx σ H)) (hsub:sub xN xN=true)(hh:∀(P:eB)(σ:St)(st:aB),i<σ.length->bU nD sub hx P (σ.set i (some (.exc xN))) st->P.nx (σ.set i (some (.exc xN))) st)
  (hdb:(n==("__debug__" : Str))=false)(hdx:(x==("__debug__" : Str))=false)(he:ar (e0::es) X.env=(false,eval e0 X.env)::ar es X.env)(fH:(dq cp (ar es X.env)).any (·.1)=false)
  (hsw:qb (.Call (.Name n p) (e0::es) [] cp) (some (.Name ny py)) xp.line X.env=pure false):
  PS X (.Try [.Assign [.Name ny py] (.Call (.Name n p) (e0::es) [] cp) xp] [.ExceptHandler (some (.Name x np)) (some ne) (b0::suite) hp] [] [] pos) (EV X.K EF (wpS C sub (.tryy [.asg (.nm iy) (.callx fid xs)] xN (some i) hx))):=by
 intro pz s σ H D I hq
 obtain⟨σd,st,P,r,ok,q,h⟩:=hq
 have il:i<σ.length:=by rw[I.len];exact(List.getElem?_eq_some_iff.mp hi).1
 refine U2 (iy:=iy) (t:=jP X.K (bC C sub (fun c aA=>(GL sub xN (some i) P fun P' σ' aA=>bU nD sub hx P' σ' aA).ex c σd aA) xs)) hxe dA hfm nd Fc hr hg hm hk hb (ha _) Z hgx hi hne hiy hny hs hdb hdx he fH hsw pz s σ H D I ?_
 refine⟨σd,st,_,r,ok,q,fun vs H1 ⟨ds,aC,s1,aU,r1,q1⟩=>?_⟩
 refine⟨ds,aC,_,_,r1,aU,q1,fun v H' ⟨d,aG,s2,cI,rd,q2⟩=>?_,fun cl oa H' ⟨aG,cI,q2⟩ a ea hxa ht hf T' nT'=>?_⟩
 ·exact h.nx _ _ _ _ (((r.step ok s1).step aU s2).set iy rd) cI q2
 ·have aT':a≠T':=fun z=>by rw[z,nT']at hxa;cases hxa
  refine⟨a,by rw[fe il],by rw[aZ aT'];exact hxa,?_⟩
  have q2:if sub xN xN=true then bU nD sub hx ⟨fun σ2 aG=>P.nx (FQ (some i) none σ2) aG,P.rt,fun _ _=>False,fun _ _=>False,fun _ _ _=>False⟩ (FQ (some i) (some (.exc xN)) σd) aG else P.ex xN σd aG:=q2
  rw[if_pos hsub]at q2
  have q3:=hh _ σd aG (by rw[r.1];exact il) q2
  have q3:P.nx ((σd.set i (some (.exc xN))).set i none) aG:=q3
  rw[Pr]at q3
  show D.nx ((σ.set i (some (.ref a))).set i none) _
  rw[Pr]
  exact h.nx _ _ _ _ ((((r.step ok s1).un ht hf).step cI (mU nT')).unset i) (cI.new nT') q3
end
theorem XA {K:ae}{G:Prog}{k f:Nat}(h:∀ ns:List Int,ns.length<=63->aI G k f [.bD (ns.map .int)] (fun _=>none) (fun d _=>d=.bl true) fun _ _=>False)(H:Hp)(a:Addr)(ns:List Int)(hl:ns.length<=63)(hO:MJ H)(hS:dS K H a (ns.map V.int)):
  HM K (aI G k) f [.ref a] H (fun v _=>v=.bl true) fun _ _ _=>False:=by
 have hF:mR K H a (ns.map V.int):=by
  rcases hS with(e|⟨o,e⟩)|e
  ·rcases hO a with z|⟨o,xs,z⟩
   ·rw[z]at e;cases e
   ·rw[z]at e;cases e
  ·exact .inl ⟨o,e⟩
  ·exact .inr e
 have ri:∀ ns:List Int,aJ K H (ns.map .int) (ns.map V.int):=fun ns=>by
  induction ns with
  |nil=>exact .nil
  |cons i r ih=>exact .cons (.int i) ih
 refine⟨[.bD (ns.map .int)],fun _=>none,fun d _=>d=.bl true,.cons (.bD hF (ri ns)) .nil,fun a o e=>(by cases e),h ns hl,fun v H' d aA _ r q=>?_⟩
 subst q
 exact r.fZ
theorem Bi {l:zg}{q:bq}{loose:List Str}{XP:(Str->Option Value)->Heap->Prop}{YP:cq->Heap->Prop}{d:DefRec}{K:Qm->ae}{G:Prog}{r k f:Nat}{x:Str}(hr:dC r uo)(SV:∀ ns:List Int,ns.length<=63->aI G k f [.bD (ns.map .int)] (fun _=>none) (fun d _=>d=.bl true) fun _ _=>False)(hn:l.most=some 63)(hdf:d.params.defaults=[])
 (hY:∀(w:cq)(h:Heap),YP w h->(K w.params).In h)
 (F:∀(w:cq)(mg:Str->Option Value)(fa:Addr)(h:Heap),(K w.params).In h->h.Ns br mg->mg d.name=some (.ref fa) ->
  ∃ fd:fx,(∀(s:ah)(u:Value),we s fd ⟨[u],[]⟩ [(x,u)])/\∀ base:Heap,(K w.params).In base->base.Ns br mg->cM l.prog w (K w.params) mg base gH r fa fd [x] (HM (K w.params) (aI G k) f)):
 Oq q loose XP YP l.row.toRowW d [] (fun f vs=>zu f vs) :=
 L2.VY (n:=63) (k:=r) (x:=x) (CX:=fun _=>gH) (sp:=fun w=>HM (K w.params) (aI G k) f) hn (by decide) hdf hr hY F (fun _ H a ns hl hO hS=>XA SV H a ns hl hO hS) fun _ _ _ _ _ z=>z
section
variable {M:Model}{A:cg}{E:Value->ah->Prop}{s:ah}{base:Heap}{env:Env}{outer:List Env}{L e T:Addr}{c fl:Value}{Q:Unit->ah->Prop}
theorem GJ (hfr:A.frames=some (env::outer))(hl:s.heap.FunFrames base (env::outer))(hf:env.frame=some L)(f:pP s.heap e T c fl)
  (k:∀ h' T' fl',eF (eM (env::outer)) [e,T] s.heap h'->(T'=T∨s.heap.get? T'=none)->pP h' e T' c fl'->(∃ o ts,h'.get? T=some o/\o.data=.fields ts)->Q () { s with heap:=h' }):wpAny M A (jz (.ref e) env) Q E s:=by
 by_cases hz:(fl==lu L)=true
 ·obtain⟨oe,vs,oT,ts,he,rfl,hn,hd,h1,hTe,hT,hdT,h3⟩:=id f
  unfold jz
  simp only[hf]
  refine af (dw he hd h1 ?_)
  rw[if_pos (by simp)]
  refine af (dw hT hdT h3 ?_)
  rw[if_pos hz]
  exact aw (k s.heap T fl ⟨fun _ _ q _ _=>q,fun _ o q _=>⟨o.slots,q⟩⟩ (.inl rfl) f ⟨oT,ts,hT,hdT⟩)
 ·obtain⟨oe,vs,oT,ts,he,rfl,hn,hd,h1,hTe,hT,hdT,h3⟩:=f
  unfold jz
  simp only[hf]
  refine af (dw he hd h1 ?_)
  rw[if_pos (by simp)]
  refine af (dw hT hdT h3 ?_)
  rw[if_neg hz]
  refine af (jw hT hdT (Array.getElem?_eq_some_iff.mp h3).1 ?_)
  have oth:∀ b,b≠T->(s.heap.update T (gm (·.setIfInBounds 3 fo))).get? b=s.heap.get? b:=fun b n=>bg _ _ (gp n)
  have B:eF (eM (env::outer)) [T] s.heap (s.heap.update T (gm (·.setIfInBounds 3 fo))):=⟨fun b o q _ m=>(oth b (by simpa using m)).trans q,fun b o q m=>⟨o.slots,(oth b (by simpa using m)).trans q⟩⟩
  refine HE hfr (B.kG (fun b m o q=>?_) hl) hf ((oth e (gp hTe)).trans he) hn hd (Array.getElem?_eq_some_iff.mp h1).1 fun h' T' b' n' f'=>k h' T' _ ((B.trans b').old (ex':=[e,T]) (fun _ _ q=>q) fun b m=>.inl ?_) (.inr ?_) f' ?_
  ·simp only[bf]at m
   subst m
   rw[hT]at q;cases q
   exact⟨ts,hdT⟩
  ·simp only[j1,bf,bh,bo,or_false]at m ⊢
   exact m.symm
  ·cases q:s.heap.get? T' with
   |none=>rfl
   |some o =>
    obtain⟨sl,w⟩:∃ o,(s.heap.update T (gm (·.setIfInBounds 3 fo))).get? T'=some o:=by
     by_cases z:T'=T
     ·subst z
      exact⟨_,cj _ hT (d5 (cf hdT _))⟩
     ·exact⟨o,(oth T' z).trans q⟩
    have n':(s.heap.update T (gm (·.setIfInBounds 3 fo))).get? T'=none:=n'
    rw[w]at n';cases n'
  ·obtain⟨sl,w⟩:=b'.slot T _ (cj _ hT (d5 (cf hdT _))) (by simpa using hTe)
   exact⟨_,_,w,cf hdT _⟩
theorem WZ {fr:Option Addr}(f:pP s.heap e T c fl)(k:∀ h' fl',eF [] [T] s.heap h'->pP h' e T c fl'->Q () { s with heap:=h' }):wpAny M A (wk (.ref e) fr) Q E s:=by
 obtain⟨oe,vs,oT,ts,he,hc,hn,hd,h1,hTe,hT,hdT,h3⟩:=f
 have z3:3<ts.size:=(Array.getElem?_eq_some_iff.mp h3).1
 unfold wk
 refine af (dw he hd h1 ?_)
 rw[if_pos (by simp)]
 refine jw hT hdT z3 (k _ (fr.elim .none fun f=>lu f) ⟨fun b o q _ m=>?_,fun b o q m=>⟨o.slots,?_⟩⟩ ⟨oe,vs,_,_,?_,hc,hn,hd,h1,hTe,cj _ hT (d5 (cf hdT _)),cf hdT _,by simp [z3]⟩)
 ·exact(bg _ _ (fun w=>m (by simp [w]))).trans q
 ·exact(bg _ _ (fun w=>m (by simp [w]))).trans q
 ·exact(bg _ _ hTe).trans he
end
def AY (X:Cx)(Cl:Addr)(EX:XK):Prop:=∀(pz:List (Addr×Obj))(σ:L2.St)(H':Hp)(s':ah)(a T:Addr)(fl:Value)(aA:aB),Inv X pz σ H' s'->H' a=some (sA a (.ref Cl))->H' T=some (oB T)->pP s'.heap a T (.ref Cl) fl->aN X.K aA H'->EX xN aA->X.xe (.ref a) s'
theorem CM {X:Cx}{pz:List (Addr×Obj)}{σ:L2.St}{H':Hp}{s':ah}{h3:Heap}{a T T' Cl:Addr}{fl:Value}(I2:Inv X pz σ H' s')(ha1:H' a=some (sA a (.ref Cl)))(hT1:H' T=some (oB T))(B:eF (eM X.stack) [a,T] s'.heap h3)(n1:T'=T∨s'.heap.get? T'=none)
  (f2:pP h3 a T' (.ref Cl) fl)(hT3:∃ o ts,h3.get? T=some o/\o.data=.fields ts):∃ H3,Inv X pz σ H3 { s' with heap:=h3 }/\H3 a=some (sA a (.ref Cl))/\H3 T'=some (oB T')/\∀{aA:aB},aN X.K aA H'->aN X.K aA H3:=by
 obtain⟨oe,ws,oT,ts,xe,xc,xn,xd,x1,xTe,xT,xdT,x3⟩:=f2
 obtain⟨o2,ts2,hT3,d2⟩:=hT3
 have U:Un (eM X.stack) [] H' H' s'.heap h3:=AX B (fun b z=>by
  simp only[bh,bo,or_false]at z
  rcases z with rfl|rfl
  ·rw[ha1];intro y;cases y
  ·rw[hT1];intro y;cases y) fun b z=>by
  simp only[bh,bo,or_false]at z
  rcases z with rfl|rfl
  ·exact⟨_,xe⟩
  ·exact⟨_,hT3⟩
 have K3:dN X.prog X.w H' h3:=A0 I2.bJ B I2.mS (fun b z=>by
  simp only[bh,bo,or_false]at z
  rcases z with rfl|rfl
  ·exact⟨_,ha1⟩
  ·exact⟨_,hT1⟩) fun b z u e=>by
  simp only[bh,bo,or_false]at z
  rcases z with rfl|rfl
  ·rw[ha1]at e;cases e;exact ET xe xc xn xd
  ·rw[hT1]at e;cases e;exact pZ hT3 d2
 rcases n1 with rfl|n1
 ·exact⟨H',I2.lT (s':={ s' with heap:=h3 }) (ch:=[]) rfl U K3 I2.bare (fun _ z=>nomatch z),ha1,hT1,fun ok=>ok⟩
 ·have nT':H' T'=none:=I2.bJ.nothing n1
  have aT':a≠T':=fun z=>by rw[z,nT']at ha1;cases ha1
  refine⟨upd H' T' (oB T'),I2.lT (s':={ s' with heap:=h3 }) (ch:=[]) rfl (HV U nT' n1) (K3.xS nT' (pZ xT xdT)) I2.bare (fun _ z=>nomatch z),?_,dH,fun ok=>ok.new nT'⟩
  rw[aZ aT'];exact ha1
section
variable {P:bq}{w:cq}{K:ae}{mg:Str->Option Value}{base:Heap}{N:List Str}{qual:Str}{scope:Scope}{f Cl:Addr}{cd:Value}{A:cg}{outer:List Env}{s:ah}{H:Hp}{E:L2.XK}{EX:XK}
theorem EL (hE:∀ cl a H',EE K EX cl a H'->E cl a H'):AY (cW (fG P w Cl) P w K mg base N qual scope f cd A outer s H E) Cl EX:=by
 intro pz σ H' s' a T fl aA I2 ha1 hT1 fly cQ ex'
 have hfr:(A.deeper (gh qual scope s.heap.objs.size f cd)).frames=some (gh qual scope s.heap.objs.size f cd::outer):=I2.ok.frames
 have fun2:=I2.stack
 show wpAny (model P w) _ (wg _ (.ref a)) _ _ _
 unfold wg
 refine af (GJ (base:=base) hfr fun2 rfl fly fun h2 T' fl' b1 n1 f1 hT2=>wF f1 fun h3 b2 f2=>?_)
 have b2:eF [] [T'] h2 h3:=b2
 have B:eF (eM (gh qual scope s.heap.objs.size f cd::outer)) [a,T] s'.heap h3:=(b1.trans b2.more).old (fun _ _ z=>z) fun b z=>by
  rcases List.mem_append.mp z with z|z
  ·exact .inl z
  ·rw[List.mem_singleton.mp z]
   rcases n1 with rfl|n1
   ·exact .inl (by simp)
   ·exact .inr n1
 have hT3:∃ o ts,h3.get? T=some o/\o.data=.fields ts:=by
  by_cases z:T=T'
  ·obtain⟨oe,ws,oT,ts,xe,xc,xn,xd,x1,xTe,xT,xdT,x3⟩:=id f2
   exact⟨oT,ts,by rw[z];exact xT,xdT⟩
  ·obtain⟨o,ts,e,d⟩:=hT2
   exact⟨o,ts,b2.keep T o e (by simp) (by simpa using z),d⟩
 obtain⟨H3,I3,k1,k2,k3⟩:=CM I2 ha1 hT1 B n1 f2 hT3
 exact⟨a,T',H3,rfl,I3.os,I3.bare,I3.base,I3.bJ,k1,k2,f2,hE _ _ _ ⟨aA,k3 cQ,ex'⟩⟩
end
theorem EG {prog:bq}{w:cq}{A:cg}{s:ah}{R:Pk->ah->Prop}{elt target iter:b7}{ifs:List b7}{scope:Scope}{pos:Pos}{it acc:Value}{env:Env}(I:Nat->ah->Prop)
 (turn:∀ n s,I n s->wpAny (model prog w) A (r6 it) (fun r s₁=>match r with
  |none=>R (.ok .next) s₁
  |some v=>wpAny (model prog w) A (mr target it v) (fun _ s₁'=>wpAny (model prog w) A (lq target env v) (fun _ s₂ =>
   wpAny (model prog w) A (rF ifs env) (fun ok s₃ =>
   if ok=true then wpAny (model prog w) A (eval elt env) (fun x s₄ =>
    wpAny (model prog w) A (call (.builtin "list.append") [acc,x]) (fun _ s₅=>∃ m,m<n/\I m s₅) (uz (model prog w) A env fun x s'=>R (.error x) s') s₄) (uz (model prog w) A env fun x s'=>R (.error x) s') s₃
   else ∃ m,m<n/\I m s₃) (uz (model prog w) A env fun x s'=>R (.error x) s') s₂) (uz (model prog w) A env fun x s'=>R (.error x) s') s₁') (uz (model prog w) A env fun x s'=>R (.error x) s') s₁) (uz (model prog w) A env fun x s'=>R (.error x) s') s)
 (n:Nat)(h:I n s):
 ky (model prog w) A (.compLoop (.ListComp elt [⟨target,iter,ifs,0⟩] scope pos) 0 it acc env) R s:=by
 refine Po rfl I (fun n s hI=>?_) n h
 show wpAny _ A ((compTurn (.ListComp elt [⟨target,iter,ifs,0⟩] scope pos) 0 it acc env).onRaise (fun x=>do jz x env;zh x)) _ _ s
 refine wpAny_noted ?_
 rw[Ot]
 refine af (r0 (af (ee (turn n s hI) (fun r s₁ h₁=>?_) fun _ _ h'=>h')))
 cases r with
 |none=>exact aw h₁
 |some v =>
 refine af (ee h₁ (fun _ s₁' h₁'=>?_) fun _ _ h'=>h')
 refine af (ee h₁' (fun _ s₂ h₂=>af (ee h₂ (fun ok s₃ h₃=>?_) fun _ _ h'=>h')) fun _ _ h'=>h')
 cases ok with
 |false=>exact aw ⟨rfl,h₃⟩
 |true =>
  exact af (af (ee h₃ (fun x s₄ h₄=>af (ee h₄ (fun _ s₅ h₅=>aw (aw ⟨rfl,h₅⟩)) fun _ _ h'=>h')) fun _ _ h'=>h'))
section
variable {X:Cx}{C:aS}{sub:Nat->Nat->Bool}{elt iter tg:b7}{ifs:List b7}{xe:Ex}{gF aD:List Ex}{pos:Pos}{scope:Scope}{own cn:List Str}{aV:List Nat}{one:Bool}{k:Option IK}
theorem Gn {Cl:Addr}{EX:XK}{pz:List (Addr×Obj)}{σ:L2.St}{H3:Hp}{s₃:ah}{fp:List Addr}{use:Option (Value->Sem Unit)}{Qf:Value->ah->Prop}{acc:Value}(I3:Inv X pz σ H3 s₃)(dA:X.stack=X.env::X.outer)(hfm:∃ L,X.env.frame=some L)
  (hch:∀ b∈fp,(b∈X.ex∨X.s₀.heap.objs.size<=b)/\b≠X.env.locals/\(∀ x c,X.env.cells.lookup x=some c->c≠b)/\∀ p∈X.pn++pz,p.1≠b)(hPA:AY X Cl EX):
  iG (fG X.prog X.w Cl) ((gN X scope own cn fp s₃ H3 s₃.heap.objs.size).gK (uz (model X.prog X.w) X.A (t4 scope (iT X.env.cells scope.names []) s₃.heap.objs.size X.env) fun x s'=>qr (model X.prog X.w) X.A X.xe use Qf acc s₃.heap.objs.size (.error x) s')) (EE X.K EX):=by
 intro pz' σ' H5 s5 e s' Ic hx
 obtain⟨L,hL⟩:=hfm
 obtain⟨a,T,H',rfl,os,bare,un,bJ,ha1,hT1,fly,aA,cQ,ex'⟩:=hx
 have Ic2:=Ic.lT (ch:=[]) os un bJ bare (fun _ z=>nomatch z)
 have hfr:X.A.frames=some (X.env::X.outer):=by rw[<-dA];exact I3.ok.frames
 have fun2:s'.heap.FunFrames X.base (X.env::X.outer):=by rw[<-dA];exact Ic2.stack
 have nf:jz (.ref a) (t4 scope (iT X.env.cells scope.names []) s₃.heap.objs.size X.env)=jz (.ref a) X.env:=by
  unfold jz PySem.frameOf
  rfl
 show wpAny (model X.prog X.w) X.A (jz (.ref a) (t4 scope (iT X.env.cells scope.names []) s₃.heap.objs.size X.env)) _ _ s'
 rw[nf]
 refine GJ (base:=X.base) hfr fun2 hL fly fun h2 T' fl' b1 n1 f1 hT2=>?_
 obtain⟨H4,I5,k1,k2,k3⟩:=CM Ic2 ha1 hT1 (by show eF (eM X.stack) _ _ _;rw[dA];exact b1) n1 f1 hT2
 have goal:∃ m,h2.Ns s₃.heap.objs.size m/\∀ h',j2 s₃.heap.objs.size h2 h'->∀ cenv:Env,cenv.locals=s₃.heap.objs.size->wpAny (model X.prog X.w) X.A (passOn "comprehension.variables-let-go" (.ref a) cenv:Sem Value) (fun _ _=>False) X.xe { s' with heap:=h' }:=by
  obtain⟨m5,ns5,_⟩:=I5.loc
  have fC5:H4 s₃.heap.objs.size=none:=I5.free
  have un5:Un (eM X.stack) fp H3 H4 s₃.heap h2:=I5.base
  have os5:s'.os=s₃.os:=I5.os
  have hok5:dN X.prog X.w H4 h2:=I5.bJ
  refine⟨m5,ns5,fun h' hh cenv hc=>?_⟩
  have IX:Inv X pz σ H4 { s' with heap:=h' }:=by
   have ne:∀ b o,s₃.heap.get? b=some o->b≠s₃.heap.objs.size:=fun b o e=>bj (a9 e)
   have kk:∀ b o,b≠s₃.heap.objs.size->h2.get? b=some o->h'.get? b=some o:=fun b o hb e=>hh.extBut b o hb e
   refine I3.lT (s':={ s' with heap:=h' }) (ch:=fp) os5 ⟨fun b o e n hb hx=>kk b o (ne b o e) (un5.keep b o e n hb hx),fun b o e n hb hx=>?_,un5.free,fun b o e hx=>?_,un5.iM,un5.iA,un5.iX⟩ (CK hok5 fC5 hh) I5.bare hch
   ·obtain⟨sl,e'⟩:=un5.slot b o e n hb hx
    exact⟨sl,kk b _ (ne b o e) e'⟩
   ·obtain⟨o',e'⟩:=un5.there b o e hx
    exact⟨o',kk b o' (ne b o e) e'⟩
  have nea:a≠s₃.heap.objs.size:=fun z=>by rw[z,fC5]at k1;cases k1
  have neT:T'≠s₃.heap.objs.size:=fun z=>by rw[z,fC5]at k2;cases k2
  have f2:pP h' a T' (.ref Cl) fl':=by
   obtain⟨oe,ws,oT,ts,xe,xc,xn,xd,x1,xTe,xT,xdT,x3⟩:=f1
   exact⟨oe,ws,oT,ts,hh.extBut a oe nea xe,xc,xn,xd,x1,xTe,hh.extBut T' oT neT xT,xdT,x3⟩
  unfold PySem.passOn
  obtain⟨oe,ws,oT,ts,xe,xc,xn,xd,x1,xTe,xT,xdT,x3⟩:=id f2
  refine af (dw xe xd x1 ?_)
  rw[if_neg (by simp)]
  refine af (WZ f2 fun h3 fl3 b3 f3=>wpAny_throw ?_)
  have b3:eF [] [T'] h' h3:=b3
  have hT3:∃ o ts,h3.get? T'=some o/\o.data=.fields ts:=by
   obtain⟨oe,ws,oT,ts,xe,xc,xn,xd,x1,xTe,xT,xdT,x3⟩:=id f3
   exact⟨oT,ts,xT,xdT⟩
  have B3:eF (eM X.stack) [a,T'] h' h3:=(b3.more).old (fun _ _ z=>z) fun b z=>.inl (by simp only[bf]at z;rw[z];simp)
  obtain⟨H6,I6,m1,m2,m3⟩:=CM IX k1 k2 B3 (.inl rfl) f3 hT3
  exact hPA pz σ H6 _ a T' fl3 aA I6 m1 m2 f3 (m3 (k3 cQ)) ex'
 cases use<;>exact goal
theorem MR {Cl:Addr}{EX:XK}(hC:bN C C)(S:iU X scope cn aV)(hc:X.calm=true)(jH:one=true->own.length=1)(hPA:AY X Cl EX)(dA:X.stack=X.env::X.outer)(hfm:∃ L,X.env.frame=some L)
  (hg:∀ fp s H Ca XE,PG ((gN X scope own cn fp s H Ca).gK XE) tg (zS X.K one own.length))
  (hts:∀ fp s H Ca XE,vU ((gN X scope own cn fp s H Ca).gK XE) ifs (nY X.K (eE C sub EX gF)))
  (he:∀ fp s H Ca XE,iG (fG X.prog X.w Cl) ((gN X scope own cn fp s H Ca).gK XE) (EE X.K EX)->PE ((gN X scope own cn fp s H Ca).gK XE) elt (bT X.K (aF C sub EX xe)))
  {use:Option (Value->Sem Unit)}{Qf:Value->ah->Prop}
  {pz:List (Addr×Obj)}{s₂:ah}{σ:L2.St}{σd:St}{H1:Hp}{aC:aB}{J:It}{fp:List Addr}{it:Addr}{tn:Nat->Heap->Prop}{as:List Nat}{xs:List D}{R:List D->aB->Prop}
  (I2:Inv X pz σ H1 s₂)(T:Turn X.prog X.w X.K tg J fp it tn)(t0:tn 0 s₂.heap)(f2:∀ b∈fp,jW X pz H1 b)(r:bZ X.K H1 σd σ)(aU:aN X.K aC H1)(j:xW X.K J as xs H1 aC)
  (q:fD (same as aC) (fun x aG K=>iP one (bc own.length) x (ao own.length none++aV.map fun i=>(σd[i]?).getD none) fun σ' =>
    eE C sub EX gF σ' aG fun b aQ=>if b=true then aF C sub EX xe σ' aQ fun d bY=>K (some d) bY else K none aQ) xs [] aC R)
  (fin:∀(Da Ca:Addr)(H':Hp)(aA:aB)(ds:List D)(m:Str->Option Value)(s':ah),s'.heap.Ns Ca m->(∀ h',j2 Ca s'.heap h'->Inv X pz σ H' { s' with heap:=h' })->Inv X pz σ H' s'->Ca≠X.env.locals->(∀ x c,X.env.cells.lookup x=some c->c≠Ca)->Ca∉X.fs->X.s₀.heap.objs.size<=Ca->(∀ p∈X.pn++pz,p.1≠Ca)->H' Ca=none->Step H1 aC H' aA->aN X.K (put aA Da (.lst ds)) H'->H1 Da=none->aA Da=none->R ds aA ->
   qr (model X.prog X.w) X.A X.xe use Qf (.ref Da) Ca (.ok .next) s'):
  wpAny (model X.prog X.w) X.A (Qt []) (fun acc s₃ =>
   wpAny (model X.prog X.w) X.A (zy scope X.env.globals (iT X.env.cells scope.names []) [] X.env.qual none .none (some X.env)) (fun cenv s₄ =>
    ky (model X.prog X.w) X.A (.compStart (.ListComp elt [⟨tg,iter,ifs,0⟩] scope pos) 0 (.ref it) acc { cenv with scope:=relabel scope X.env }) (qr (model X.prog X.w) X.A X.xe use Qf acc cenv.locals) s₄) X.xe s₃) X.xe s₂:=by
 have hD1:H1 s₂.heap.objs.size=none:=I2.fresh
 obtain⟨tf,htf0⟩:∃ tf:D->aB->(Option D->aB->Prop)->Prop,tf=fun x aG K=>iP one (bc own.length) x (ao own.length none++aV.map fun i=>(σd[i]?).getD none) fun σ' =>
    eE C sub EX gF σ' aG fun b aQ=>if b=true then aF C sub EX xe σ' aQ fun d bY=>K (some d) bY else K none aQ:=⟨_,rfl⟩
 have htf:∀ x aG (K:Option D->aB->Prop),tf x aG K->iP one (bc own.length) x (ao own.length none++aV.map fun i=>(σd[i]?).getD none) fun σ' =>
    eE C sub EX gF σ' aG fun b aQ=>if b=true then aF C sub EX xe σ' aQ fun d bY=>K (some d) bY else K none aQ:=fun x aG K h=>by rw[htf0]at h;exact h
 rw[<-htf0]at q
 refine fu ?_
 have I3:=I2.E4 (aD:=[]) (ys:=[]) (t':=s₂.toks) .nil (dj _)
 generalize hS3:({ s₂ with heap:=s₂.heap.push { cls:=.type "list", dict:=none,data:=.seq ([]:List Value).toArray } }:ah)=s₃
 have I3:Inv X pz σ (upd H1 s₂.heap.objs.size (.lst [])) s₃:=by rw[<-hS3];exact I3
 have lt3:s₂.heap.objs.size<s₃.heap.objs.size:=by rw[<-hS3];show _<(s₂.heap.push _).objs.size;rw[ke];exact ij _
 have old3:∀ b o,s₂.heap.get? b=some o->s₃.heap.get? b=some o:=fun b o e=>by rw[<-hS3];exact au _ e
 generalize hDa:s₂.heap.objs.size=Da at *
 have hlt2:∀ b∈fp,b<Da:=fun b hb=>by
  obtain⟨o,e,_⟩:=T.obj _ _ t0 b hb
  rw[<-hDa];exact a9 e
 have f3:∀ b∈fp,jW X pz (upd H1 Da (.lst [])) b:=fun b hb=>⟨by rw[aZ (bj (hlt2 b hb))];exact(f2 b hb).1,(f2 b hb).2⟩
 have hlt3:∀ b∈fp,b<s₃.heap.objs.size:=fun b hb=>p8 (hlt2 b hb) lt3
 refine vv S.nocell (by intro y hy;simp at hy) (fun h₁ hns hsb=>?_) S.kind
 have keep1:∀ b o,s₃.heap.get? b=some o->h₁.get? b=some o:=fun b o e=>hsb.extBut b o (bj (a9 e)) (au _ e)
 have t1:tn 0 h₁:=T.keep _ _ _ t0 fun b hb o e=>keep1 b o (old3 b o e)
 have B0:=yO (own:=own) S hc I3 f3 hlt3 (bb _) (tk:=s₃.toks+([]:List (Str×Value)).length) hns keep1
 have hch0:∀ b∈fp,(b∈X.ex∨X.s₀.heap.objs.size<=b)/\b≠X.env.locals/\(∀ x c,X.env.cells.lookup x=some c->c≠b)/\∀ p∈X.pn++pz,p.1≠b:=fun b hb=>⟨(f2 b hb).2.2.2.1,(f2 b hb).2.1,(f2 b hb).2.2.2.2.1,(f2 b hb).2.2.2.2.2⟩
 have hP:=Gn (scope:=scope) (own:=own) (cn:=cn) (use:=use) (Qf:=Qf) (acc:=.ref Da) I3 dA hfm hch0 hPA
 obtain⟨XE,hXE⟩:∃ XE,XE=uz (model X.prog X.w) X.A (t4 scope (iT X.env.cells scope.names []) s₃.heap.objs.size X.env) fun x s'=>qr (model X.prog X.w) X.A X.xe use Qf (.ref Da) s₃.heap.objs.size (.error x) s':=⟨_,rfl⟩
 rw[<-hXE]at hP
 have B0:=B0.gK XE
 have hec0:=he _ _ _ _ XE hP
 generalize hXc:(gN X scope own cn fp s₃ (upd H1 Da (.lst [])) s₃.heap.objs.size).gK XE=Xc at B0 hec0
 have hgc:PG Xc tg (zS X.K one own.length):=by rw[<-hXc];exact hg _ _ _ _ _
 have htc:vU Xc ifs (nY X.K (eE C sub EX gF)):=by rw[<-hXc];exact hts _ _ _ _ _
 have hec:PE Xc elt (bT X.K (aF C sub EX xe)):=hec0
 have eP:Xc.prog=X.prog:=by rw[<-hXc];rfl
 have eW:Xc.w=X.w:=by rw[<-hXc];rfl
 have eK:Xc.K=X.K:=by rw[<-hXc];rfl
 have eA:Xc.A=X.A:=by rw[<-hXc];rfl
 have eX:Xc.xe=XE:=by rw[<-hXc]
 have eN:Xc.env=t4 scope (iT X.env.cells scope.names []) s₃.heap.objs.size X.env:=by rw[<-hXc];rfl
 rw[<-eN]at hXE
 have eL:Xc.env.locals=s₃.heap.objs.size:=by rw[eN];rfl
 have eC:Xc.calm=true:=by rw[<-hXc];rfl
 have fC:∀{H':Hp},(∀ b∈fp,H' b=none)->∀ b∈fp,jW Xc [] H' b:=fun{H'} hn b hb=>by
  have ok:=B0.ok
  refine⟨hn b hb,by rw[eL];exact bj (hlt3 b hb),ok.exfs b (by rw[<-hXc];exact hb),.inl (by rw[<-hXc];exact hb),fun x c e=>(ok.exf b (by rw[<-hXc];exact hb)).2 x c e,fun p hp=>?_⟩
  have:p∈([]:List (Addr×Obj)):=by rw[<-hXc]at hp;exact hp
  cases this
 have capsRel:∀{H':Hp}{aA:aB},Step H1 aC H' aA->bZ X.K H' (ao own.length none++aV.map fun i=>(σd[i]?).getD none) (ao own.length none++jY aV σ):=fun s'=>(GF r _ _).step aU s'
 have loop:∀ s4:ah,s4 = { s₃ with heap:=h₁,toks:=s₃.toks+([]:List (Str×Value)).length }->ky (model X.prog X.w) X.A (.compLoop (.ListComp elt [⟨tg,iter,ifs,0⟩] scope pos) 0 (.ref it) (.ref Da) Xc.env) (qr (model X.prog X.w) X.A X.xe use Qf (.ref Da) s₃.heap.objs.size) s4:=by
  rintro s4 rfl
  refine EG (fun n s'=>∃ i H' aA ds ys,n+i=xs.length/\Inv Xc [] (ao own.length none++jY aV σ) H' s'/\tn i s'.heap/\(∀ b∈fp,H' b=none)/\Step H1 aC H' aA/\aN X.K aA H'/\H' Da=some (.lst ys)/\aA Da=none/\aJ X.K H' ds ys /\
   fD (same as aC) tf (xs.drop i) ds aA R) ?_ xs.length
   ⟨0,_,aC,[],[],rfl,B0,t1,fun b hb=>(f3 b hb).1,mU hD1,aU.new hD1,dH,aU.fresh hD1,.nil,by simpa using q⟩
  rintro n s' ⟨i,H',aA,ds,ys,hni,I',ti,fr',cT,cQ,hD',hst',rs,q'⟩
  rw[<-hXE]
  by_cases hi:i<xs.length
  ·-- a turn
   have ed:xs.drop i=xs[i]::xs.drop (i+1):=e9 hi
   rw[ed]at q'
   obtain⟨g1,gl,q'⟩:=q'
   have hx:xs[i]? = some xs[i]:=bw hi
   have hpn:=T.item Xc eP eW eK eC i [] s' _ H' XE I' (fC fr') ti (j.go i H' aA xs[i] cT cQ g1 hx)
   rw[eA]at hpn
   refine bA hpn fun rr s5 ⟨u,hu,h5⟩=>?_
   subst hu
   refine bA h5 fun _ s6 ⟨v,H6,I6,rv,y6,t6,fr6⟩=>?_
   obtain⟨s6s,IU,rd⟩:=j.yld i H' aA xs[i] v H6 cT cQ g1 hx y6
   have D6:=s6s Da _ hD' hst'
   have I6':=I6.pinned (fC fr6) (T.obj _ _ t6)
   have hasg:=hgc _ s6 _ H6 v u (fun σ2 H2=>∃ kA,H2=H6/\bZ X.K H6 kA σ2/\(∀ i,own.length<=i->σ2[i]? = (ao own.length none++jY aV σ)[i]?)/\σ2.length=(ao own.length none++jY aV σ).length /\
    eE C sub EX gF kA aA fun b aQ=>if b=true then aF C sub EX xe kA aQ fun d bY=>fD (same as aC) tf (xs.drop (i+1)) (ds++[d]) bY R else fD (same as aC) tf (xs.drop (i+1)) ds aQ R) I6' rv
    (A2 jH (htf _ _ _ q') ((capsRel cT).step cQ s6s) rd fun σ2 kA r2 p2 k2 l2=>⟨kA,rfl,r2,k2,l2,p2⟩)
   rw[eP,eW,eA,eX]at hasg
   refine bA hasg fun _ s7 ⟨σ2,H7,I7,kA,e7,r7,k7,l7,q7⟩=>?_
   subst e7
   have hte:=htc _ s7 σ2 H7 _ I7 ⟨kA,aA,_,r7,IU,q7,fun b H' z=>z⟩
   rw[eP,eW,eA,eX]at hte
   have again:∀{H8:Hp}{s8:ah}{eU:aB}{ds8:List D}{ys8:List V},Inv Xc ([]++sC fp s6.heap) σ2 H8 s8->Step H1 aC H8 eU->aN X.K eU H8->H8 Da=some (.lst ys8)->eU Da=none->aJ X.K H8 ds8 ys8->fD (same as aC) tf (xs.drop (i+1)) ds8 eU R ->
     ∃ m,m<n/\∃ i H' aA ds ys,m+i=xs.length/\Inv Xc [] (ao own.length none++jY aV σ) H' s8/\tn i s8.heap/\(∀ b∈fp,H' b=none)/\Step H1 aC H' aA/\aN X.K aA H'/\H' Da=some (.lst ys)/\aA Da=none/\aJ X.K H' ds ys/\fD (same as aC) tf (xs.drop i) ds aA R:=fun{H8 s8 eU ds8 ys8} I8 s8s wJ hD8 hs8 rs8 q8=>by
    have pinned:∀ b∈fp,∀ o,s6.heap.get? b=some o->s8.heap.get? b=some o/\H8 b=none:=fun b hb o e=>by
     have:=I8.pin (b,o) (cz _ (cz _ (oD hb e)))
     exact⟨this.1,this.2.1⟩
    refine⟨n-1,by omega,i+1,H8,eU,ds8,ys8,by omega,?_,T.keep _ _ _ t6 fun b hb o e=>(pinned b hb o e).1,fun b hb=>?_,s8s,wJ,hD8,hs8,rs8,q8⟩
    ·refine I8.pA.weak (by rw[l7]) fun i0 v0 e0=>?_
     by_cases hi0:i0<own.length
     ·rw[dh (by simpa using hi0),fw]at e0
      split at e0<;>cases e0
     ·rw[k7 i0 (by omega)];exact e0
    ·obtain⟨o,e,_⟩:=T.obj _ _ t6 b hb
     exact(pinned b hb o e).2
   have s17:=cT.trans s6s
   have rs7:=rs.step cQ s6s
   refine bA hte fun b s8 ⟨H8,I8,eU,s8s,wJ,q8⟩=>?_
   have D8:=s8s Da _ D6.1 D6.2
   have rs8:=rs7.step IU s8s
   cases b with
   |false=>exact again I8 (s17.trans s8s) wJ D8.1 D8.2 rs8 q8
   |true =>
    have hel:=hec _ s8 σ2 H8 _ I8 ⟨kA,eU,_,r7.step IU s8s,wJ,q8,fun v H' z=>z⟩
    rw[eP,eW,eA,eX]at hel
    refine bA hel fun u9 s9 ⟨v9,H9,I9,rv9,d9,wK,s9s,En,rd9,q9⟩=>?_
    have D9:=s9s Da _ D8.1 D8.2
    have rs9:=rs8.step wJ s9s
    have hap:=L2.nH _ s9 σ2 H9 (.ref Da) [v9] (.ref Da) [u9] (fun _ H'=>H'=upd H9 Da (.lst (ys++[v9]))) I9 rfl (.cons rv9 .nil) ⟨Da,ys,v9,rfl,rfl,D9.1,by rw[fI,<-rs9.length];exact gl,rfl⟩
    rw[eP,eW,eA,eX]at hap
    refine bA hap fun _ s10 ⟨_,H10,I10,_,e10⟩=>?_
    subst e10
    refine again I10 (fun a o e0 n0=>?_) (En.alt D9.1 D9.2) dH D9.2 ((rs9.append (.cons rd9 .nil)).alt D9.1) q9
    have:=((s17.trans s8s).trans s9s) a o e0 n0
    exact⟨by rw[aZ (cJ e0 hD1)];exact this.1,this.2⟩
  ·-- the end
   have ed:xs.drop i=[]:=f9 (by omega)
   rw[ed]at q'
   have hpn:=T.done Xc eP eW eK eC i [] s' _ H' XE I' (fC fr') ti (j.stop i H' aA cT cQ q'.1 (by omega))
   rw[eA]at hpn
   refine bA hpn fun rr s5 ⟨hr,I5⟩=>?_
   subst hr
   have un5:Un (eM X.stack) fp (upd H1 Da (.lst [])) H' s₃.heap s5.heap:=by have:=I5.base;rw[<-hXc]at this;exact this
   have os5:s5.os=s₃.os:=by have:=I5.os;rw[<-hXc]at this;exact this
   have fC5:H' s₃.heap.objs.size=none:=by have:=I5.free;rw[eL]at this;exact this
   have hch:=hch0
   have hok5:dN X.prog X.w H' s5.heap:=by have:=I5.bJ;rw[eP,eW]at this;exact this
   have Iall:∀ h',(∀ b o,b≠s₃.heap.objs.size->s5.heap.get? b=some o->h'.get? b=some o)->dN X.prog X.w H' h'->Inv X pz σ H' { s5 with heap:=h' }:=fun h' kk bJ=>by
    have ne:∀ b o,s₃.heap.get? b=some o->b≠s₃.heap.objs.size:=fun b o e=>bj (a9 e)
    refine I3.lT (s':={ s5 with heap:=h' }) (ch:=fp) os5 ⟨fun b o e n hb hx=>kk b o (ne b o e) (un5.keep b o e n hb hx),fun b o e n hb hx=>?_,un5.free,fun b o e hx=>?_,un5.iM,un5.iA,un5.iX⟩ bJ I5.bare hch
    ·obtain⟨sl,e'⟩:=un5.slot b o e n hb hx
     exact⟨sl,kk b _ (ne b o e) e'⟩
    ·obtain⟨o',e'⟩:=un5.there b o e hx
     exact⟨o',kk b o' (ne b o e) e'⟩
   obtain⟨m5,ns5,_⟩:=I5.loc
   rw[eL]at ns5
   refine fin Da s₃.heap.objs.size H' aA ds m5 s5 ns5 (fun h' hs=>Iall h' (fun b o hb e=>hs.extBut b o hb e) (CK hok5 fC5 hs)) (Iall s5.heap (fun b o _ e=>e) hok5) (p0 I3.lt) (fun x c e=>?_) (I3.Q2 (bb _)) I3.sz (fun p hp=>bj (a9 (I3.pin p hp).1)) fC5 cT (cQ.take hD' rs) hD1 hst' q'.2
   obtain⟨v,o,ho,_⟩:=I3.cell x c e
   exact bj (a9 ho)
 have hl:=loop _ rfl
 rw[eN]at hl
 exact uw hl (T.self X.A 0 _ _ _ t1 hl)
theorem U4 {Cl:Addr}{EX:XK}(hC:bN C C)(S:iU X scope cn aV)(hc:X.calm=true)(jH:one=true->own.length=1)(hPA:AY X Cl EX)(dA:X.stack=X.env::X.outer)(hfm:∃ L,X.env.frame=some L)
 (hi:PI X tg iter (uV X.K fun σ st M=>bC C sub EX aD σ st fun ds aC=>iJ k ds aC fun as xs=>M as xs aC))
 (hg:∀ fp s H Ca XE,PG ((gN X scope own cn fp s H Ca).gK XE) tg (zS X.K one own.length))
 (hts:∀ fp s H Ca XE,vU ((gN X scope own cn fp s H Ca).gK XE) ifs (nY X.K (eE C sub EX gF)))
 (he:∀ fp s H Ca XE,iG (fG X.prog X.w Cl) ((gN X scope own cn fp s H Ca).gK XE) (EE X.K EX)->PE ((gN X scope own cn fp s H Ca).gK XE) elt (bT X.K (aF C sub EX xe)))
 (hs:∀ x,fq iter X.env x=pure x):
 PE X (.ListComp elt [⟨tg,iter,ifs,0⟩] scope pos) (bT X.K (aF C sub EX (.comp own.length aV (bc own.length) one k aD gF xe))):=by
 intro pz s σ H Q I ⟨σd,st,R,r,ok,q,hq⟩
 rw[Ou]
 refine mj (use:=none) rfl hs (nU (S.cells I.ok)) S.kind S.names ?_
 refine bA (hi pz s σ H _ I ⟨σd,st,_,r,ok,q,fun J H1 z=>z⟩) fun v s1 h1=>bA h1 fun itv s2 h2=>?_
 obtain⟨it,fp,tn,J,H1,rfl,I2,T,t0,f2,as,xs,aC,cT,aU,j,q1⟩:=h2
 refine MR (use:=none) hC S hc jH hPA dA hfm hg hts he I2 T t0 f2 (r.step ok cT) aU j q1 ?_
 intro Da Ca H' aA ds m s' hns CO hI _ _ _ _ _ _ kO okp hD1 hst' hR
 exact⟨m,hns,fun h' hh=>⟨.ref Da,H',CO h' hh,rfl,hq _ _ ⟨.ref Da,_,zF cT kO hD1,okp,.ref Da,hR.2 Da hst'⟩⟩⟩
theorem TL {Cl:Addr}{EX:XK}(m:bN C C)(hPA:AY X Cl EX)(S:iU X scope cn aV)(hi:JI X C sub EX tg iter k aD)
 (hg:∀ fp s H Ca XE,JB ((gN X scope own cn fp s H Ca).gK XE) tg one own.length)
 (hts:∀ fp s H Ca XE,JQ ((gN X scope own cn fp s H Ca).gK XE) C sub EX ifs gF)
 (he:∀ fp s H Ca XE,iG (fG X.prog X.w Cl) ((gN X scope own cn fp s H Ca).gK XE) (EE X.K EX)->JE ((gN X scope own cn fp s H Ca).gK XE) C sub EX elt xe)(hc:X.calm=true:=by kernel_rfl)(jH:one=true->own.length=1:=by decide)
 (hs:∀ x,fq iter X.env x=pure x:=by intro _;rfl)(dA:X.stack=X.env::X.outer:=by rfl)(hfm:∃ L,X.env.frame=some L:=by exact⟨_,rfl⟩):
 JE X C sub EX (.ListComp elt [⟨tg,iter,ifs,0⟩] scope pos) (.comp own.length aV (bc own.length) one k aD gF xe) :=
 ⟨U4 m S hc jH hPA dA hfm hi.h (fun a b c d e=>(hg a b c d e).h) (fun a b c d e=>(hts a b c d e).h) (fun a b c d e h=>(he a b c d e h).h) hs⟩
end
end L3
end
section
open L3 PySem
local macro_rules|`(tactic| walk_at"wpe")=>`(tactic| simp only[↓FE,↓D3,↓Ja,↓Ih,↓MF,↓Fq,↓Gb,↓XB,↓Hc,↓Kj,↓Ew,↓Gc,↓Ax,↓WS,↓Z5,↓Cv,↓Ik,↓YV,↓zJ,↓Lu,↓Il,↓Ea,↓Fi,↓Kt,↓Fw,↓Cy,↓Fk,↓Ga,↓Ia,↓Fo,↓P0,↓J5,↓Fl,↓Cj,↓Ge,↓sE,↓Bv,↓Cw,↓Dy,↓P1,↓Ct,↓ZU,↓YA,↓xH,↓Ij,↓Fb,↓CL,↓Dx,↓Km,↓Mf,↓Lk,↓Kx,↓Kr,↓Kz,↓Ll,↓Ls,↓Iz,↓Ig,↓Hd,↓Ib,↓FD,↓XH,↓VZ,↓XZ,↓Q6,↓Dl,↓O7,↓De,↓Dn,↓cmp_gt,↓ZV,↓XY,↓VT,↓SG,↓RK,↓MP,↓JD,↓MG,↓JL,↓FZ,↓IZ,↓add_int,↓add_str,↓UY,↓WW,↓sub_int,↓mul_int,↓XC,↓R1,↓mod_int,↓pow_int,↓neg_int,↓WM,↓UZ,fS,↓nK,↓J0,↓IB,↓VW,HD,S0,RJ,Mi,Li,↓aX,↓P4,↓Dr,↓Cb,↓IJ,↓ZT,Fz,↓W9,↓RE,↓Q9,↓PR,↓S3,↓U6,↓YG,↓QL,↓MV,↓MI,↓WH,↓PM,↓XW,↓GV,↓len_str,↓WG,↓O1,↓NN,↓WJ,↓Bu,↓YX,↓Ay,↓KG,↓HY,↓Ad,↓WU,↓DS,↓Ck,↓Cf,↓VQ,↓RW,↓YN,↓YM,↓J8,↓LU,↓K7,↓X8,↓nH,↓Z6,↓mul_str,↓QR,↓CH,↓YF,↓G2,↓OB,↓EH,↓JU,↓OU,↓W4,↓U3,↓EJ,↓Be,↓VG,↓uY,↓G7,↓J9,↓Cq,↓M8,az,l6,jq,ba,ao,d7,if_true,if_false,b5,c9,ai,reduceIte,cv,df,true_and,and_true,AA,MW,QK,sO,D2,DC,HB,DI,iS,V9,Bl,WA,l8,ng,nh,decide_eq_true_eq,ay,qq,List.zip_nil_left,List.zip_nil_right,mv,List.foldl_nil,ak,aj])
local macro_rules|`(tactic| walk_at"st")=>`(tactic| ((try dsimp only);(first|refine gA ?_|rw[P5]);(try walk_at"wpe")))
local macro_rules|`(tactic| walk_at"ex")=>`(tactic| ((try dsimp only);(try walk_at"wpe")))
section
namespace L3
open PySem
theorem aM {G:Prog}{f k:Nat}{fn:Fn}{ds:List D}{st:aB}{Q:VK}{E:XK}(h:G.fns f=some fn):aI G (k+1) f ds st Q E=(ds.length=fn.np/\bU (aI G k) G.sub fn.body ⟨fun _ aA=>Q .non aA,Q,fun _ _=>False,fun _ _=>False,fun c _ aA=>E c aA⟩ (start fn.np fn.nl ds) st):=by
 simp only[aI,h]
def cC (as:List Nat)(st aA:aB):Prop:=∀ a o,a∉as->st a=some o->aA a=some o
theorem cC.refl {as:List Nat}{st:aB}:cC as st st:=fun _ _ _ h=>h
theorem cC.trans {as:List Nat}{a b c:aB}(h:cC as a b)(h':cC as b c):cC as a c:=fun x o n e=>h' x o n (h x o n e)
theorem cC.mono {as bs:List Nat}{st aA:aB}(h:cC as st aA)(s:∀ a∈as,a∈bs):cC bs st aA:=fun x o n e=>h x o (fun z=>n (s x z)) e
theorem Ext.keep {as:List Nat}{st aA:aB}(h:Ext st aA):cC as st aA:=fun x o _ e=>h x o e
theorem cC.put {as:List Nat}{st:aB}{a:Nat}{o:MO}(h:a∈as):cC as st (put st a o):=fun x u n e=>by rw[cR (fun z=>n (by rw[z];exact h))];exact e
noncomputable def tK (ns:List Int)(k:Int):Int:=if k<ns.length then(ns[k.toNat]?).getD 0 else if ns=[]then 0 else(ns[(k % ns.length).toNat]?).getD 0*31+k
noncomputable def jE (ns:List Int)(k many:Int):Int :=
 let d:=(tK ns k+7919*k+1)*48271 % 2147483647
 (d*d+7*d+k) % 2147483629 % many
theorem eV {ns:List Int}{k many:Int}(h:0<many):0<=jE ns k many:=gu _ (by omega)
theorem fO {ns:List Int}{k many:Int}(h:0<many):jE ns k many<many:=fy _ h
noncomputable def lP:Fn:=⟨2,2,[.iff (.cmp .lt (.v 1) (.bi .len [(.v 0)])) [.ret (.ix (.v 0) (.v 1))] [],.iff (.cmp .eq (.v 0) (.lst [])) [.ret (.c (.int 0))] [],
 .ret (.bin .add (.bin .mul (.ix (.v 0) (.bin .mod (.v 1) (.bi .len [(.v 0)]))) (.c (.int 31))) (.v 1))]⟩
noncomputable def kM (ic:Nat):Fn:=⟨3,4,[.asg (.nm 3) (.bin .mod (.bin .mul (.bin .add (.bin .add (.call ic [(.v 0),(.v 1)]) (.bin .mul (.c (.int 7919)) (.v 1))) (.c (.int 1))) (.c (.int 48271))) (.c (.int 2147483647))),
 .ret (.bin .mod (.bin .mod (.bin .add (.bin .add (.bin .mul (.v 3) (.v 3)) (.bin .mul (.c (.int 7)) (.v 3))) (.v 1)) (.c (.int 2147483629))) (.v 2))]⟩
noncomputable def pW (im:Nat):Fn:=⟨3,3,[.asg (.ix (.v 1) (.c (.int 0))) (.bin .add (.ix (.v 1) (.c (.int 0))) (.c (.int 1))),.ret (.call im [(.v 0),(.ix (.v 1) (.c (.int 0))),(.v 2)])]⟩
theorem A7 (ns:List Int):bF (ns.map .int)=true/\cF (ns.map .int)=0:=by
 induction ns with
 |nil=>exact⟨rfl,rfl⟩
 |cons n r ih=>exact⟨by simp only[az,bF,bB,ih.1,dm],by simp only[az,cF,dF,ih.2,Nat.max_self]⟩
theorem KP {ns:List Int}{k:Int}(h0:0<=k)(h1:k<ns.length):eJ (ns.map D.int) k=some (.int ((ns[k.toNat]?).getD 0)):=by
 obtain⟨n,rfl⟩:∃ n:Nat,k=n:=⟨k.toNat,by omega⟩
 rw[iV (by simp;omega)]
 simp only[di,i1]
 rw[bw (by omega)]
 rfl
section
variable {G:Prog}{k ic im dB:Nat}{st:aB}{Q:VK}{E:XK}{ns:List Int}
theorem XG (hc:G.fns ic=some lP){i:Int}(hi:0<=i)(hQ:∀ aA,Ext st aA->Q (.int (tK ns i)) aA):aI G (k+1) ic [.bD (ns.map .int),.int i] st Q E:=by
 rw[aM hc]
 simp only[lP,start]
 refine⟨rfl,?_⟩
 refine gA ?_
 walk_at"wpe"
 simp only[aa]
 by_cases h:i<ns.length
 ·simp only[h,decide_true,if_true]
  refine gA ?_
  walk_at"wpe"
  rw[KP hi h]
  walk_at"wpe"
  have:=hQ st .refl
  simp only[tK,h,if_true]at this
  exact this
 ·simp only[h,decide_false,ai,if_false,aL]
  refine gA ?_
  walk_at"wpe"
  refine⟨Nat.zero_le _,fun p hp=>?_⟩
  have hx:Ext st (put st p (.lst [])):=Ext.new hp
  dsimp only
  have e1:bO (put st p (.lst [])) (.bD (ns.map .int)) (.ref p)=ns.isEmpty:=by
   simp only[bO,bS,CY]
   cases ns with
   |nil=>rfl
   |cons n r=>rfl
  rw[e1]
  refine⟨⟨?_,dj _⟩,⟨?_,dj _⟩,?_⟩
  ·simp only[gQ,(A7 ns).1,(A7 ns).2,g5];rfl
  ·simp only[gQ,bS,UK];rfl
  cases ns with
  |nil =>
   simp only[yx,if_true]
   refine gA ?_
   walk_at"wpe"
   have:=hQ _ hx
   simp only[tK,h,if_false,if_true]at this
   exact this
  |cons n r =>
   simp only[rl,ai,if_false,aL]
   refine gA ?_
   have hl:(0:Int)<((n::r).length:Int):=by simp only[ak];omega
   simp only[P1,MF,zJ,D3,FE,Cv,J5,P0,ZD,Co,PM,GV,mod_int,J0,aa,az,jq,ba,l6]
   refine⟨by simpa using hl,?_⟩
   have hm0:0<=i % ((n::r).length:Int):=gu _ (by omega)
   have hm1:i % ((n::r).length:Int)<(n::r).length:=fy _ hl
   have:=KP (ns:=n::r) hm0 hm1
   simp only[az,ak]at this
   simp only[ak,aa]
   rw[this]
   walk_at"wpe"
   refine⟨.inr ⟨by omega,by omega⟩,?_⟩
   have:=hQ _ hx
   simp only[tK,h,if_false]at this
   simpa using this
theorem sR (hm:G.fns im=some (kM ic))(hc:G.fns ic=some lP){i many:Int}(hi:0<=i)(hmany:0<many)(hQ:∀ aA,Ext st aA->Q (.int (jE ns i many)) aA):aI G (k+2) im [.bD (ns.map .int),.int i,.int many] st Q E:=by
 rw[aM hm]
 simp only[kM,start]
 refine⟨rfl,?_⟩
 refine gA ?_
 walk_at"wpe"
 refine XG hc hi fun aA e=>?_
 walk_at"wpe"
 refine⟨.inl ⟨by omega,by omega⟩,.inr ⟨by omega,by omega⟩,by omega,?_⟩
 refine gA ?_
 walk_at"wpe"
 have d0:0<=(tK ns i+7919*i+1)*48271 % 2147483647:=gu _ (by omega)
 have d1:(tK ns i+7919*i+1)*48271 % 2147483647<2147483647:=fy _ (by omega)
 refine⟨.inl ⟨by omega,by omega⟩,.inl ⟨by omega,by omega⟩,by omega,hmany,?_⟩
 exact hQ aA e
theorem fJ (hn:G.fns dB=some (pW im))(hm:G.fns im=some (kM ic))(hc:G.fns ic=some lP){a:Nat}{i many:Int}(ha:st a=some (.lst [.int i]))(hi:0<=i)(hmany:0<many)
 (hQ:∀ aA,cC [a] st aA->aA a=some (.lst [.int (i+1)])->Q (.int (jE ns (i+1) many)) aA):aI G (k+3) dB [.bD (ns.map .int),.ref a,.int many] st Q E:=by
 rw[aM hn]
 simp only[pW,start]
 refine⟨rfl,?_⟩
 refine gA ?_
 walk_at"wpe"
 rw[dE ha]
 walk_at"wpe"
 rw[aE ha]
 have e0:mB [D.int i].length 0=some 0:=rfl
 simp only[e0,aX,cv]
 refine gA ?_
 walk_at"wpe"
 rw[dE bS]
 walk_at"wpe"
 refine sR hm hc (by omega) hmany fun aA e=>?_
 refine hQ aA (fun x o n h=>e x o (by rw[cR (by simpa using n)];exact h)) (e a _ bS)
end
inductive W1 where
 |not|before|once|sofar
 deriving DecidableEq
inductive W2 where
 |and|or|bA|same|since
 deriving DecidableEq
inductive Sy where
 |yes|no|dU (n:List Nat)|one (w:W1)(s:Sy)|two (w:W2)(s t:Sy)
 deriving DecidableEq
noncomputable def c1:W1->List Nat
 |.not=>W "not"
 |.before=>W "before"
 |.once=>W "once"
 |.sofar=>W "sofar"
noncomputable def c2:W2->List Nat
 |.and=>W "and"
 |.or=>W "or"
 |.bA=>W "then"
 |.same=>W "same"
 |.since=>W "since"
noncomputable def toD:Sy->D
 |.yes=>.tup [.str (W "yes")]
 |.no=>.tup [.str (W "no")]
 |.dU n=>.tup [.str (W "lamp"),.str n]
 |.one w s=>.tup [.str (c1 w),toD s]
 |.two w s t=>.tup [.str (c2 w),toD s,toD t]
noncomputable def aO:Sy->Nat
 |.one _ s=>aO s+1
 |.two _ s t=>max (aO s) (aO t)+1
 |_=>1
noncomputable def p1:W1->Bool
 |.not=>false
 |_=>true
noncomputable def p2:W2->Bool
 |.since=>true
 |_=>false
noncomputable def cnt:Sy->Nat
 |.one w s=>(if p1 w then 1 else 0)+cnt s
 |.two w s t=>(if p2 w then 1 else 0)+(cnt s+cnt t)
 |_=>0
def over (names:List (List Nat)):Sy->Prop
 |.dU n=>n∈names
 |.one _ s=>over names s
 |.two _ s t=>over names s/\over names t
 |_=>True
theorem pH:∀ s:Sy,bB (toD s)=true
 |.yes=>rfl
 |.no=>rfl
 |.dU n=>rfl
 |.one w s=>by simp only[toD,bB,bF,pH s,dm]
 |.two w s t=>by simp only[toD,bB,bF,pH s,pH t,dm]
theorem rP:∀ s:Sy,dF (toD s)=aO s
 |.yes=>rfl
 |.no=>rfl
 |.dU n=>rfl
 |.one w s=>by simp only[toD,dF,cF,rP s,aO];omega
 |.two w s t=>by simp only[toD,dF,cF,rP s,rP t,aO];omega
noncomputable def mM (dB is:Nat):Fn:=⟨5,7,[.asg (.nm 5) (.call dB [(.v 0),(.v 1),(.c (.int 13))]),.iff (.or_ (.cmp .eq (.v 3) (.c (.int 0))) (.cmp .lt (.v 5) (.c (.int 3)))) [.ret (.tup [(.c (.str (W "lamp"))),(.ix (.v 2) (.call dB [(.v 0),(.v 1),(.bi .len [(.v 2)])]))])] [],.iff (.cmp .eq (.v 5) (.c (.int 3))) [.ret (.tup [(.ix (.lst [(.c (.str (W "yes"))),(.c (.str (W "no")))]) (.call dB [(.v 0),(.v 1),(.c (.int 2))]))])] [],.iff (.and_ (.cmp .gt (.v 5) (.c (.int 8))) (.cmp .gt (.ix (.v 4) (.c (.int 0))) (.c (.int 0)))) [.asg (.ix (.v 4) (.c (.int 0))) (.bin .sub (.ix (.v 4) (.c (.int 0))) (.c (.int 1))),.asg (.nm 6) (.call is [(.v 0),(.v 1),(.v 2),(.bin .sub (.v 3) (.c (.int 1))),(.v 4)]),.iff (.cmp .eq (.v 5) (.c (.int 12))) [.ret (.tup [(.c (.str (W "since"))),(.v 6),(.call is [(.v 0),(.v 1),(.v 2),(.bin .sub (.v 3) (.c (.int 1))),(.v 4)])])] [],.ret (.tup [(.ix (.lst [(.c (.str (W "before"))),(.c (.str (W "once"))),(.c (.str (W "sofar")))]) (.bin .sub (.v 5) (.c (.int 9)))),(.v 6)])] [],.asg (.nm 6) (.call is [(.v 0),(.v 1),(.v 2),(.bin .sub (.v 3) (.c (.int 1))),(.v 4)]),.iff (.or_ (.cmp .eq (.v 5) (.c (.int 4))) (.cmp .gt (.v 5) (.c (.int 8)))) [.ret (.tup [(.c (.str (W "not"))),(.v 6)])] [],.ret (.tup [(.ix (.lst [(.c (.str (W "and"))),(.c (.str (W "or"))),(.c (.str (W "then"))),(.c (.str (W "same")))]) (.bin .sub (.v 5) (.c (.int 5)))),(.v 6),(.call is [(.v 0),(.v 1),(.v 2),(.bin .sub (.v 3) (.c (.int 1))),(.v 4)])])]⟩
def Drawn (a b:Nat)(i l:Int)(st aA:aB)(i' l':Int):Prop:=cC [a,b] st aA/\0<=i'/\aA a=some (.lst [.int i'])/\aA b=some (.lst [.int l'])
section
variable {G:Prog}{k ic im dB is:Nat}{st:aB}{Q:VK}{E:XK}{ns:List Int}
theorem WX {xs:List (List Nat)}{v:Int}(h0:0<=v)(h1:v<xs.length):∃ x∈xs,eJ (xs.map D.str) v=some (.str x):=by
 obtain⟨n,rfl⟩:∃ n:Nat,v=n:=⟨v.toNat,by omega⟩
 have h:n<xs.length:=by omega
 refine⟨xs[n],ub h,?_⟩
 rw[iV (by simpa using h)]
 simp only[di]
 rw[bw h]
 rfl
theorem T1 {d:D}{r:List D}:mB (d::r).length 0=some 0:=by
 unfold mB
 rw[if_pos (by omega),if_pos (by simp only[ak];omega)]
 rfl
theorem bE {ds:List D}{Q:VK}(hl:ds.length<=aK)(h:∀ p aA,Ext st aA->st p=none->aA p=some (.lst ds)->Q (.ref p) aA):fX ds st Q:=⟨hl,fun p hp=>h p _ (Ext.new hp) hp bS⟩
theorem pR (hs:G.fns is=some (mM dB is))(hn:G.fns dB=some (pW im))(hm:G.fns im=some (kM ic))(hc:G.fns ic=some lP){names:List (List Nat)}(kF:0<names.length){a b:Nat}(dG:a≠b):
  ∀(n:Nat){st:aB}{Q:VK}{E:XK}{i l:Int},st a=some (.lst [.int i])->st b=some (.lst [.int l])->0<=i->0<=l ->
   (∀ s aA i',over names s->aO s<=n+1->(cnt s:Int)<=l->cC [a,b] st aA->0<=i'->aA a=some (.lst [.int i'])->aA b=some (.lst [.int (l-cnt s)])->Q (toD s) aA) ->
   aI G (k+n+4) is [.bD (ns.map .int),.ref a,.tup (names.map .str),.int n,.ref b] st Q E:=by
 intro n
 have dU:∀{n:Nat}{st:aB}{Q:VK}{E:XK}{i l:Int}{K:Nat}{P:eB}{r:St},st a=some (.lst [.int i])->st b=some (.lst [.int l])->0<=i->0<=l ->
   (∀ s aA i',over names s->aO s<=n+1->(cnt s:Int)<=l->cC [a,b] st aA->0<=i'->aA a=some (.lst [.int i'])->aA b=some (.lst [.int (l-cnt s)])->P.rt (toD s) aA) ->
   bU (aI G (K+3)) G.sub [.ret (.tup [(.c (.str (W "lamp"))),(.ix (.v 2) (.call dB [(.v 0),(.v 1),(.bi .len [(.v 2)])]))])] P (some (.bD (ns.map .int))::some (.ref a)::some (.tup (names.map .str))::r) st:=by
  intro n st Q E i l K P r ha hb hi hl hQ
  walk_at"st"
  simp only[aa]
  refine fJ hn hm hc ha hi (by omega) fun aC k1 a1=>?_
  walk_at"ex"
  obtain⟨x,hx,e⟩:=WX (xs:=names) (eV (ns:=ns) (k:=i+1) (many:=names.length) (by omega)) (fO (by omega))
  rw[e]
  walk_at"ex"
  have b1:aC b=some (.lst [.int l]):=k1 b _ (by simpa using dG.symm) hb
  exact hQ (.dU x) aC (i+1) hx (by simp [aO]) (by simp [cnt];omega) (k1.mono (by simp)) (by omega) a1 (by simpa [cnt]using b1)
 induction n with
 |zero =>
  intro st Q E i l ha hb hi hl hQ
  rw[aM hs]
  simp only[mM,start]
  refine⟨rfl,?_⟩
  walk_at"st"
  refine fJ hn hm hc ha hi (by omega) fun aC k1 a1=>?_
  walk_at"st"
  simp only[Int.natCast_zero,beq_self_eq_true,if_true]
  have b1:aC b=some (.lst [.int l]):=k1 b _ (by simpa using dG.symm) hb
  have kk:cC [a,b] st aC:=k1.mono (by simp)
  exact dU (n:=0) (Q:=Q) (E:=E) a1 b1 (by omega) hl fun s aA i' h1 h2 h3 h4 h5 h6 h7=>hQ s aA i' h1 h2 h3 (kk.trans h4) h5 h6 h7
 |succ n ih =>
  intro st Q E i l ha hb hi hl hQ
  rw[aM hs]
  simp only[mM,start]
  refine⟨rfl,?_⟩
  walk_at"st"
  refine fJ hn hm hc ha hi (by omega) fun aC k1 a1=>?_
  have v0:=eV (ns:=ns) (k:=i+1) (many:=13) (by omega)
  have v1:=fO (ns:=ns) (k:=i+1) (many:=13) (by omega)
  generalize jE ns (i+1) 13=v at v0 v1
  have b1:aC b=some (.lst [.int l]):=k1 b _ (by simpa using dG.symm) hb
  have kk:cC [a,b] st aC:=k1.mono (by simp)
  have hn0:(((n+1:Nat):Int)==0)=false:=by rw[beq_eq_false_iff_ne];omega
  have hn1:((n+1:Nat):Int)-1=(n:Int):=by omega
  walk_at"st"
  simp only[hn0,ai,if_false]
  by_cases h3:v<3
  ·simp only[h3,decide_true,if_true]
   exact dU (n:=n+1) (Q:=Q) (E:=E) a1 b1 (by omega) hl fun s aA i' h1 h2 h3 h4 h5 h6 h7=>hQ s aA i' h1 h2 h3 (kk.trans h4) h5 h6 h7
  simp only[h3,decide_false,ai,if_false,aL]
  walk_at"st"
  by_cases e3:v=3
  ·subst e3
   simp only[beq_self_eq_true,if_true]
   walk_at"st"
   refine bE (by decide) fun p aG x2 hp eZ=>?_
   walk_at"ex"
   have pa:p≠a:=fun z=>by rw[z,a1]at hp;cases hp
   have pb:p≠b:=fun z=>by rw[z,b1]at hp;cases hp
   refine fJ hn hm hc (x2 a _ a1) (by omega) (by omega) fun aQ k3 a3=>?_
   walk_at"ex"
   have w0:=eV (ns:=ns) (k:=i+1+1) (many:=2) (by omega)
   have w1:=fO (ns:=ns) (k:=i+1+1) (many:=2) (by omega)
   generalize jE ns (i+1+1) 2=w at w0 w1
   rw[dE (k3 p _ (by simpa using pa) eZ)]
   have b3:aQ b=some (.lst [.int l]):=k3 b _ (by simpa using dG.symm) (x2 b _ b1)
   have kk3:cC [a,b] st aQ:=(kk.trans x2.keep).trans (k3.mono (by simp))
   obtain rfl|rfl:w=0∨w=1:=by omega
   ·walk_at"ex"
    exact hQ .yes aQ _ trivial (by simp [aO]) (by simp [cnt];omega) kk3 (by omega) a3 (by simpa [cnt]using b3)
   ·walk_at"ex"
    exact hQ .no aQ _ trivial (by simp [aO]) (by simp [cnt];omega) kk3 (by omega) a3 (by simpa [cnt]using b3)
  have e3':(v==3)=false:=by rw[beq_eq_false_iff_ne];exact e3
  simp only[e3',ai,if_false,aL]
  walk_at"st"
  have plain:∀{P:eB},(∀ s aA i',over names s->aO s<=n+1+1->(cnt s:Int)<=l->cC [a,b] st aA->0<=i'->aA a=some (.lst [.int i'])->aA b=some (.lst [.int (l-cnt s)])->P.rt (toD s) aA) ->
    bU (aI G (k+n+4)) G.sub [.asg (.nm 6) (.call is [(.v 0),(.v 1),(.v 2),(.bin .sub (.v 3) (.c (.int 1))),(.v 4)]),.iff (.or_ (.cmp .eq (.v 5) (.c (.int 4))) (.cmp .gt (.v 5) (.c (.int 8)))) [.ret (.tup [(.c (.str (W "not"))),(.v 6)])] [],.ret (.tup [(.ix (.lst [(.c (.str (W "and"))),(.c (.str (W "or"))),(.c (.str (W "then"))),(.c (.str (W "same")))]) (.bin .sub (.v 5) (.c (.int 5)))),(.v 6),(.call is [(.v 0),(.v 1),(.v 2),(.bin .sub (.v 3) (.c (.int 1))),(.v 4)])])] P [some (.bD (ns.map .int)),some (.ref a),some (.tup (names.map .str)),some (.int ((n+1:Nat):Int)),some (.ref b),some (.int v),none] aC:=by
   intro P hQ
   walk_at"st"
   rw[hn1]
   refine ih a1 b1 (by omega) hl fun s1 aG i2 o1 d1 cc1 k2 hi2 a2 b2=>?_
   walk_at"st"
   have hor:((v==4)||decide (8<v))=true∨(v=5∨v=6∨v=7∨v=8):=by
    by_cases q:v=4
    ·left;simp [q]
    ·by_cases q':8<v
     ·left;simp [q']
     ·right;omega
   rcases hor with hor|hor
   ·have go:bU (aI G (k+n+4)) G.sub [.ret (.tup [.c (.str (W "not")),.v 6])] { P with nx:=bU (aI G (k+n+4)) G.sub [.ret (.tup [(.ix (.lst [(.c (.str (W "and"))),(.c (.str (W "or"))),(.c (.str (W "then"))),(.c (.str (W "same")))]) (.bin .sub (.v 5) (.c (.int 5)))),(.v 6),(.call is [(.v 0),(.v 1),(.v 2),(.bin .sub (.v 3) (.c (.int 1))),(.v 4)])])] P } [some (.bD (ns.map .int)),some (.ref a),some (.tup (names.map .str)),some (.int ((n+1:Nat):Int)),some (.ref b),some (.int v),some (toD s1)] aG:=by
     walk_at"st"
     exact hQ (.one .not s1) aG i2 o1 (by simp only[aO];omega) (by simp [cnt,p1];omega) (kk.trans k2) hi2 a2 (by simpa [cnt,p1]using b2)
    by_cases q:v=4
    ·simp only[q,beq_self_eq_true,if_true]
     rw[q]at go;exact go
    ·have q1:(v==4)=false:=by rw[beq_eq_false_iff_ne];exact q
     have q2:8<v:=by simpa [q1]using hor
     simp only[q1,q2,ai,if_false,if_true]
     exact go
   ·have q1:(v==4)=false:=by rw[beq_eq_false_iff_ne];omega
    have q2:¬8<v:=by omega
    simp only[q1,q2,ai,if_false,aL]
    walk_at"st"
    refine bE (by decide) fun p aQ x3 hp hp3=>?_
    walk_at"ex"
    rw[dE hp3]
    have pa:p≠a:=fun z=>by rw[z,a2]at hp;cases hp
    have pb:p≠b:=fun z=>by rw[z,b2]at hp;cases hp
    have step:∀ w:W2,p2 w=false->∀{Q:VK},(∀ s aA i',over names s->aO s<=n+1+1->(cnt s:Int)<=l->cC [a,b] st aA->0<=i'->aA a=some (.lst [.int i'])->aA b=some (.lst [.int (l-cnt s)])->Q (toD s) aA) ->
      aI G (k+n+4) is [.bD (ns.map .int),.ref a,.tup (names.map .str),.int (((n+1:Nat):Int)-1),.ref b] aQ (fun d aA=>Q (.tup [.str (c2 w),toD s1,d]) aA) fun _ _=>False:=by
     intro w hw Q hQ
     rw[hn1]
     refine ih (x3 a _ a2) (x3 b _ b2) hi2 (by omega) fun s2 bY i4 o2 d2 c2' k4 hi4 a4 b4=>?_
     refine hQ (.two w s1 s2) bY i4 ⟨o1,o2⟩ (by simp only[aO];omega) (by simp only[cnt,hw];simp;omega) ((kk.trans k2).trans (x3.keep.trans k4)) hi4 a4 ?_
     rw[b4];simp only[cnt,hw];simp;omega
    rcases hor with rfl|rfl|rfl|rfl
    ·walk_at"ex"; exact step .and rfl hQ
    ·walk_at"ex"; exact step .or rfl hQ
    ·walk_at"ex"; exact step .bA rfl hQ
    ·walk_at"ex"; exact step .same rfl hQ
  by_cases h8:8<v
  ·simp only[h8,if_true]
   rw[dE b1]
   walk_at"ex"
   by_cases hl0:0<l
   ·simp only[hl0,if_true]
    walk_at"st"
    rw[dE b1]
    walk_at"ex"
    rw[aE b1]
    simp only[T1,aX,cv]
    have a2:(put aC b (.lst [.int (l-1)])) a=some (.lst [.int (i+1)]):=by rw[cR dG];exact a1
    have kp:cC [a,b] st (put aC b (.lst [.int (l-1)])):=kk.trans (cC.put (by simp))
    walk_at"st"
    rw[hn1]
    refine ih a2 bS (by omega) (by omega) fun s1 aG i2 o1 d1 cc1 k2 hi2 a3 b3=>?_
    walk_at"st"
    by_cases e12:v=12
    ·simp only[e12,beq_self_eq_true,if_true]
     walk_at"st"
     rw[hn1]
     refine ih a3 b3 hi2 (by omega) fun s2 bY i4 o2 d2 c2' k4 hi4 a4 b4=>?_
     refine hQ (.two .since s1 s2) bY i4 ⟨o1,o2⟩ (by simp only[aO];omega) (by simp [cnt,p2];omega) ((kp.trans k2).trans k4) hi4 a4 ?_
     rw[b4];simp [cnt,p2];omega
    ·have e12':(v==12)=false:=by rw[beq_eq_false_iff_ne];exact e12
     simp only[e12',ai,if_false,aL]
     walk_at"st"
     refine bE (by decide) fun p aQ x3 hp hp3=>?_
     walk_at"ex"
     rw[dE hp3]
     have fin:∀ w:W1,p1 w=true->Q (.tup [.str (c1 w),toD s1]) aQ:=fun w hw=>by
      refine hQ (.one w s1) aQ i2 o1 (by simp only[aO];omega) (by simp [cnt,hw];omega) ((kp.trans k2).trans x3.keep) hi2 (x3 _ _ a3) ?_
      rw[x3 _ _ b3];simp [cnt,hw];omega
     obtain rfl|rfl|rfl:v=9∨v=10∨v=11:=by omega
     ·walk_at"ex"; exact fin .before rfl
     ·walk_at"ex"; exact fin .once rfl
     ·walk_at"ex"; exact fin .sofar rfl
   ·simp only[hl0,if_false,aL]
    exact plain hQ
  ·simp only[h8,if_false,aL]
   exact plain hQ
end
noncomputable def mW:List (List Nat):=[W "a", W "b", W "x", W "y", W "lamp", W "far", W "yesno", W "abcdefgh"]
noncomputable def rB (fs gs:List (List Nat)):Bool:=decide (1<=fs.length)&&decide (fs.length<=2)&&decide (1<=gs.length)&&decide (gs.length<=2)&&decide ((fs++gs).Nodup)&&(fs++gs).all fun n=>mW.contains n
noncomputable def nT (t:Int):List (List Nat):=cut mW (some t) none++cut mW none (some t)
theorem NX:∀(t:Fin 8)(f g:Fin 2),rB (cut (nT (t.val:Nat)) none (some (1+(f.val:Nat)))) (cut (nT (t.val:Nat)) (some (1+(f.val:Nat))) (some (1+(f.val:Nat)+(1+(g.val:Nat)))))=true:=by decide +kernel
theorem PJ {t f g:Int}(h0:0<=t)(h1:t<8)(h2:0<=f)(h3:f<2)(h4:0<=g)(h5:g<2):rB (cut (nT t) none (some (1+f))) (cut (nT t) (some (1+f)) (some (1+f+(1+g))))=true:=by
 have:=NX ⟨t.toNat,by omega⟩ ⟨f.toNat,by omega⟩ ⟨g.toNat,by omega⟩
 simp only[pk h0,pk h2,pk h4]at this
 exact this
theorem wX {α β:Type}(f:α->β)(xs:List α)(lo hi:Option Int):cut (xs.map f) lo hi=(cut xs lo hi).map f:=by
 simp only[cut,aa,List.map_take,List.map_drop]
noncomputable def AW (dB:Nat):Fn:=⟨2,7,[.asg (.nm 2) (.lst [(.c (.str (W "a"))),(.c (.str (W "b"))),(.c (.str (W "x"))),(.c (.str (W "y"))),(.c (.str (W "lamp"))),(.c (.str (W "far"))),(.c (.str (W "yesno"))),(.c (.str (W "abcdefgh")))]),.asg (.nm 3) (.call dB [(.v 0),(.v 1),(.c (.int 8))]),.asg (.nm 4) (.bin .add (.sl (.v 2) [(.v 3)] []) (.sl (.v 2) [] [(.v 3)])),.asg (.nm 5) (.bin .add (.c (.int 1)) (.call dB [(.v 0),(.v 1),(.c (.int 2))])),.asg (.nm 6) (.bin .add (.c (.int 1)) (.call dB [(.v 0),(.v 1),(.c (.int 2))])),.ret (.tup [(.bi .tuple [(.sl (.v 4) [] [(.v 5)])]),(.bi .tuple [(.sl (.v 4) [(.v 5)] [(.bin .add (.v 5) (.v 6))])])])]⟩
section
variable {G:Prog}{k ic im dB is:Nat}{st:aB}{Q:VK}{E:XK}{ns:List Int}
theorem S1 {inm:Nat}(hm':G.fns inm=some (AW dB))(hn:G.fns dB=some (pW im))(hm:G.fns im=some (kM ic))(hc:G.fns ic=some lP){a:Nat}{i:Int}(ha:st a=some (.lst [.int i]))(hi:0<=i)
  (hQ:∀ fs gs aA i',rB fs gs=true->cC [a] st aA->0<=i'->aA a=some (.lst [.int i'])->Q (.tup [.tup (fs.map .str),.tup (gs.map .str)]) aA):
  aI G (k+4) inm [.bD (ns.map .int),.ref a] st Q E:=by
 have hL:aK=16777216:=rfl
 rw[aM hm']
 simp only[AW,start]
 refine⟨rfl,?_⟩
 walk_at"st"
 refine bE (by decide) fun p aC x1 hp hp1=>?_
 have pa:p≠a:=fun z=>by rw[z,ha]at hp;cases hp
 walk_at"st"
 refine fJ hn hm hc (x1 a _ ha) hi (by omega) fun aG k2 a2=>?_
 have t0:=eV (ns:=ns) (k:=i+1) (many:=8) (by omega)
 have t1:=fO (ns:=ns) (k:=i+1) (many:=8) (by omega)
 generalize jE ns (i+1) 8=t at t0 t1
 have p2:=k2 p _ (by simpa using pa) hp1
 walk_at"st"
 rw[aE p2]
 intro q hq
 have x3:Ext aG (put aG q (.lst (cut [.str (W "a"),.str (W "b"),.str (W "x"),.str (W "y"),.str (W "lamp"),.str (W "far"),.str (W "yesno"),.str (W "abcdefgh")] (some t) none))):=Ext.new hq
 walk_at"ex"
 rw[aE (x3 p _ p2)]
 intro q' hq'
 have x4:=Ext.new (o:=.lst (cut [.str (W "a"),.str (W "b"),.str (W "x"),.str (W "y"),.str (W "lamp"),.str (W "far"),.str (W "yesno"),.str (W "abcdefgh")] none (some t))) hq'
 walk_at"ex"
 rw[aE (x4 q _ bS),aE bS]
 have eL:([.str (W "a"),.str (W "b"),.str (W "x"),.str (W "y"),.str (W "lamp"),.str (W "far"),.str (W "yesno"),.str (W "abcdefgh")]:List D)=mW.map .str:=rfl
 have er:cut ([.str (W "a"),.str (W "b"),.str (W "x"),.str (W "y"),.str (W "lamp"),.str (W "far"),.str (W "yesno"),.str (W "abcdefgh")]:List D) (some t) none++cut [.str (W "a"),.str (W "b"),.str (W "x"),.str (W "y"),.str (W "lamp"),.str (W "far"),.str (W "yesno"),.str (W "abcdefgh")] none (some t)=(nT t).map .str:=by
  rw[eL,wX,wX,<-dr];rfl
 have lr:(nT t).length<=16:=by
  have l1:=wZ (xs:=mW) (lo:=some t) (hi:=none)
  have l2:=wZ (xs:=mW) (lo:=none) (hi:=some t)
  have l3:mW.length=8:=rfl
  simp only[nT,aq];omega
 rw[er]
 refine bE (by simp only[aa];omega) fun r dY x5 hr hr5=>?_
 have k5:cC [a] st dY:=((x1.keep.trans k2).trans x3.keep).trans (x4.keep.trans x5.keep)
 have a5:dY a=some (.lst [.int (i+1)]):=x5 _ _ (x4 _ _ (x3 _ _ a2))
 have ra:r≠a:=fun z=>by rw[z,x4 _ _ (x3 _ _ a2)]at hr;cases hr
 walk_at"st"
 refine fJ hn hm hc a5 (by omega) (by omega) fun fQ k6 a6=>?_
 have f0:=eV (ns:=ns) (k:=i+1+1) (many:=2) (by omega)
 have f1:=fO (ns:=ns) (k:=i+1+1) (many:=2) (by omega)
 generalize jE ns (i+1+1) 2=f at f0 f1
 walk_at"ex"
 walk_at"st"
 refine fJ hn hm hc a6 (by omega) (by omega) fun yT k7 a7=>?_
 have g0:=eV (ns:=ns) (k:=i+1+1+1) (many:=2) (by omega)
 have g1:=fO (ns:=ns) (k:=i+1+1+1) (many:=2) (by omega)
 generalize jE ns (i+1+1+1) 2=g at g0 g1
 have r7:yT r=some (.lst ((nT t).map .str)):=k7 r _ (by simpa using ra) (k6 r _ (by simpa using ra) hr5)
 walk_at"ex"
 walk_at"st"
 rw[aE r7]
 intro u hu
 walk_at"ex"
 rw[aE bS]
 have xu:=Ext.new (o:=.lst (cut ((nT t).map D.str) none (some (1+f)))) hu
 have c1:=wZ (xs:=(nT t).map D.str) (lo:=none) (hi:=some (1+f))
 have c2:=wZ (xs:=(nT t).map D.str) (lo:=some (1+f)) (hi:=some (1+f+(1+g)))
 simp only[aa]at c1 c2
 refine⟨by omega,?_⟩
 rw[aE (xu r _ r7)]
 intro u' hu'
 walk_at"ex"
 rw[aE bS]
 refine⟨by omega,?_⟩
 have xu':=Ext.new (o:=.lst (cut ((nT t).map D.str) (some (1+f)) (some (1+f+(1+g))))) hu'
 rw[wX,wX]at *
 exact hQ _ _ _ (i+1+1+1) (PJ t0 t1 f0 f1 g0 g1) ((k5.trans (k6.trans k7)).trans (xu.keep.trans xu'.keep)) (by omega) (xu' _ _ (xu _ _ a7))
end
mutual
theorem X5:∀ d:D,bB d=true->cK d d=true
 |.non,_=>rfl
 |.bl b,_=>by simp [cK]
 |.int i,_=>by simp [cK]
 |.str x,_=>by simp [cK]
 |.tup ds,h=>by simp only[bB]at h;simp only[cK];exact GN ds h
 |.ref _,h=>by simp [bB]at h
 |.cH _ _,h=>by simp [bB]at h
 |.bD _,h=>by simp [bB]at h
 |.exc _,h=>by simp [bB]at h
theorem GN:∀ ds:List D,bF ds=true->jD ds ds=true
 |[],_=>rfl
 |d::ds,h=>by
  simp only[bF,ay]at h
  simp only[jD,X5 d h.1,GN ds h.2,dm]
end
mutual
theorem KW {st:aB}:∀ d:D,bB d=true->bO st d d=true
 |.non,_=>rfl
 |.bl b,_=>by simp [bO]
 |.int i,_=>by simp [bO]
 |.str x,_=>by simp [bO]
 |.tup ds,h=>by simp only[bB]at h;simp only[bO];exact HU ds h
 |.ref _,h=>by simp [bB]at h
 |.cH _ _,h=>by simp [bB]at h
 |.bD _,h=>by simp [bB]at h
 |.exc _,h=>by simp [bB]at h
theorem HU {st:aB}:∀ ds:List D,bF ds=true->jF st ds ds=true
 |[],_=>rfl
 |d::ds,h=>by
  simp only[bF,ay]at h
  simp only[jF,KW d h.1,HU ds h.2,dm]
end
theorem Bh (w w':W1):(c1 w==c1 w')=decide (w=w'):=by cases w<;>cases w'<;>decide +kernel
theorem Z7 (w w':W2):(c2 w==c2 w')=decide (w=w'):=by cases w<;>cases w'<;>decide +kernel
theorem KS (w:W1):(W "lamp" == c1 w)=false/\(c1 w==W "lamp")=false:=by cases w<;>decide +kernel
theorem cD {st:aB}{as bs:List D}:bO st (.tup as) (.tup bs)=jF st as bs:=by simp only[bO]
theorem bQ {st:aB}{a b:D}{as bs:List D}:jF st (a::as) (b::bs)=(bO st a b&&jF st as bs):=by simp only[jF]
theorem pB {st:aB}:jF st [] []=true:=rfl
theorem lF {st:aB}{b:D}{bs:List D}:jF st [] (b::bs)=false:=rfl
theorem lA {st:aB}{b:D}{bs:List D}:jF st (b::bs) []=false:=rfl
theorem NM:(W "yes" == W "no")=false/\(W "no" == W "yes")=false:=by decide +kernel
theorem xK {st:aB}:∀ s t:Sy,bO st (toD s) (toD t)=decide (s=t)
 |.yes,.yes=>by simp only[toD,cD,bQ,iS,pB,beq_self_eq_true,dm,decide_true]
 |.yes,.no=>by simp only[toD,cD,bQ,iS,NM.1,fj];rfl
 |.yes,.dU _=>by simp only[toD,cD,bQ,lF,b9];rfl
 |.yes,.one _ _=>by simp only[toD,cD,bQ,lF,b9];rfl
 |.yes,.two _ _ _=>by simp only[toD,cD,bQ,lF,b9];rfl
 |.no,.yes=>by simp only[toD,cD,bQ,iS,NM.2,fj];rfl
 |.no,.no=>by simp only[toD,cD,bQ,iS,pB,beq_self_eq_true,dm,decide_true]
 |.no,.dU _=>by simp only[toD,cD,bQ,lF,b9];rfl
 |.no,.one _ _=>by simp only[toD,cD,bQ,lF,b9];rfl
 |.no,.two _ _ _=>by simp only[toD,cD,bQ,lF,b9];rfl
 |.dU _,.yes=>by simp only[toD,cD,bQ,lA,b9];rfl
 |.dU _,.no=>by simp only[toD,cD,bQ,lA,b9];rfl
 |.dU m,.dU n=>by
  simp only[toD,cD,bQ,pB,iS,beq_self_eq_true,tm,g5,Sy.dU.injEq]
  rw[Bool.beq_eq_decide_eq]
 |.dU m,.one w s=>by simp only[toD,cD,bQ,iS,(KS w).1,fj];rfl
 |.dU _,.two _ _ _=>by simp only[toD,cD,bQ,lF,b9];rfl
 |.one _ _,.yes=>by simp only[toD,cD,bQ,lA,b9];rfl
 |.one _ _,.no=>by simp only[toD,cD,bQ,lA,b9];rfl
 |.one w s,.dU m=>by simp only[toD,cD,bQ,iS,(KS w).2,fj];rfl
 |.one w s,.one w' s'=>by
  simp only[toD,cD,bQ,pB,iS,Bh,xK s s',tm,Sy.one.injEq]
  by_cases h:w=w'<;>by_cases h':s=s'<;>simp [h,h']
 |.one _ _,.two _ _ _=>by simp only[toD,cD,bQ,lF,b9];rfl
 |.two _ _ _,.yes=>by simp only[toD,cD,bQ,lA,b9];rfl
 |.two _ _ _,.no=>by simp only[toD,cD,bQ,lA,b9];rfl
 |.two _ _ _,.dU _=>by simp only[toD,cD,bQ,lA,b9];rfl
 |.two _ _ _,.one _ _=>by simp only[toD,cD,bQ,lA,b9];rfl
 |.two w s t,.two w' s' t'=>by
  simp only[toD,cD,bQ,pB,iS,Z7,xK s s',xK t t',tm,Sy.two.injEq]
  by_cases h:w=w'<;>by_cases h':s=s'<;>by_cases h'':t=t'<;>simp [h,h',h'']
theorem YH {st:aB}(x:Sy)(f:List Sy):((f.map toD).any fun d=>bO st d (toD x))=f.contains x:=by
 induction f with
 |nil=>rfl
 |cons y r ih =>
 simp only[az,j7,ih,xK,kj]
 congr 1
 by_cases h:y=x
 ·simp [h]
 ·simp [h,gp h]
theorem NY (f:List Sy):bF (f.map toD)=true:=by
 induction f with
 |nil=>rfl
 |cons x r ih=>simp only[az,bF,pH,ih,dm]
theorem SU {n:Nat}(f:List Sy)(h:∀ s∈f,aO s<=n):cF (f.map toD)<=n:=by
 induction f with
 |nil=>exact dj _
 |cons x r ih =>
 simp only[az,cF,rP]
 have:=h x (by simp)
 have:=ih fun s hs=>h s (by simp [hs])
 omega
theorem QC {st:aB}{s:Sy}(h:aO s<=60):plainS st (toD s):=⟨sX _ (pH s),bz (by rw[rP];exact h) (by decide)⟩
theorem MA {st:aB}{f:List Sy}(h:∀ s∈f,aO s<=60):dR st (f.map toD):=⟨kY _ (NY f),bz (SU f h) (by decide)⟩
noncomputable def wd:Sy->List Nat
 |.yes=>W "yes"
 |.no=>W "no"
 |.dU _=>W "lamp"
 |.one w _=>c1 w
 |.two w _ _=>c2 w
noncomputable def subs:Sy->List Sy
 |.one _ s=>[s]
 |.two _ s t=>[s,t]
 |_=>[]
noncomputable def jK:Sy->Bool
 |.one w _=>p1 w
 |.two w _ _=>p2 w
 |_=>false
noncomputable def oY:Sy->Bool
 |.dU _=>true
 |_=>false
theorem E5 (s:Sy):∃ r,toD s=.tup (.str (wd s)::r):=by cases s<;>exact⟨_,rfl⟩
theorem Q4 {s:Sy}(h:oY s=false):toD s=.tup (.str (wd s)::(subs s).map toD):=by cases s<;>first|rfl|cases h
noncomputable def AV:List (List Nat):=[W "before", W "once", W "sofar", W "since"]
theorem U8 (s:Sy):AV.contains (wd s)=jK s:=by
 cases s with
 |one w s=>cases w<;>(simp only[wd,jK];decide +kernel)
 |two w s t=>cases w<;>(simp only[wd,jK];decide +kernel)
 |_=>(simp only[wd,jK];decide +kernel)
theorem XJ (s:Sy):(wd s==W "lamp")=oY s:=by
 cases s with
 |one w s=>cases w<;>(simp only[wd,oY];decide +kernel)
 |two w s t=>cases w<;>(simp only[wd,oY];decide +kernel)
 |_=>(simp only[wd,oY];decide +kernel)
noncomputable def iK (f:List Sy)(s:Sy):List Sy:=if jK s && !f.contains s then f++[s]else f
noncomputable def mG:Sy->List Sy->List Sy
 |.one w s,f=>mG s (iK f (.one w s))
 |.two w s t,f=>mG t (mG s (iK f (.two w s t)))
 |_,f=>f
noncomputable def iI:List Sy->List Sy->List Sy
 |[],f=>f
 |s::r,f=>iI r (mG s f)
theorem YS (s:Sy)(f:List Sy):mG s f=iI (subs s) (iK f s):=by
 cases s<;>simp [mG,subs,iI,iK,jK]
theorem JP (a b:List Sy)(f:List Sy):iI (a++b) f=iI b (iI a f):=by
 induction a generalizing f with
 |nil=>rfl
 |cons x r ih=>simp only[jq,iI,ih]
theorem NK (s:Sy)(r f:List Sy):iI (s::r) f=iI (subs s++r) (iK f s):=by rw[JP,<-YS];rfl
noncomputable def sz:Sy->Nat
 |.one _ s=>sz s+1
 |.two _ s t=>sz s+sz t+1
 |_=>1
noncomputable def lE (l:List Sy):Nat:=(l.map sz).sum
theorem EW:∀ s:Sy,sz s+1<=2 ^ aO s
 |.yes=>by decide
 |.no=>by decide
 |.dU _=>by simp only[sz,aO];decide
 |.one w s=>by have:=EW s;simp only[sz,aO,u1];omega
 |.two w s t=>by
  have h1:=EW s
  have h2:=EW t
  have a:=e8 (n:=2) (by omega) (vd (aO s) (aO t))
  have b:=e8 (n:=2) (by omega) (uc (aO s) (aO t))
  simp only[sz,aO,u1];omega
theorem V6 (s:Sy):lE (subs s)+1=sz s:=by cases s<;>simp [subs,lE,sz]
theorem SM {s t:Sy}(h:t∈subs s):aO t<aO s:=by cases s<;>simp [subs]at h<;>simp only[aO]<;>(try rcases h with rfl|rfl)<;>(try subst h)<;>omega
theorem zL {f:List Sy}{s:Sy}{n:Nat}(h:∀ x∈f,aO x<=n)(hs:aO s<=n):∀ x∈iK f s,aO x<=n:=by
 unfold iK
 split
 ·intro x hx
  rcases List.mem_append.mp hx with hx|hx
  ·exact h x hx
  ·simp at hx;subst hx;exact hs
 ·exact h
theorem QY (f:List Sy)(s:Sy):(iK f s).length<=f.length+1:=by unfold iK;split<;>simp
theorem xB:∀(s:Sy){f:List Sy}{n:Nat},(∀ x∈f,aO x<=n)->aO s<=n->∀ x∈mG s f,aO x<=n
 |.yes,_,_,h,_=>h
 |.no,_,_,h,_=>h
 |.dU _,_,_,h,_=>h
 |.one w s,f,n,h,hs=>xB s (zL h hs) (by simp only[aO]at hs;omega)
 |.two w s t,f,n,h,hs=>xB t (xB s (zL h hs) (by simp only[aO]at hs;omega)) (by simp only[aO]at hs;omega)
noncomputable def mJ:Fn:=⟨1,1,[.iff (.cmp .eq (.ix (.v 0) (.c (.int 0))) (.c (.str (W "lamp")))) [.ret (.tup [])] [],.ret (.sl (.v 0) [(.c (.int 1))] [])]⟩
noncomputable def LD:D:=.tup (AV.map .str)
noncomputable def uO (iw:Nat):Fn:=⟨1,4,[.asg (.nm 1) (.lst []),.asg (.nm 2) (.bit .list .rev [(.v 0)]),.whl (.v 2) [.asg (.nm 3) (.bX .pop (.v 2) []),.iff (.and_ (.cmp .in_ (.ix (.v 3) (.c (.int 0))) (.c LD)) (.cmp .gS (.v 3) (.v 1))) [.ex (.bX .append (.v 1) [(.v 3)])] [],.ex (.bX .extend (.v 2) [(.bit .list .rev [(.call iw [(.v 3)])])])],.ret (.v 1)]⟩
section
variable {G:Prog}{k ip iw:Nat}{st:aB}{Q:VK}{E:XK}
theorem DX (hw:G.fns iw=some mJ){s:Sy}(hQ:Q (.tup ((subs s).map toD)) st):aI G (k+1) iw [toD s] st Q E:=by
 rw[aM hw]
 simp only[mJ,start]
 refine⟨rfl,?_⟩
 obtain⟨r,er⟩:=E5 s
 walk_at"st"
 rw[er]
 walk_at"ex"
 rw[XJ,<-er]
 cases h:oY s with
 |true =>
 simp only[if_true]
 walk_at"st"
 cases s<;>first|exact hQ|cases h
 |false =>
 simp only[ai,if_false,aL]
 walk_at"st"
 rw[Q4 h]
 walk_at"ex"
 exact hQ
end
theorem MY {C:aS}{sub:Nat->Nat->Bool}(hC:bN C C){c:Ex}{b:List Sx}{P:eB}(I:Nat->St->aB->Prop)
  (step:∀ m σ st,I m σ st->aF C sub (fun c aA=>P.ex c σ aA) c σ st fun d aA=>dJ d aA fun k =>
   if k=true then bU C sub b { P with nx:=fun σ st=>∃ m',m'<m/\I m' σ st,ct:=fun σ st=>∃ m',m'<m/\I m' σ st,bk:=P.nx } σ aA else P.nx σ aA){m:Nat}{σ:St}{st:aB}(h:I m σ st):wpS C sub (.whl c b) P σ st:=by
 refine⟨m+1,?_⟩
 have key:∀(n m:Nat)(σ:St)(st:aB),m<n->I m σ st->nE (fun next σ st=>aF C sub (fun c aA=>P.ex c σ aA) c σ st fun d aA=>dJ d aA fun k =>
   if k=true then bU C sub b { P with nx:=next,ct:=next,bk:=P.nx } σ aA else P.nx σ aA) n σ st:=by
  intro n
  induction n with
  |zero=>intro m σ st h;omega
  |succ n ih =>
   intro m σ st hm hI
   refine aP hC (fun _ _ z=>z) c (fun d aA=>iZ fun k=>?_) (step m σ st hI)
   split
   ·exact iE hC b ⟨fun σ st ⟨m',h1,h2⟩=>ih m' σ st (by omega) h2,fun _ _ z=>z,fun _ _ z=>z,fun σ st ⟨m',h1,h2⟩=>ih m' σ st (by omega) h2,fun _ _ _ z=>z⟩
   ·exact id
 exact key (m+1) m σ st (by omega) h
section
variable {G:Prog}{k ip iw iz:Nat}{st:aB}{Q:VK}{E:XK}
theorem zP (s:Sy)(r:List Sy):lE (s::r)=sz s+lE r:=by simp [lE]
theorem BG (a b:List Sy):lE (a++b)=lE a+lE b:=by simp [lE]
theorem O4 (s:Sy):0<sz s:=by cases s<;>simp [sz]
theorem CB (r:List Sy):r.length<=lE r:=by
 induction r with
 |nil=>simp
 |cons s r ih=>have:=O4 s;simp only[zP,ak];omega
theorem GP (hz:G.fns iz=some (uO iw))(hw:G.fns iw=some mJ){l:Nat}{ss:List Sy}(hl:st l=some (.lst (ss.map toD)))(hd:∀ x∈ss,aO x<=60)(hs:lE ss<aK)
  (hQ:∀ p aA,Ext st aA->aA p=some (.lst ((iI ss []).map toD))->Q (.ref p) aA):aI G (k+2) iz [.ref l] st Q E:=by
 rw[aM hz]
 simp only[uO,start]
 refine⟨rfl,?_⟩
 walk_at"st"
 refine bE (by decide) fun p aC x1 hp hp1=>?_
 walk_at"st"
 rw[aE (x1 l _ hl)]
 refine bE (by have:=CB ss;simp only[pq,aa];omega) fun q aG x2 hq hq2=>?_
 have hpq:p≠q:=fun z=>by rw[z]at hp1;rw[hq]at hp1;cases hp1
 have p2:=x2 p _ hp1
 try dsimp only
 refine gA ?_
 refine MY (kX G (bb _)) (fun m σ aA=>∃(stack f:List Sy)(o:Option D),σ=[some (.ref l),some (.ref p),some (.ref q),o]/\aA p=some (.lst (f.map toD))/\aA q=some (.lst (stack.map toD).reverse)/\lE stack=m /\
  (∀ x∈stack,aO x<=60)/\(∀ x∈f,aO x<=60)/\f.length+lE stack<aK/\iI stack f=iI ss []/\Ext st aA) ?_ (m:=lE ss) ⟨ss,[],none,rfl,p2,hq2,rfl,hd,by simp,by simpa using hs,rfl,fun a o e=>x2 a o (x1 a o e)⟩
 rintro m σ aQ ⟨stack,f,o,rfl,hp3,hq3,hm,hds,hdf,hlen,Kb,x3⟩
 walk_at"ex"
 rw[YJ,cN hq3]
 cases stack with
 |nil =>
  simp only[l6,List.reverse_nil,yx,b5,ai,if_false]
  walk_at"st"
  refine hQ p aQ x3 ?_
  rw[<-Kb];exact hp3
 |cons s r =>
  have hne:(!((ot toD (s::r)).reverse).isEmpty)=true:=by simp
  rw[hne]
  simp only[if_true]
  have hds':=hds s (by simp)
  rw[zP]at hm hlen
  have hsp:=O4 s
  have hss:=V6 s
  walk_at"st"
  rw[aE hq3]
  refine⟨trivial,?_⟩
  rw[aE hq3]
  have elast:((ot toD (s::r)).reverse)[((ot toD (s::r)).reverse).length-1]? = some (toD s):=by
   simp only[az,kz,aq,ak,aj]
   rw[ei (by simp)]
   simp
  have edrop:((ot toD (s::r)).reverse).dropLast=(r.map toD).reverse:=by simp
  rw[elast,edrop,aX]
  try dsimp only
  have hp4:(put aQ q (.lst (r.map toD).reverse)) p=some (.lst (f.map toD)):=by rw[cR hpq];exact hp3
  have hx4:Ext st (put aQ q (.lst (r.map toD).reverse)):=fun a u e=>by
   by_cases ha:a=q
   ·exfalso
    rw[ha]at e
    rw[x1 q _ e]at hq;cases hq
   ·rw[cR ha];exact x3 a u e
  have head:∀{P:eB}{bY:aB}{rest:List Sx},bY p=some (.lst (f.map toD)) ->
    (∀ aA,cC [p] bY aA->aA p=some (.lst ((iK f s).map toD))->bU (aI G (k+1)) G.sub rest P [some (.ref l),some (.ref p),some (.ref q),some (toD s)] aA) ->
    bU (aI G (k+1)) G.sub ((.iff (.and_ (.cmp .in_ (.ix (.v 3) (.c (.int 0))) (.c LD)) (.cmp .gS (.v 3) (.v 1))) [.ex (.bX .append (.v 1) [(.v 3)])] [])::rest) P [some (.ref l),some (.ref p),some (.ref q),some (toD s)] bY:=by
   intro P bY rest hb hN
   obtain⟨rr,er⟩:=E5 s
   walk_at"st"
   rw[er]
   simp only[LD]
   walk_at"ex"
   rw[<-er]
   refine⟨(jN AV).s,?_⟩
   have e1:(List.any (AV.map .str) fun d=>bO bY d (.str (wd s)))=jK s:=(HA (wd s) AV).trans (U8 s)
   rw[e1]
   cases hpp:jK s with
   |false =>
    simp only[ai,if_false,aL]
    refine hN bY .refl ?_
    simp only[iK,hpp,fj,ai,if_false]
    exact hb
   |true =>
    simp only[if_true]
    rw[yL,cN hb,YH]
    refine⟨QC hds',MA hdf,?_⟩
    cases hc:f.contains s with
    |true =>
     simp only[b5,ai,if_false,aL]
     refine hN bY .refl ?_
     simp only[iK,hpp,hc,b5,b9,ai,if_false]
     exact hb
    |false =>
     simp only[c9,if_true]
     walk_at"st"
     rw[aE hb]
     refine⟨trivial,?_⟩
     rw[aE hb]
     refine⟨by simp only[aa];omega,?_⟩
     rw[aL]
     refine hN _ (cC.put (by simp)) ?_
     rw[bS]
     simp only[iK,hpp,hc,c9,dm,if_true,dr,az,l6]
  refine head hp4 fun dY k5 hp5=>?_
  have hq5:dY q=some (.lst (r.map toD).reverse):=k5 q _ (by simpa using gp hpq) bS
  have hx5:Ext st dY:=fun a u e=>by
   by_cases ha:a=p
   ·exfalso
    rw[ha]at e;rw[hp]at e;cases e
   ·exact k5 a u (by simpa using ha) (hx4 a u e)
  walk_at"st"
  rw[aE hq5]
  refine⟨trivial,DX hw ?_⟩
  walk_at"ex"
  have hsl:=CB (subs s)
  have hrl:=CB r
  refine bE (by simp only[pq,aa];omega) fun u fQ x6 hu hu6=>?_
  walk_at"ex"
  rw[aE (x6 q _ hq5),aE hu6]
  refine⟨by simp only[pq,aa];omega,?_⟩
  rw[aL]
  dsimp only
  refine⟨lE (subs s++r),by rw[BG];omega,subs s++r,iK f s,_,rfl,?_,?_,rfl,fun x hx=>?_,zL hdf hds',?_,?_,fun a v e=>?_⟩
  ·rw[cR hpq];exact x6 p _ hp5
  ·rw[bS];simp
  ·rcases List.mem_append.mp hx with hx|hx
   ·have:=SM hx;omega
   ·exact hds x (by simp [hx])
  ·have:=QY f s;rw[BG];omega
  ·rw[<-NK];exact Kb
  ·by_cases ha:a=q
   ·exfalso
    rw[ha]at e
    rw[x1 q _ e]at hq;cases hq
   ·rw[cR ha];exact x6 a v (hx5 a v e)
end
noncomputable def fL:List (List Nat):=[W "yes", W "no", W "not", W "and", W "or", W "then", W "same", W "before", W "once", W "sofar", W "since", W "foe", W "friend", W "promise", W "must", W "wish"]
noncomputable def eH:List Nat:=W "abcdefghijklmnopqrstuvwxyz"
noncomputable def iR (nn lt lg:D):Fn:=⟨1,1,[.iff (.or_ (.not_ (.isi (.v 0) [.str])) (.cmp .in_ (.v 0) (.c nn))) [.ret (.c (.bl false))] [],.ret (.and_ (.chain .le .le (.c (.int 1)) (.bi .len [(.v 0)]) (.c lg)) (.bi .all [(.comp 1 [] [0] true none [(.v 0)] [] (.cmp .in_ (.v 0) (.c lt)))]))]⟩
noncomputable def fE (w:List Nat):Bool:=!(fL.any (·== w))&&decide (1<=w.length)&&decide (w.length<=8)&&w.all fun c=>occurs [c] eH
section
variable {G:Prog}{k i:Nat}{st:aB}{Q:VK}{E:XK}
theorem VX (st:aB)(w:List Nat):((fL.map D.str).any fun d=>bO st d (.str w))=fL.any (·== w):=by
 rw[nt];rfl
theorem NL (st:aB):dR st (fL.map D.str):=⟨rfl,by decide⟩
noncomputable def R0:D->Bool
 |.str x=>occurs x eH
 |_=>false
theorem EC:∀(w:List Nat),boolsOf ((w.map fun c=>D.str [c]).map fun d=>.bl (R0 d))=some (w.map fun c=>occurs [c] eH)
 |[]=>rfl
 |c::r=>by
  show(boolsOf ((r.map fun c=>D.str [c]).map fun d=>.bl (R0 d))).map (_ :: ·)=_
  rw[EC r];rfl
set_option tactic.hygienic true in
theorem zV (h:G.fns i=some (iR (.tup (fL.map .str)) (.str eH) (.int 8))){w:List Nat}(hw:w.length<=aK)(hQ:∀ aA,Ext st aA->Q (.bl (fE w)) aA):aI G (k+1) i [.str w] st Q E:=by
 have hL:aK=16777216:=rfl
 rw[aM h]
 simp only[iR,start]
 refine⟨rfl,?_⟩
 walk_at"st"
 refine⟨NL st,?_⟩
 rw[VX]
 cases c1:fL.any (·== w)with
 |true =>
  simp only[if_true]
  walk_at"st"
  have e:fE w=false:=by simp [fE,c1]
  rw[<-e];exact hQ _ (fun _ _ z=>z)
 |false =>
  simp only[ai,if_false]
  rw[aL]
  walk_at"st"
  refine⟨hw,?_⟩
  split
  ·rename_i g1
   split
   ·rename_i g2
    refine⟨hw,?_⟩
    refine comp_map (fun d=>.bl (R0 d)) _ [] st (fun aA x a ha=>by cases ha) ?_ (by simp only[aa,aj];omega) fun aA x=>?_
    ·intro x hx aA K x1 hK
     obtain⟨c,hc,rfl⟩:=List.mem_map.mp hx
     exact hK aA .refl
    ·rw[ba]
     refine bE (by simp only[aa];omega) fun p aG x2 hp eZ=>?_
     simp only[fB]
     rw[aE eZ,EC]
     have e:fE w=(w.map fun c=>occurs [c] eH).all id:=by
      simp only[fE,c1,km]
      have h1:decide (1<=w.length)=true:=decide_eq_true (by omega)
      have h2:decide (w.length<=8)=true:=decide_eq_true (by omega)
      rw[h1,h2]
      rfl
     show Q _ _
     rw[<-e]
     exact hQ _ (x.trans x2)
   ·rename_i g2
    have e:fE w=decide ((w.length:Int)<=8):=by
     have h2:decide (w.length<=8)=false:=decide_eq_false (by omega)
     have h3:decide ((w.length:Int)<=8)=false:=decide_eq_false g2
     simp only[fE,h2,h3,b9,fj]
    rw[<-e];exact hQ _ .refl
  ·rename_i g1
   have e:fE w=false:=by
    have h1:decide (1<=w.length)=false:=decide_eq_false (by omega)
    simp only[fE,h1,b9,fj]
   rw[<-e];exact hQ _ .refl
end
noncomputable def lK (hU fA:Nat)(sw:D):Fn:=⟨3,3,[.iff (.or_ (.cmp .lt (.v 2) (.c (.int 1))) (.or_ (.not_ (.isi (.v 1) [.tuple])) (.or_ (.cmp .lt (.bi .len [(.v 1)]) (.c (.int 1))) (.not_ (.isi (.ix (.v 1) (.c (.int 0))) [.str]))))) [.ret (.c (.bl false))] [],.iff (.cmp .eq (.ix (.v 1) (.c (.int 0))) (.c (.str (W "lamp")))) [.ret (.and_ (.cmp .eq (.bi .len [(.v 1)]) (.c (.int 2))) (.and_ (.call hU [(.ix (.v 1) (.c (.int 1)))]) (.cmp .in_ (.ix (.v 1) (.c (.int 1))) (.v 0))))] [],.iff (.or_ (.cmp .gS (.ix (.v 1) (.c (.int 0))) (.c sw)) (.cmp .ne (.bi .len [(.v 1)]) (.bin .add (.c (.int 1)) (.ix (.c sw) (.ix (.v 1) (.c (.int 0))))))) [.ret (.c (.bl false))] [],.ret (.bi .all [(.comp 1 [0,2] [0] true none [(.sl (.v 1) [(.c (.int 1))] [])] [] (.call fA [(.v 1),(.v 0),(.bin .sub (.v 2) (.c (.int 1)))]))])]⟩
section
variable {G:Prog}{k hU fA:Nat}{Q:VK}{E:XK}
noncomputable def wI:List D:=[(.str (W "yes")),(.str (W "no")),(.str (W "not")),(.str (W "before")),(.str (W "once")),(.str (W "sofar")),(.str (W "and")),(.str (W "or")),(.str (W "then")),(.str (W "same")),(.str (W "since"))]
noncomputable def yR:List D:=[(.int 0),(.int 0),(.int 1),(.int 1),(.int 1),(.int 1),(.int 2),(.int 2),(.int 2),(.int 2),(.int 2)]
theorem gR {α:Type}:∀(ps:List α),boolsOf (ps.map fun _=>.bl true)=some (ps.map fun _=>true)
 |[]=>rfl
 |_::r=>by
  show(boolsOf (r.map fun _=>.bl true)).map (true :: ·)=_
  rw[gR r];rfl
theorem sQ (h:G.fns fA=some (lK hU fA (.cH wI yR))){nm:D}{w:List Nat}{ps:List D}{st:aB}{d:Int}(hd:1<=d)(hl:¬(w==W "lamp")=true)(hin:(wI.any fun x=>cK x (.str w))=true)(har:oE wI yR (.str w)=some (.int ps.length))(hps:ps.length<=2)
  (hp:∀ x∈ps,∀(aA:aB)(Q':VK)(E':XK),Ext st aA->(∀ aY,Ext aA aY->Q' (.bl true) aY)->aI G k fA [nm,x,.int (d-1)] aA Q' E')(hQ:∀ aA,Ext st aA->Q (.bl true) aA):aI G (k+1) fA [nm,.tup (.str w::ps),.int d] st Q E:=by
 have hL:aK=16777216:=rfl
 rw[aM h]
 simp only[lK,start]
 refine⟨rfl,?_⟩
 walk_at"st"
 have n1:¬d<1:=by omega
 simp only[if_neg n1]
 have n2:¬((ps.length+1:Nat):Int)<1:=by omega
 simp only[ak,if_neg n2]
 walk_at"ex"
 rw[aL]
 walk_at"st"
 rw[if_neg hl]
 rw[aL]
 walk_at"st"
 rw[hin]
 simp only[b5,ai,if_false]
 rw[har]
 show plainS st (.int (1+(ps.length:Int)))/\_
 refine⟨⟨rfl,dj _⟩,?_⟩
 have n3:¬(!bO st (.int ((ps.length+1:Nat):Int)) (.int (1+(ps.length:Int))))=true:=by
  have e:(((ps.length+1:Nat):Int)==1+(ps.length:Int))=true:=beq_iff_eq.mpr (by omega)
  simp only[bO,e,b5,ai,not_false_iff]
 rw[if_neg n3,aL]
 walk_at"st"
 refine comp_map (fun _=>.bl true) ps [] st (fun aA x a ha=>by cases ha) (fun x hx aA K x1 hK=>hp x hx aA _ _ x1 fun aY x2=>hK aY x2) (by simp only[aj];omega) fun aA x1=>?_
 rw[ba]
 refine bE (by simp only[aa];omega) fun p aG x2 hp' eZ=>?_
 simp only[fB]
 rw[aE eZ,gR]
 show Q (.bl (((ps.map fun _=>true).all id))) _
 have e:(ps.map fun _=>true).all id=true:=by simp
 rw[e]
 exact hQ _ (x1.trans x2)
theorem DW {n:List Nat}(h:fE n=true):n.length<=8:=by
 simp only[fE,ay,decide_eq_true_eq]at h
 exact h.1.2
theorem mV (st:aB):∀(names:List (List Nat)),dR st (names.map D.str)
 |[]=>⟨rfl,dj _⟩
 |n::r=>⟨by simp only[az,hJ,gQ,g5];exact(mV st r).1,by simp only[az,cF,dF];have:=(mV st r).2;omega⟩
theorem O0 (st:aB)(names:List (List Nat))(n:List Nat)(h:n∈names):((names.map D.str).any fun d=>bO st d (.str n))=true:=by
 rw[nt]
 exact List.any_eq_true.mpr ⟨n,h,by show(n==n)=true;simp⟩
theorem O6 (h:G.fns fA=some (lK hU fA (.cH wI yR)))(hn:G.fns hU=some (iR (.tup (fL.map .str)) (.str eH) (.int 8))){names:List (List Nat)}(kF:∀ n∈names,fE n=true){n:List Nat}(ho:n∈names){st:aB}{d:Int}(hd:1<=d)
 (hQ:∀ aA,Ext st aA->Q (.bl true) aA):aI G (k+1+1) fA [.tup (names.map .str),.tup [.str (W "lamp"),.str n],.int d] st Q E:=by
 have hL:aK=16777216:=rfl
 rw[aM h]
 simp only[lK,start]
 refine⟨rfl,?_⟩
 walk_at"st"
 have n1:¬d<1:=by omega
 simp only[if_neg n1]
 walk_at"ex"
 have n2:¬((0+1+1:Nat):Int)<1:=by decide
 simp only[if_neg n2]
 walk_at"ex"
 rw[aL]
 walk_at"st"
 have n3:(W "lamp" == W "lamp")=true:=by simp
 simp only[n3,if_true]
 walk_at"st"
 rw[if_pos (by decide)]
 refine zV (w:=n) hn (by have:=DW (kF n ho);omega) fun aA x1=>?_
 rw[kF n ho]
 show dR aA (names.map .str)/\Q (.bl ((names.map D.str).any fun d=>bO aA d (.str n))) aA
 refine⟨mV aA names,?_⟩
 rw[O0 aA names n ho]
 exact hQ _ x1
theorem wU (h:G.fns fA=some (lK hU fA (.cH wI yR)))(hn:G.fns hU=some (iR (.tup (fL.map .str)) (.str eH) (.int 8))){names:List (List Nat)}(kF:∀ n∈names,fE n=true):
  ∀(s:Sy){k:Nat}{st:aB}{Q:VK}{E:XK}{d:Int},over names s->(aO s:Int)<=d->(∀ aA,Ext st aA->Q (.bl true) aA)->aI G (k+aO s+1) fA [.tup (names.map .str),toD s,.int d] st Q E
 |.yes,k,st,Q,E,d,ho,hd,hQ=>by
  simp only[aO]at hd
  exact sQ h (by omega) (by decide) (by decide) rfl (by decide) (fun x hx=>by cases hx) hQ
 |.no,k,st,Q,E,d,ho,hd,hQ=>by
  simp only[aO]at hd
  exact sQ h (by omega) (by decide) (by decide) rfl (by decide) (fun x hx=>by cases hx) hQ
 |.dU n,k,st,Q,E,d,ho,hd,hQ=>by
  simp only[aO]at hd ⊢
  exact O6 h hn kF ho (by omega) hQ
 |.one w s,k,st,Q,E,d,ho,hd,hQ=>by
  simp only[aO]at hd ⊢
  refine sQ (ps:=[toD s]) h (by omega) (by cases w<;>decide) (by cases w<;>decide) (by cases w<;>rfl) (by simp) (fun x hx aA Q' E' x1 hQ'=>?_) hQ
  simp only[bf]at hx
  subst hx
  have:=wU h hn kF s (k:=k) (st:=aA) (Q:=Q') (E:=E') (d:=d-1) ho (by omega) hQ'
  exact this
 |.two w s t,k,st,Q,E,d,ho,hd,hQ=>by
  simp only[aO]at hd ⊢
  refine sQ (ps:=[toD s,toD t]) h (by omega) (by cases w<;>decide) (by cases w<;>decide) (by cases w<;>rfl) (by simp) (fun x hx aA Q' E' x1 hQ'=>?_) hQ
  have l1:=vd (aO s) (aO t)
  have l2:=uc (aO s) (aO t)
  simp only[bh,bo,or_false]at hx
  rcases hx with rfl|rfl
  ·have:=wU h hn kF s (k:=k+(max (aO s) (aO t)-aO s)) (st:=aA) (Q:=Q') (E:=E') (d:=d-1) ho.1 (by omega) hQ'
   have e:k+(max (aO s) (aO t)-aO s)+aO s+1=k+(max (aO s) (aO t)+1):=by omega
   rw[e]at this;exact this
  ·have:=wU h hn kF t (k:=k+(max (aO s) (aO t)-aO t)) (st:=aA) (Q:=Q') (E:=E') (d:=d-1) ho.2 (by omega) hQ'
   have e:k+(max (aO s) (aO t)-aO t)+aO t+1=k+(max (aO s) (aO t)+1):=by omega
   rw[e]at this;exact this
end
noncomputable def fF:Fn:=⟨3,3,[.ret (.and_ (.isi (.v 0) [.tuple]) (.chain .le .le (.v 1) (.bi .len [(.v 0)]) (.v 2)))]⟩
noncomputable def HK (ir hU:Nat)(ml:D):Fn:=⟨2,3,[.iff (.or_ (.not_ (.call ir [(.v 0),(.c (.int 1)),(.c ml)])) (.not_ (.call ir [(.v 1),(.c (.int 1)),(.c ml)]))) [.ret (.c (.bl false))] [],.asg (.nm 2) (.bin .add (.v 0) (.v 1)),.ret (.and_ (.bi .all [(.comp 1 [] [0] true none [(.v 2)] [] (.call hU [(.v 0)]))]) (.cmp .eq (.bi .pN [(.v 2)]) (.bi .len [(.v 2)])))]⟩
section
variable {G:Prog}{k ir hU il:Nat}{st:aB}{Q:VK}{E:XK}
theorem iY (h:G.fns ir=some fF){ds:List D}{lo hi:Int}(hQ:Q (.bl (decide (lo<=(ds.length:Int))&&decide ((ds.length:Int)<=hi))) st):aI G (k+1) ir [.tup ds,.int lo,.int hi] st Q E:=by
 rw[aM h]
 simp only[fF,start]
 refine⟨rfl,?_⟩
 walk_at"st"
 by_cases c:lo<=(ds.length:Int)
 ·rw[if_pos c]
  rw[decide_eq_true c,g5]at hQ
  exact hQ
 ·rw[if_neg c]
  rw[decide_eq_false c,fj]at hQ
  exact hQ
theorem C7:∀(ws seen:List (List Nat)),(seen++ws).Nodup->uT seen ws=ws.length
 |[],_,_=>rfl
 |w::r,seen,h=>by
  have e:seen.any (·== w)=false:=by
   rw[rz]
   intro x hx z
   have:x=w:=by simpa using z
   subst this
   rw[yj]at h
   exact h.2.2 x hx x (by simp) rfl
  show(if seen.any (·== w)=true then 0 else 1)+uT (seen++[w]) r=_
  rw[e,C7 r (seen++[w]) (by simpa using h)]
  simp only[ai,if_false,ak]
  omega
theorem iD:∀(ws:List (List Nat)),strsOf (ws.map .str)=some ws
 |[]=>rfl
 |w::r=>by
  show(strsOf (r.map .str)).map (w :: ·)=_
  rw[iD r];rfl
theorem RA (h:G.fns il=some (HK ir hU (.int 2)))(hr:G.fns ir=some fF)(hn:G.fns hU=some (iR (.tup (fL.map .str)) (.str eH) (.int 8))){fs gs:List (List Nat)}(h1:1<=fs.length)(h2:fs.length<=2)(h3:1<=gs.length)(h4:gs.length<=2)(h5:(fs++gs).Nodup)(h6:∀ n∈fs++gs,fE n=true)
  (hQ:∀ aA,Ext st aA->Q (.bl true) aA):aI G (k+2) il [.tup (fs.map .str),.tup (gs.map .str)] st Q E:=by
 have hL:aK=16777216:=rfl
 rw[aM h]
 simp only[HK,start]
 refine⟨rfl,?_⟩
 walk_at"st"
 refine iY hr ?_
 have e1:(decide ((1:Int)<=((fs.map D.str).length:Int))&&decide (((fs.map D.str).length:Int)<=2))=true:=by simp only[aa,ay,decide_eq_true_eq];omega
 rw[e1]
 walk_at"ex"
 refine iY hr ?_
 have e2:(decide ((1:Int)<=((gs.map D.str).length:Int))&&decide (((gs.map D.str).length:Int)<=2))=true:=by simp only[aa,ay,decide_eq_true_eq];omega
 rw[e2]
 walk_at"ex"
 rw[aL]
 walk_at"st"
 refine⟨by simp only[aa];omega,?_⟩
 rw[<-dr]
 walk_at"st"
 refine comp_map (fun _=>.bl true) _ [] st (fun aA x a ha=>by cases ha) (fun x hx aA K x1 hK=>?_) (by simp only[aa,aq,aj];omega) fun aA x1=>?_
 ·obtain⟨n,hn',rfl⟩:=List.mem_map.mp hx
  refine zV (w:=n) hn (by have:=DW (h6 n hn');omega) fun aY x2=>?_
  rw[h6 n hn']
  exact hK aY x2
 ·rw[ba]
  refine bE (by simp only[aa,aq];omega) fun p aG x2 hp' eZ=>?_
  simp only[fB]
  rw[aE eZ,gR]
  rw[aX,iD,aX]
  have e3:(ot (fun _=>true) ((fs++gs).map D.str)).all id=true:=by simp
  rw[if_pos e3]
  refine⟨by simp only[aq];omega,?_⟩
  have e4:(((uT [] (fs++gs):Nat):Int)==((((fs++gs).map D.str).length:Nat):Int))=true:=by
   rw[C7 (fs++gs) [] (by simpa using h5),aa];simp
  rw[e4]
  exact hQ _ (x1.trans x2)
end
noncomputable def oW (fA:Nat)(dp:D):Fn:=⟨2,2,[.ret (.call fA [(.v 0),(.v 1),(.c dp)])]⟩
noncomputable def wV (ir iy:Nat):Fn:=⟨3,3,[.ret (.and_ (.call ir [(.v 1),(.c (.int 0)),(.v 2)]) (.bi .all [(.comp 1 [0] [0] true none [(.v 1)] [] (.call iy [(.v 1),(.v 0)]))]))]⟩
noncomputable def pM (hp:D):Fn:=⟨1,1,[.ret (.and_ (.isi (.v 0) [.int]) (.and_ (.not_ (.isi (.v 0) [.bool])) (.chain .le .le (.c (.int 1)) (.v 0) (.c hp))))]⟩
noncomputable def xA (ir ip iy:Nat):Fn:=⟨2,2,[.ret (.and_ (.call ir [(.v 1),(.c (.int 2)),(.c (.int 2))]) (.and_ (.call ip [(.ix (.v 1) (.c (.int 0)))]) (.call iy [(.v 0),(.ix (.v 1) (.c (.int 1)))])))]⟩
noncomputable def zC (ir iw:Nat)(mw:D):Fn:=⟨2,2,[.ret (.and_ (.call ir [(.v 1),(.c (.int 1)),(.c mw)]) (.bi .all [(.comp 1 [0] [0] true none [(.v 1)] [] (.call iw [(.v 1),(.v 0)]))]))]⟩
section
variable {G:Prog}{k ir hU fA iy ip iw ia:Nat}{st:aB}{Q:VK}{E:XK}{names:List (List Nat)}
theorem D5 (hy:G.fns iy=some (oW fA (.int 8)))(h:G.fns fA=some (lK hU fA (.cH wI yR)))(hn:G.fns hU=some (iR (.tup (fL.map .str)) (.str eH) (.int 8)))(kF:∀ n∈names,fE n=true){s:Sy}(ho:over names s)(hd:aO s<=8)
 (hQ:∀ aA,Ext st aA->Q (.bl true) aA):aI G (k+10) iy [.tup (names.map .str),toD s] st Q E:=by
 rw[aM hy]
 simp only[oW,start]
 refine⟨rfl,?_⟩
 walk_at"st"
 have:=wU h hn kF s (k:=k+(8-aO s)) (st:=st) (Q:=Q) (E:=fun _ _=>False) (d:=8) ho (by omega) hQ
 have e:k+(8-aO s)+aO s+1=k+9:=by omega
 rw[e]at this;exact this
theorem AZ (ha:G.fns ia=some (wV ir iy))(hr:G.fns ir=some fF)(hy:G.fns iy=some (oW fA (.int 8)))(h:G.fns fA=some (lK hU fA (.cH wI yR)))(hn:G.fns hU=some (iR (.tup (fL.map .str)) (.str eH) (.int 8)))(kF:∀ n∈names,fE n=true){ss:List Sy}{m:Int}
  (ho:∀ s∈ss,over names s/\aO s<=8)(hl:(ss.length:Int)<=m)(hl2:ss.length<=1000)(hQ:∀ aA,Ext st aA->Q (.bl true) aA):aI G (k+11) ia [.tup (names.map .str),.tup (ss.map toD),.int m] st Q E:=by
 have hL:aK=16777216:=rfl
 rw[aM ha]
 simp only[wV,start]
 refine⟨rfl,?_⟩
 walk_at"st"
 refine iY hr ?_
 have e1:(decide ((0:Int)<=((ss.map toD).length:Int))&&decide (((ss.map toD).length:Int)<=m))=true:=by simp only[aa,ay,decide_eq_true_eq];omega
 rw[e1]
 walk_at"ex"
 refine comp_map (fun _=>.bl true) _ [] st (fun aA x a ha=>by cases ha) (fun x hx aA K x1 hK=>?_) (by simp only[aa,aj];omega) fun aA x1=>?_
 ·obtain⟨s,hs,rfl⟩:=List.mem_map.mp hx
  exact D5 hy h hn kF (ho s hs).1 (ho s hs).2 fun aY x2=>hK aY x2
 ·rw[ba]
  refine bE (by simp only[aa];omega) fun p aG x2 hp' eZ=>?_
  simp only[fB]
  rw[aE eZ,gR,aX]
  have e3:(ot (fun _=>true) (ss.map toD)).all id=true:=by simp
  rw[e3]
  exact hQ _ (x1.trans x2)
theorem JH (h:G.fns ip=some (pM (.int 99))){p:Int}(h1:1<=p)(h2:p<=99)(hQ:Q (.bl true) st):aI G (k+1) ip [.int p] st Q E:=by
 rw[aM h]
 simp only[pM,start]
 refine⟨rfl,?_⟩
 walk_at"st"
 rw[if_pos h1,decide_eq_true h2]
 exact hQ
theorem LQ (hw:G.fns iw=some (xA ir ip iy))(hr:G.fns ir=some fF)(hp:G.fns ip=some (pM (.int 99)))(hy:G.fns iy=some (oW fA (.int 8)))(h:G.fns fA=some (lK hU fA (.cH wI yR)))(hn:G.fns hU=some (iR (.tup (fL.map .str)) (.str eH) (.int 8)))(kF:∀ n∈names,fE n=true){s:Sy}{p:Int}
 (h1:1<=p)(h2:p<=99)(ho:over names s)(hd:aO s<=8)(hQ:∀ aA,Ext st aA->Q (.bl true) aA):aI G (k+11) iw [.tup (names.map .str),.tup [.int p,toD s]] st Q E:=by
 rw[aM hw]
 simp only[xA,start]
 refine⟨rfl,?_⟩
 walk_at"st"
 refine iY hr ?_
 have e1:(decide ((2:Int)<=(([.int p,toD s]:List D).length:Int))&&decide ((([.int p,toD s]:List D).length:Int)<=2))=true:=rfl
 rw[e1]
 walk_at"ex"
 refine JH hp h1 h2 ?_
 walk_at"ex"
 exact D5 hy h hn kF ho hd fun aY x2=>hQ aY x2
end
noncomputable def sW (ih ib:Nat):Fn:=⟨2,2,[.iff (.cmp .eq (.ix (.v 1) (.c (.int 0))) (.c (.str (W "before")))) [.ret (.c (.bl false))] [],.iff (.cmp .eq (.ix (.v 1) (.c (.int 0))) (.c (.str (W "lamp")))) [.ret (.cmp .in_ (.ix (.v 1) (.c (.int 1))) (.v 0))] [],.ret (.bi .any [(.comp 1 [0] [0] true none [(.call ih [(.v 1)])] [] (.call ib [(.v 1),(.v 0)]))])]⟩
noncomputable def fT (gs:List (List Nat)):Sy->Bool
 |.dU n=>gs.any (·== n)
 |.one .before _=>false
 |.one _ s=>fT gs s
 |.two _ s t=>fT gs s||fT gs t
 |_=>false
section
variable {G:Prog}{k ih ib ir hU fA iy ip iw ia:Nat}{st:aB}{Q:VK}{E:XK}{names:List (List Nat)}
theorem JJ (ha:G.fns ia=some (zC ir iw (.int 5)))(hw:G.fns iw=some (xA ir ip iy))(hr:G.fns ir=some fF)(hp:G.fns ip=some (pM (.int 99)))(hy:G.fns iy=some (oW fA (.int 8)))(h:G.fns fA=some (lK hU fA (.cH wI yR)))(hn:G.fns hU=some (iR (.tup (fL.map .str)) (.str eH) (.int 8)))(kF:∀ n∈names,fE n=true){ws:List (Int×Sy)}
  (ho:∀ w∈ws,1<=w.1/\w.1<=99/\over names w.2/\aO w.2<=8)(h1:1<=ws.length)(h2:ws.length<=5)(hQ:∀ aA,Ext st aA->Q (.bl true) aA):aI G (k+12) ia [.tup (names.map .str),.tup (ws.map fun w=>.tup [.int w.1,toD w.2])] st Q E:=by
 have hL:aK=16777216:=rfl
 rw[aM ha]
 simp only[zC,start]
 refine⟨rfl,?_⟩
 walk_at"st"
 refine iY hr ?_
 have e1:(decide ((1:Int)<=((ws.map fun w=>D.tup [.int w.1,toD w.2]).length:Int))&&decide (((ws.map fun w=>D.tup [.int w.1,toD w.2]).length:Int)<=5))=true:=by simp only[aa,ay,decide_eq_true_eq];omega
 rw[e1]
 walk_at"ex"
 refine comp_map (fun _=>.bl true) _ [] st (fun aA x a ha=>by cases ha) (fun x hx aA K x1 hK=>?_) (by simp only[aa,aj];omega) fun aA x1=>?_
 ·obtain⟨s,hs,rfl⟩:=List.mem_map.mp hx
  obtain⟨o1,o2,o3,o4⟩:=ho s hs
  exact LQ hw hr hp hy h hn kF o1 o2 o3 o4 fun aY x2=>hK aY x2
 ·rw[ba]
  refine bE (by simp only[aa];omega) fun p aG x2 hp' eZ=>?_
  simp only[fB]
  rw[aE eZ,gR,aX]
  have e3:(ot (fun _=>true) (ws.map fun w=>D.tup [.int w.1,toD w.2])).all id=true:=by simp
  rw[e3]
  exact hQ _ (x1.trans x2)
end
theorem dD {α:Type}{g:aB->Prop}{turn:D->aB->(Option D->aB->Prop)->Prop}{R:List D->aB->Prop}(t f:α->D):∀(xs:List α)(acc:List D)(st:aB),
  (∀ aA,Ext st aA->g aA)->(∀ x∈xs,∀ aA (K:Option D->aB->Prop),Ext st aA->(∀ aY,Ext aA aY->K (some (f x)) aY)->turn (t x) aA K) ->
  acc.length+xs.length<=aK->(∀ aA,Ext st aA->R (acc++xs.map f) aA)->fD g turn (xs.map t) acc st R
 |[],acc,st,hg,_,_,hR=>⟨hg st .refl,by simpa using hR st .refl⟩
 |x::xs,acc,st,hg,ht,hl,hR=>by
  simp only[ak]at hl
  refine⟨hg st .refl,by omega,ht x (by simp) st _ .refl fun aY h''=>?_⟩
  exact dD t f xs (acc++[f x]) aY (fun aA h=>hg aA (h''.trans h)) (fun y hy aA K h=>ht y (by simp [hy]) aA K (h''.trans h)) (by simp only[aq,ak,aj];omega) fun aA h=>by simpa using hR aA (h''.trans h)
theorem mO {α:Type}(b:α->Bool):∀(ps:List α),boolsOf (ps.map fun x=>.bl (b x))=some (ps.map b)
 |[]=>rfl
 |x::r=>by
  show(boolsOf (r.map fun x=>.bl (b x))).map (b x :: ·)=_
  rw[mO b r];rfl
section
variable {G:Prog}{k ih ib:Nat}{Q:VK}{E:XK}{gs:List (List Nat)}
theorem sI (h:G.fns ib=some (sW ih ib))(hh:G.fns ih=some mJ){s:Sy}{st:aB}(h1:¬(wd s==W "before")=true)(h2:oY s=false)(h3:¬(wd s==W "lamp")=true)(h4:(subs s).length<=2)
 (hp:∀ x∈subs s,∀(aA:aB)(Q':VK)(E':XK),Ext st aA->(∀ aY,Ext aA aY->Q' (.bl (fT gs x)) aY)->aI G (k+1) ib [.tup (gs.map .str),toD x] aA Q' E')(hQ:∀ aA,Ext st aA->Q (.bl ((subs s).any (fT gs))) aA):aI G (k+2) ib [.tup (gs.map .str),toD s] st Q E:=by
 have hL:aK=16777216:=rfl
 rw[aM h]
 simp only[sW,start]
 refine⟨rfl,?_⟩
 obtain⟨r,er⟩:=E5 s
 rw[er]
 walk_at"st"
 rw[if_neg h1,aL]
 walk_at"st"
 rw[if_neg h3,aL]
 walk_at"st"
 rw[<-er]
 refine DX hh ?_
 walk_at"ex"
 refine dD toD (fun x=>.bl (fT gs x)) _ [] st (fun aA x a ha=>by cases ha) (fun x hx aA K x1 hK=>hp x hx aA _ _ x1 fun aY x2=>hK aY x2) (by simp only[aj];omega) fun aA x1=>?_
 rw[ba]
 refine bE (by simp only[aa];omega) fun p aG x2 hp' eZ=>?_
 simp only[fB]
 rw[aE eZ,mO,aX,nt]
 exact hQ _ (x1.trans x2)
theorem wY (h:G.fns ib=some (sW ih ib))(hh:G.fns ih=some mJ):∀(s:Sy){k:Nat}{st:aB}{Q:VK}{E:XK},(∀ aA,Ext st aA->Q (.bl (fT gs s)) aA)->aI G (k+aO s+1) ib [.tup (gs.map .str),toD s] st Q E
 |.yes,k,st,Q,E,hQ=>sI (k:=k) h hh (by decide) rfl (by decide) (by decide) (fun x hx=>by cases hx) hQ
 |.no,k,st,Q,E,hQ=>sI (k:=k) h hh (by decide) rfl (by decide) (by decide) (fun x hx=>by cases hx) hQ
 |.dU n,k,st,Q,E,hQ=>by
  rw[aM h]
  simp only[sW,start,toD]
  refine⟨rfl,?_⟩
  walk_at"st"
  have n1:¬(W "lamp" == W "before")=true:=by decide
  rw[if_neg n1,aL]
  walk_at"st"
  have n3:(W "lamp" == W "lamp")=true:=by decide
  rw[if_pos n3]
  walk_at"st"
  refine⟨mV st gs,?_⟩
  have e:((gs.map D.str).any fun d=>bO st d (.str n))=fT gs (.dU n):=by rw[nt];rfl
  rw[e]
  exact hQ _ .refl
 |.one w s,k,st,Q,E,hQ=>by
  by_cases hw:w=.before
  ·subst hw
   rw[aM h]
   simp only[sW,start,toD,c1]
   refine⟨rfl,?_⟩
   walk_at"st"
   have n1:(W "before" == W "before")=true:=by decide
   rw[if_pos n1]
   walk_at"st"
   exact hQ _ .refl
  ·have e0:k+aO (.one w s)+1=(k+aO s)+2:=by simp only[aO];omega
   rw[e0]
   refine sI h hh (show ¬(c1 w==W "before")=true by cases w<;>first|decide|exact absurd rfl hw) rfl (show ¬(c1 w==W "lamp")=true by cases w<;>decide) (by simp [subs]) (fun x hx aA Q' E' x1 hQ'=>?_) (fun aA x1=>?_)
   ·simp only[subs,bh,bo,or_false]at hx
    rw[hx]at hQ' ⊢
    exact wY h hh s (k:=k) (st:=aA) (Q:=Q') (E:=E') hQ'
   ·have e1:(subs (.one w s)).any (fT gs)=fT gs (.one w s):=by
     cases w<;>first|exact absurd rfl hw|simp [subs,fT]
    rw[e1];exact hQ aA x1
 |.two w s t,k,st,Q,E,hQ=>by
  have l1:=vd (aO s) (aO t)
  have l2:=uc (aO s) (aO t)
  have e0:k+aO (.two w s t)+1=(k+max (aO s) (aO t))+2:=by simp only[aO];omega
  rw[e0]
  refine sI h hh (show ¬(c2 w==W "before")=true by cases w<;>decide) rfl (show ¬(c2 w==W "lamp")=true by cases w<;>decide) (by simp [subs]) (fun x hx aA Q' E' x1 hQ'=>?_) (fun aA x1=>by simpa [subs,fT]using hQ aA x1)
  simp only[subs,bh,bo,or_false]at hx
  rcases hx with hx|hx
  ·rw[hx]at hQ' ⊢
   have:=wY h hh s (k:=k+(max (aO s) (aO t)-aO s)) (st:=aA) (Q:=Q') (E:=E') hQ'
   have e:k+(max (aO s) (aO t)-aO s)+aO s+1=k+max (aO s) (aO t)+1:=by omega
   rw[e]at this;exact this
  ·rw[hx]at hQ' ⊢
   have:=wY h hh t (k:=k+(max (aO s) (aO t)-aO t)) (st:=aA) (Q:=Q') (E:=E') hQ'
   have e:k+(max (aO s) (aO t)-aO t)+aO t+1=k+max (aO s) (aO t)+1:=by omega
   rw[e]at this;exact this
end
noncomputable def CI (ia ib:Nat)(mp:D):Fn:=⟨3,3,[.ret (.and_ (.call ia [(.v 0),(.v 2),(.c mp)]) (.not_ (.bi .any [(.comp 1 [1] [0] true none [(.v 2)] [] (.call ib [(.v 1),(.v 0)]))])))]⟩
noncomputable def HF:Fn:=⟨3,3,[.ret (.bin .add (.bin .add (.bi .list [(.v 0)]) (.bi .list [(.v 1)])) (.comp 1 [] [0] true none [(.v 2)] [] (.ix (.v 0) (.c (.int 1)))))]⟩
section
variable {G:Prog}{k ih ib ir hU fA iy ia iap io:Nat}{st:aB}{Q:VK}{E:XK}{names gs:List (List Nat)}
theorem KZ (hp:G.fns iap=some (CI ia ib (.int 3)))(hb:G.fns ib=some (sW ih ib))(hh:G.fns ih=some mJ)(ha:G.fns ia=some (wV ir iy))(hr:G.fns ir=some fF)(hy:G.fns iy=some (oW fA (.int 8)))(h:G.fns fA=some (lK hU fA (.cH wI yR)))(hn:G.fns hU=some (iR (.tup (fL.map .str)) (.str eH) (.int 8)))(kF:∀ n∈names,fE n=true){ss:List Sy}
  (ho:∀ s∈ss,over names s/\aO s<=8)(hl:ss.length<=3)(hbare:∀ s∈ss,fT gs s=false)(hQ:∀ aA,Ext st aA->Q (.bl true) aA):aI G (k+12) iap [.tup (names.map .str),.tup (gs.map .str),.tup (ss.map toD)] st Q E:=by
 have hL:aK=16777216:=rfl
 rw[aM hp]
 simp only[CI,start]
 refine⟨rfl,?_⟩
 walk_at"st"
 refine AZ ha hr hy h hn kF ho (by omega) (by omega) fun aC y1=>?_
 walk_at"ex"
 refine dD toD (fun _=>.bl false) _ [] aC (fun aA x a ha=>by cases ha) (fun x hx aA K x1 hK=>?_) (by simp only[aj];omega) fun aA x1=>?_
 ·have e:k+11=(k+10-aO x)+aO x+1:=by have:=(ho x hx).2;omega
  rw[e]
  refine wY hb hh x fun aY x2=>?_
  rw[hbare x hx]
  exact hK aY x2
 ·rw[ba]
  refine bE (by simp only[aa];omega) fun p aG x2 hp' eZ=>?_
  simp only[fB]
  rw[aE eZ,mO (fun _=>false),aX]
  have e3:(ss.map fun _=>false).any id=false:=by simp
  rw[e3]
  exact hQ _ ((y1.trans x1).trans x2)
theorem NV (h:G.fns io=some HF){ps ms:List Sy}{ws:List (Int×Sy)}(h1:ps.length<=1000)(h2:ms.length<=1000)(h3:ws.length<=1000)
 (hQ:∀ p aA,Ext st aA->aA p=some (.lst ((ps++ms++ws.map (·.2)).map toD))->Q (.ref p) aA):aI G (k+1) io [.tup (ps.map toD),.tup (ms.map toD),.tup (ws.map fun w=>.tup [.int w.1,toD w.2])] st Q E:=by
 have hL:aK=16777216:=rfl
 rw[aM h]
 simp only[HF,start]
 refine⟨rfl,?_⟩
 walk_at"st"
 refine bE (by simp only[aa];omega) fun p aC x1 hp hp1=>?_
 walk_at"ex"
 refine bE (by simp only[aa];omega) fun q aG x2 hq hq2=>?_
 walk_at"ex"
 rw[aE (x2 _ _ hp1),aE hq2]
 refine bE (by simp only[aa,aq];omega) fun r aQ x3 hr hr3=>?_
 refine dD (fun w:Int×Sy=>D.tup [.int w.1,toD w.2]) (fun w=>toD w.2) _ [] aQ (fun aA x a ha=>by cases ha) (fun x hx aA K y1 hK=>hK aA .refl) (by simp only[aj];omega) fun bY x4=>?_
 rw[ba]
 refine bE (by simp only[aa];omega) fun u dY x5 hu hu5=>?_
 show bW dY r fun xs=>bW dY u fun ys=>fX (xs++ys) dY Q
 rw[aE (x5 _ _ (x4 _ _ hr3)),aE hu5]
 refine bE (by simp only[aa,aq];omega) fun v fQ x6 hv hv6=>?_
 refine hQ v fQ (((((x1.trans x2).trans x3).trans x4).trans x5).trans x6) ?_
 rw[hv6]
 simp only[dr,de]
 rfl
end
noncomputable def B9 (ir il iap ia iaw ipi io:Nat)(mm mp:D):Fn:=⟨1,6,[.iff (.or_ (.not_ (.call ir [(.v 0),(.c (.int 5)),(.c (.int 5))])) (.not_ (.call il [(.ix (.v 0) (.c (.int 0))),(.ix (.v 0) (.c (.int 1)))]))) [.ret (.c (.bl false))] [],.asg (.nm 1) (.ix (.v 0) (.c (.int 1))),.asg (.nm 2) (.bin .add (.ix (.v 0) (.c (.int 0))) (.v 1)),.asg (.nm 3) (.ix (.v 0) (.c (.int 2))),.asg (.nm 4) (.ix (.v 0) (.c (.int 3))),.asg (.nm 5) (.ix (.v 0) (.c (.int 4))),.iff (.or_ (.not_ (.call iap [(.v 2),(.v 1),(.v 3)])) (.not_ (.call ia [(.v 2),(.v 4),(.c mm)]))) [.ret (.c (.bl false))] [],.ret (.and_ (.call iaw [(.v 2),(.v 5)]) (.cmp .le (.bi .len [(.call ipi [(.call io [(.v 3),(.v 4),(.v 5)])])]) (.c mp)))]⟩
structure Bk where
 fs:List (List Nat)
 gs:List (List Nat)
 ps:List Sy
 ms:List Sy
 ws:List (Int×Sy)
noncomputable def Bk.d (b:Bk):D:=.tup [.tup (b.fs.map .str),.tup (b.gs.map .str),.tup (b.ps.map toD),.tup (b.ms.map toD),.tup (b.ws.map fun w=>.tup [.int w.1,toD w.2])]
noncomputable def Bk.names (b:Bk):List (List Nat):=b.fs++b.gs
noncomputable def Bk.says (b:Bk):List Sy:=b.ps++b.ms++b.ws.map (·.2)
structure Bk.Ok (b:Bk):Prop where
 f1:1<=b.fs.length
 f2:b.fs.length<=2
 g1:1<=b.gs.length
 g2:b.gs.length<=2
 nd:b.names.Nodup
 nm:∀ n∈b.names,fE n=true
 p1:b.ps.length<=3
 p2:∀ s∈b.ps,over b.names s/\aO s<=8
 p3:∀ s∈b.ps,fT b.gs s=false
 m1:b.ms.length<=3
 m2:∀ s∈b.ms,over b.names s/\aO s<=8
 w1:1<=b.ws.length
 w2:b.ws.length<=5
 w3:∀ w∈b.ws,1<=w.1/\w.1<=99/\over b.names w.2/\aO w.2<=8
section
variable {G:Prog}{k ih ib ir hU fA iy ia iap io il iaw ipi ip iw ibk:Nat}{st:aB}{Q:VK}{E:XK}
theorem kN (h:G.fns ir=some fF){ds:List D}{lo hi:Int}(h1:lo<=(ds.length:Int))(h2:(ds.length:Int)<=hi)(hQ:Q (.bl true) st):aI G (k+1) ir [.tup ds,.int lo,.int hi] st Q E :=
 iY h (by rw[decide_eq_true h1,decide_eq_true h2];exact hQ)
end
section
variable {G:Prog}{k ir il iap ia iaw ipi io ibk:Nat}{Q:VK}{E:XK}
theorem IV (hbk:G.fns ibk=some (B9 ir il iap ia iaw ipi io (.int 3) (.int 4)))(hr:G.fns ir=some fF){F J P M V N:D}{st:aB}{Φ:Nat->aB->Prop}
 (h1:∀(st:aB)(Q:VK)(E:XK),(∀ aA,Ext st aA->Q (.bl true) aA)->aI G (k+12) il [F,J] st Q E)(h2:∀(st:aB)(Q:VK),Q N st->hV .add F J st Q)
 (h3:∀(st:aB)(Q:VK)(E:XK),(∀ aA,Ext st aA->Q (.bl true) aA)->aI G (k+12) iap [N,J,P] st Q E)(h4:∀(st:aB)(Q:VK)(E:XK),(∀ aA,Ext st aA->Q (.bl true) aA)->aI G (k+12) ia [N,M,.int 3] st Q E)
 (h5:∀(st:aB)(Q:VK)(E:XK),(∀ aA,Ext st aA->Q (.bl true) aA)->aI G (k+12) iaw [N,V] st Q E)(h6:∀(st:aB)(Q:VK)(E:XK),(∀ l aA,Ext st aA->Φ l aA->Q (.ref l) aA)->aI G (k+12) io [P,M,V] st Q E)
 (h7:∀(l:Nat)(st:aB)(Q:VK)(E:XK),Φ l st->(∀ p aA (xs:List D),Ext st aA->xs.length<=4->aA p=some (.lst xs)->Q (.ref p) aA)->aI G (k+12) ipi [.ref l] st Q E)
 (hQ:∀ aA,Ext st aA->Q (.bl true) aA):aI G (k+13) ibk [.tup [F,J,P,M,V]] st Q E:=by
 rw[aM hbk]
 simp only[B9,start]
 refine⟨rfl,?_⟩
 walk_at"st"
 refine kN hr (Qk 5) (Qk 5) ?_
 walk_at"ex"
 refine h1 _ _ _ fun aC x1=>?_
 walk_at"ex"
 rw[aL]
 try dsimp only
 refine gA ?_
 rw[sE,zJ,D3]
 simp only[↓CL,↓FE]
 rw[nK,show eJ [F,J,P,M,V] 1=some J from rfl,aX,xH]
 simp only[df,cv]
 refine gA ?_
 rw[sE,MF,zJ,D3]
 simp only[↓CL,↓FE]
 rw[nK,show eJ [F,J,P,M,V] 0=some F from rfl,aX,D3]
 simp only[df,cv,↓Dx]
 refine h2 _ _ ?_
 rw[xH]
 simp only[df,cv]
 refine gA ?_
 rw[sE,zJ,D3]
 simp only[df,cv,↓CL,↓FE]
 rw[nK,show eJ [F,J,P,M,V] 2=some P from rfl,aX,xH]
 simp only[df,cv]
 refine gA ?_
 rw[sE,zJ,D3]
 simp only[df,cv,↓CL,↓FE]
 rw[nK,show eJ [F,J,P,M,V] 3=some M from rfl,aX,xH]
 simp only[df,cv]
 refine gA ?_
 rw[sE,zJ,D3]
 simp only[df,cv,↓CL,↓FE]
 rw[nK,show eJ [F,J,P,M,V] 4=some V from rfl,aX,xH]
 simp only[df,cv]
 walk_at"st"
 refine h3 _ _ _ fun aG x2=>?_
 walk_at"ex"
 refine h4 _ _ _ fun aQ x3=>?_
 walk_at"ex"
 rw[aL]
 walk_at"st"
 refine h5 _ _ _ fun bY x4=>?_
 walk_at"ex"
 refine h6 _ _ _ fun l dY x5 hl=>?_
 walk_at"ex"
 refine h7 _ _ _ _ hl fun p fQ xs x6 hx hp=>?_
 walk_at"ex"
 unfold dW
 rw[hp]
 show Q (.bl (decide ((xs.length:Int)<=4))) fQ
 rw[decide_eq_true (show(xs.length:Int)<=4 by omega)]
 exact hQ _ (((((x1.trans x2).trans x3).trans x4).trans x5).trans x6)
end
section
variable {G:Prog}{k ih ib ir hU fA iy ia iap io il iaw ipi ip iw ibk:Nat}{st:aB}{Q:VK}{E:XK}
theorem LW (hbk:G.fns ibk=some (B9 ir il iap ia iaw ipi io (.int 3) (.int 4)))(hla:G.fns il=some (HK ir hU (.int 2)))(hap:G.fns iap=some (CI ia ib (.int 3)))(hb:G.fns ib=some (sW ih ib))(hh:G.fns ih=some mJ)(ha:G.fns ia=some (wV ir iy))(hr:G.fns ir=some fF)(hy:G.fns iy=some (oW fA (.int 8)))(h:G.fns fA=some (lK hU fA (.cH wI yR)))
  (hn:G.fns hU=some (iR (.tup (fL.map .str)) (.str eH) (.int 8)))(haw:G.fns iaw=some (zC ir iw (.int 5)))(hw:G.fns iw=some (xA ir ip iy))(hp:G.fns ip=some (pM (.int 99)))(ho:G.fns io=some HF)(hpi:G.fns ipi=some (uO ih)){b:Bk}(B:b.Ok)(hs:lE b.says<aK)(hd:∀ x∈b.says,aO x<=60)(hc:(iI b.says []).length<=4)
  (hQ:∀ aA,Ext st aA->Q (.bl true) aA):aI G (k+13) ibk [b.d] st Q E:=by
 have hL:aK=16777216:=rfl
 have f2:=B.f2
 have g2:=B.g2
 have p1:=B.p1
 have m1:=B.m1
 have w2:=B.w2
 refine IV hbk hr (N:=.tup (b.names.map .str)) (Φ:=fun l st=>st l=some (.lst (b.says.map toD))) (fun st Q E q=>RA (k:=k+10) hla hr hn B.f1 B.f2 B.g1 B.g2 B.nd B.nm q) (fun st Q q=>?_) (fun st Q E q=>KZ (k:=k) hap hb hh ha hr hy h hn B.nm B.p2 B.p1 B.p3 q)
  (fun st Q E q=>AZ (k:=k+1) ha hr hy h hn B.nm B.m2 (by omega) (by omega) q) (fun st Q E q=>JJ (k:=k) haw hw hr hp hy h hn B.nm B.w3 B.w1 B.w2 q) (fun st Q E q=>NV (k:=k+11) ho (by omega) (by omega) (by omega) fun p aA x e=>q p aA x e)
  (fun l st Q E e q=>GP (k:=k+10) hpi hh e hd hs fun p aA x e'=>q p aA _ x (by simpa using hc) e') hQ
 show _/\Q _ st
 refine⟨by simp only[aa];omega,?_⟩
 rw[<-dr]
 exact q
end
end L3
end
section
namespace L3
noncomputable def NS (f g:Nat->Bool):Nat->Bool
 |0=>g 0
 |t+1=>g (t+1)||(f (t+1)&&NS f g t)
noncomputable def Ey (names:List (List Nat))(jI:List (List Bool))(n:List Nat)(t:Nat):Bool:=(((jI[t]?).getD [])[names.idxOf n]?).getD false
noncomputable def hv (names:List (List Nat))(jI:List (List Bool)):Sy->Nat->Bool
 |.yes,_=>true
 |.no,_=>false
 |.dU n,t=>Ey names jI n t
 |.one .not s,t=>!hv names jI s t
 |.one .before s,t=>decide (0<t)&&hv names jI s (t-1)
 |.one .once s,t=>(bc (t+1)).any (hv names jI s)
 |.one .sofar s,t=>(bc (t+1)).all (hv names jI s)
 |.two .and s u,t=>hv names jI s t&&hv names jI u t
 |.two .or s u,t=>hv names jI s t||hv names jI u t
 |.two .bA s u,t=>hv names jI u t || !hv names jI s t
 |.two .same s u,t=>hv names jI s t==hv names jI u t
 |.two .since s u,t=>NS (hv names jI s) (hv names jI u) t
end L3
end
section
namespace L3
open PySem
theorem jT {α:Type}(t:α->D){g:aB->Prop}{turn:D->(St->aB->Prop)->St->aB->Prop}{N:St->aB->Prop}(I:List α->St->aB->Prop)(hg:∀ xs σ st,I xs σ st->g st)
 (ht:∀ x r σ st (M:St->aB->Prop),I (x::r) σ st->(∀ σ' aA,I r σ' aA->M σ' aA)->turn (t x) M σ st)(hN:∀ σ st,I [] σ st->N σ st):∀(xs:List α)(σ:St)(st:aB),I xs σ st->vE g turn N (xs.map t) σ st
 |[],σ,st,h=>⟨hg _ _ _ h,hN _ _ h⟩
 |x::xs,σ,st,h=>⟨hg _ _ _ h,ht x xs σ st _ h fun σ' aA h'=>jT t I hg ht hN xs σ' aA h'⟩
theorem GH:∀(l:List Sy){f:List Sy}{n:Nat},(∀ x∈f,aO x<=n)->(∀ x∈l,aO x<=n)->∀ x∈iI l f,aO x<=n
 |[],_,_,hf,_=>hf
 |s::l,f,n,hf,hl=>GH l (xB s hf (hl s (by simp))) fun x hx=>hl x (by simp [hx])
noncomputable def fM:Fn:=⟨2,2,[.ret (.and_ (.isi (.v 0) [.tuple]) (.and_ (.cmp .eq (.bi .len [(.v 0)]) (.v 1)) (.bi .all [(.comp 1 [] [0] true none [(.v 0)] [] (.isi (.v 0) [.bool]))])))]⟩
noncomputable def pJ (ibk:Nat):Fn:=⟨1,1,[.iff (.not_ (.call ibk [(.v 0)])) [.rais 2 [(.c (.str (W "no book")))]] [],.ret (.v 0)]⟩
section
variable {G:Prog}{k i ie iw ipo iz irr iti io r:Nat}{st:aB}{Q:VK}{E:XK}{b:Bk}
theorem U5 (B:b.Ok):∀ s∈b.says,over b.names s/\aO s<=8:=by
 intro s hs
 simp only[Bk.says,j1,Pt]at hs
 rcases hs with(hs|hs)|⟨w,hw,rfl⟩
 ·exact B.p2 s hs
 ·exact B.m2 s hs
 ·exact⟨(B.w3 w hw).2.2.1,(B.w3 w hw).2.2.2⟩
end
noncomputable def dM (bs:List Bool):D:=.tup (bs.map .bl)
def xF (G:Prog)(ibk kb:Nat)(b:Bk):Prop:=∀(k:Nat)(st:aB)(Q:VK)(E:XK),(∀ aA,Ext st aA->Q (.bl true) aA)->aI G (k+kb) ibk [b.d] st Q E
section
variable {G:Prog}{k i ibk kb ich icp ist ie iw ipo iz irr iti io iri ima Nx iph inh:Nat}{st:aB}{Q:VK}{E:XK}{b:Bk}
theorem MZ (h:G.fns ist=some fM){bs:List Bool}{n:Nat}(hn:bs.length=n)(hl:n<=100)(hQ:∀ aA,Ext st aA->Q (.bl true) aA):aI G (k+1) ist [dM bs,.int n] st Q E:=by
 have hL:aK=16777216:=rfl
 rw[aM h]
 simp only[fM,start,dM]
 refine⟨rfl,?_⟩
 walk_at"st"
 have e1:(((bs.map D.bl).length:Int)==(n:Int))=true:=by rw[aa,hn];simp
 simp only[e1,if_true]
 walk_at"ex"
 refine dD D.bl (fun _=>.bl true) bs [] st (fun aY y a ha=>by cases ha) (fun t ht aY K y1 hK=>hK aY .refl) (by simp only[aj];omega) fun aG y2=>?_
 rw[ba]
 refine bE (by simp only[aa];omega) fun pp aQ y3 hpp tO=>?_
 walk_at"ex"
 rw[aE tO,gR,aX]
 have e2:(bs.map fun _=>true).all id=true:=by simp
 rw[e2]
 exact hQ aQ (y2.trans y3)
theorem tF (h:G.fns ich=some (pJ ibk))(hb:xF G ibk kb b)(hQ:∀ aA,Ext st aA->Q b.d aA):aI G (k+kb+1) ich [b.d] st Q E:=by
 rw[aM h]
 simp only[pJ,start]
 refine⟨rfl,?_⟩
 walk_at"st"
 refine hb k _ _ _ fun aC x1=>?_
 walk_at"ex"
 simp only[aL]
 walk_at"st"
 exact hQ aC x1
end
local macro_rules|`(tactic| walk_at"wd")=>`(tactic| (first|rw[if_pos (by decide +kernel)]|rw[if_neg (by decide +kernel)]))
theorem zD {α:Type}{g:aB->Prop}{turn:D->aB->(Option D->aB->Prop)->Prop}{R:List D->aB->Prop}(t:α->D)(f:α->Option D):∀(xs:List α)(acc:List D)(st:aB),
  (∀ aA,Ext st aA->g aA)->(∀ x∈xs,∀ aA (K:Option D->aB->Prop),Ext st aA->(∀ aY,Ext aA aY->K (f x) aY)->turn (t x) aA K) ->
  acc.length+xs.length<=aK->(∀ aA,Ext st aA->R (acc++xs.filterMap f) aA)->fD g turn (xs.map t) acc st R
 |[],acc,st,hg,_,_,hR=>⟨hg st .refl,by simpa using hR st .refl⟩
 |x::xs,acc,st,hg,ht,hl,hR=>by
  simp only[ak]at hl
  refine⟨hg st .refl,by omega,ht x (by simp) st _ .refl fun aY h''=>?_⟩
  cases hf:f x with
  |none =>
   exact zD t f xs acc aY (fun aA h=>hg aA (h''.trans h)) (fun y hy aA K h=>ht y (by simp [hy]) aA K (h''.trans h)) (by omega) fun aA h=>by simpa [hf]using hR aA (h''.trans h)
  |some d =>
   exact zD t f xs (acc++[d]) aY (fun aA h=>hg aA (h''.trans h)) (fun y hy aA K h=>ht y (by simp [hy]) aA K (h''.trans h)) (by simp only[aq,ak,aj];omega) fun aA h=>by simpa [hf]using hR aA (h''.trans h)
theorem eq_nil {st:aB}{p q:Nat}{xs:List D}(h:st p=some (.lst xs))(h':st q=some (.lst [])):bO st (.ref p) (.ref q)=xs.isEmpty:=by
 simp only[bO,h,h',CY]
 cases xs<;>rfl
theorem lB (n:Nat):iB 0 n=(bc n).map fun k=>D.int (k:Nat):=by
 unfold iB;congr 1;funext k;simp
theorem zB (bs:List Bool):bB (dM bs)=true:=by
 simp only[dM,bB]
 induction bs with
 |nil=>rfl
 |cons a l ih=>simp only[az,bF,bB,ih,dm]
theorem KI (bs:List Bool):dF (dM bs)<=1:=by
 simp only[dM,dF]
 have:cF (bs.map D.bl)=0:=by
  induction bs with
  |nil=>rfl
  |cons a l ih=>simp only[az,cF,dF,ih];rfl
 omega
noncomputable def xM (is dB:Nat):Fn:=⟨5,7,[.asg (.nm 5) (.call is [(.v 0),(.v 1),(.v 2),(.c (.int 1)),(.lst [(.c (.int 0))])]),.iff (.and_ (.cmp .gt (.ix (.v 4) (.c (.int 0))) (.c (.int 0))) (.cmp .eq (.call dB [(.v 0),(.v 1),(.c (.int 2))]) (.c (.int 1)))) [.asg (.ix (.v 4) (.c (.int 0))) (.bin .sub (.ix (.v 4) (.c (.int 0))) (.c (.int 1))),.asg (.nm 6) (.call is [(.v 0),(.v 1),(.v 3),(.c (.int 1)),(.lst [(.c (.int 0))])]),.ret (.tup [(.ix (.lst [(.c (.str (W "then"))),(.c (.str (W "or"))),(.c (.str (W "same")))]) (.call dB [(.v 0),(.v 1),(.c (.int 3))])),(.tup [(.c (.str (W "before"))),(.v 6)]),(.v 5)])] [],.ret (.v 5)]⟩
noncomputable def xC (inm dB is ipr:Nat):Fn:=⟨4,14,[.asg (.nm 4) (.lst [(.v 1)]),.asg (.tp [5,6]) (.call inm [(.v 0),(.v 4)]),.asg (.nm 7) (.bin .add (.v 5) (.v 6)),.asg (.nm 8) (.lst [(.call dB [(.v 0),(.v 4),(.bin .add (.v 2) (.c (.int 1)))])]),.asg (.nm 9) (.lst []),.kJ (.nm 10) (some .range) [(.bin .add (.c (.int 1)) (.call dB [(.v 0),(.v 4),(.c (.int 3))]))] [.asg (.nm 11) (.bin .add (.c (.int 1)) (.call dB [(.v 0),(.v 4),(.ix (.lst [(.c (.int 3)),(.c (.int 9)),(.c (.int 99))]) (.call dB [(.v 0),(.v 4),(.c (.int 3))]))])),.ex (.bX .append (.v 9) [(.tup [(.v 11),(.call is [(.v 0),(.v 4),(.v 7),(.c (.int 2)),(.v 8)])])])],.asg (.nm 12) (.comp 1 [0,4,7,8] [0] true (some .range) [(.call dB [(.v 0),(.v 4),(.bin .add (.v 3) (.c (.int 1)))])] [] (.call is [(.v 1),(.v 2),(.v 3),(.c (.int 2)),(.v 4)])),.asg (.nm 13) (.comp 1 [0,4,5,7,8] [0] true (some .range) [(.call dB [(.v 0),(.v 4),(.c (.int 2))])] [] (.call ipr [(.v 1),(.v 2),(.v 3),(.v 4),(.v 5)])),.ret (.tup [(.v 5),(.v 6),(.bi .tuple [(.v 13)]),(.bi .tuple [(.v 12)]),(.bi .tuple [(.v 9)])])]⟩
theorem nI {f g:List (List Nat)}(h:∀ n∈f,n∈g):∀ s:Sy,over f s->over g s
 |.yes,_=>trivial
 |.no,_=>trivial
 |.dU _,q=>h _ q
 |.one w s,q=>nI h s q
 |.two w s t,q=>⟨nI h s q.1,nI h t q.2⟩
theorem nG {fs gs:List (List Nat)}(h:∀ n∈fs,n∉gs):∀ s:Sy,over fs s->fT gs s=false
 |.yes,_=>rfl
 |.no,_=>rfl
 |.dU n,q=>by
  simp only[fT,rz]
  intro x hx e
  have:=h n q
  rw[<-eq_of_beq e]at this
  exact this hx
 |.one w s,q=>by cases w<;>first|rfl|exact nG h s q
 |.two w s t,q=>by simp only[fT,nG h s q.1,nG h t q.2,Pu]
section
variable {G:Prog}{k ic im dB is ipr:Nat}{st:aB}{Q:VK}{E:XK}{ns:List Int}
theorem VJ (h:G.fns ipr=some (xM is dB))(hs:G.fns is=some (mM dB is))(hn:G.fns dB=some (pW im))(hm:G.fns im=some (kM ic))(hc:G.fns ic=some lP){fs gs:List (List Nat)}(hf:0<fs.length)(hdis:∀ n∈fs,n∉gs){a b:Nat}(dG:a≠b){i l:Int}
  (ha:st a=some (.lst [.int i]))(hb:st b=some (.lst [.int l]))(hi:0<=i)(hl:0<=l)
  (hQ:∀ s aA i',over (fs++gs) s->fT gs s=false->aO s<=4->(cnt s:Int)<=l->cC [a,b] st aA->0<=i'->aA a=some (.lst [.int i'])->aA b=some (.lst [.int (l-cnt s)])->Q (toD s) aA):
  aI G (k+6) ipr [.bD (ns.map .int),.ref a,.tup (fs.map .str),.tup ((fs++gs).map .str),.ref b] st Q E:=by
 rw[aM h]
 simp only[xM,start]
 refine⟨rfl,?_⟩
 have hfm:∀ n∈fs,n∈fs++gs:=fun n hn=>by simp [hn]
 walk_at"st"
 refine bE (by decide) fun z aC x1 hz hz1=>?_
 have za:a≠z:=fun e=>by rw[<-e,ha]at hz;cases hz
 have zb:b≠z:=fun e=>by rw[<-e,hb]at hz;cases hz
 have zz:∀ c o,st c=some o->c≠z:=fun c o e q=>by rw[q,hz]at e;cases e
 refine pR (k:=k) hs hn hm hc hf za 1 (x1 _ _ ha) hz1 hi (by omega) fun s aG i2 o1 d1 c1' k2 hi2 a2 z2=>?_
 have cs:cnt s=0:=by omega
 have b2:aG b=some (.lst [.int l]):=k2 b _ (by simp [dG.symm,zb]) (x1 _ _ hb)
 have kk2:cC [a,b] st aG:=fun c o nc e=>k2 c o (by simp only[bh,bo,or_false,not_or]at nc ⊢;exact⟨nc.1,zz c o e⟩) (x1 _ _ e)
 have base:∀ aQ i3,cC [a,b] aG aQ->0<=i3->aQ a=some (.lst [.int i3])->aQ b=some (.lst [.int l])->Q (toD s) aQ:=fun aQ i3 k3 h3 a3 b3 =>
  hQ s aQ i3 (nI hfm s o1) (nG hdis s o1) (by omega) (by omega) (kk2.trans k3) h3 a3 (by rw[cs];simpa using b3)
 walk_at"st"
 rw[dE b2,HD,aX]
 walk_at"ex"
 by_cases hl0:0<l
 ·rw[if_pos hl0]
  refine fJ (k:=k+2) hn hm hc a2 hi2 (by omega) fun aQ k3 a3=>?_
  have b3:aQ b=some (.lst [.int l]):=k3 b _ (by simpa using dG.symm) b2
  walk_at"ex"
  generalize hv:jE ns (i2+1) 2=v
  cases hv1:(v==1)with
  |true =>
   simp only[if_true]
   walk_at"st"
   rw[dE b3,HD,aX]
   walk_at"ex"
   rw[aE b3,T1,aX]
   generalize hst4:put aQ b _=bY
   have b4:bY b=some (.lst [.int (l-1)]):=by rw[<-hst4,bS];rfl
   have a4:bY a=some (.lst [.int (i2+1)]):=by rw[<-hst4,cR dG];exact a3
   have k4:cC [a,b] aQ bY:=by rw[<-hst4];exact cC.put (by simp)
   walk_at"st"
   refine bE (by decide) fun y dY x5 hy hy5=>?_
   have ya:a≠y:=fun e=>by rw[<-e,a4]at hy;cases hy
   have yb:b≠y:=fun e=>by rw[<-e,b4]at hy;cases hy
   have yy:∀ c o,bY c=some o->c≠y:=fun c o e q=>by rw[q,hy]at e;cases e
   refine pR (k:=k) hs hn hm hc (by simp;omega) ya 1 (x5 _ _ a4) hy5 (by omega) (by omega) fun s2 fQ i6 o6 d6 c6 k6 hi6 a6 y6=>?_
   have cs2:cnt s2=0:=by omega
   have b6:fQ b=some (.lst [.int (l-1)]):=k6 b _ (by simp [dG.symm,yb]) (x5 _ _ b4)
   have kk6:cC [a,b] bY fQ:=fun c o nc e=>k6 c o (by simp only[bh,bo,or_false,not_or]at nc ⊢;exact⟨nc.1,yy c o e⟩) (x5 _ _ e)
   walk_at"st"
   refine bE (by decide) fun u yT x7 hu hu7=>?_
   walk_at"ex"
   refine fJ (k:=k+2) hn hm hc (x7 _ _ a6) hi6 (by omega) fun eU k8 a8=>?_
   have u8:eU u=some (.lst [.str (W "then"),.str (W "or"),.str (W "same")]):=k8 u _ (by
    intro z'
    simp only[bf]at z'
    rw[z',a6]at hu;cases hu) hu7
   have w0:=eV (ns:=ns) (k:=i6+1) (many:=3) (by omega)
   have w1:=fO (ns:=ns) (k:=i6+1) (many:=3) (by omega)
   generalize jE ns (i6+1) 3=w at w0 w1
   have b8:eU b=some (.lst [.int (l-1)]):=k8 b _ (by simpa using dG.symm) (x7 _ _ b6)
   have kk8:cC [a,b] st eU:=((((kk2.trans (k3.mono (by simp))).trans k4).trans kk6).trans x7.keep).trans (k8.mono (by simp))
   have fin:∀ W2',p2 W2'=false->aO (Sy.two W2' (.one .before s2) s)<=4->Q (toD (Sy.two W2' (.one .before s2) s)) eU:=fun W2' eZ hdp=>by
    have hcn:cnt (Sy.two W2' (.one .before s2) s)=1:=by simp [cnt,eZ,p1,cs,cs2]
    refine hQ _ eU (i6+1) ⟨o6,nI hfm s o1⟩ ?_ hdp (by rw[hcn];omega) kk8 (by omega) a8 (by rw[hcn];exact b8)
    simp only[fT,nG hdis s o1,Pu]
   walk_at"ex"
   have hdp:∀ W2',aO (Sy.two W2' (.one .before s2) s)<=4:=fun W2'=>by simp only[aO];omega
   have hw:w=0∨w=1∨w=2:=by omega
   rcases hw with rfl|rfl|rfl
   ·rw[dE u8,HD,aX];exact fin .bA rfl (hdp _)
   ·rw[dE u8,S0,aX];exact fin .or rfl (hdp _)
   ·rw[dE u8,RJ,aX];exact fin .same rfl (hdp _)
  |false =>
   simp only[ai,if_false,aL]
   walk_at"st"
   exact base aQ (i2+1) (k3.mono (by simp)) (by omega) a3 b3
 ·rw[if_neg hl0]
  (try rw[if_neg hl0])
  (try simp only[decide_eq_false hl0,ai,if_false])
  rw[aL]
  walk_at"st"
  exact base aG i2 .refl hi2 a2 b2
end
theorem RG {fs gs:List (List Nat)}(h:rB fs gs=true):1<=fs.length/\fs.length<=2/\1<=gs.length/\gs.length<=2/\(fs++gs).Nodup/\∀ n∈fs++gs,n∈mW:=by
 simp only[rB,ay,decide_eq_true_eq,yz]at h
 obtain⟨⟨⟨⟨⟨a,b⟩,c⟩,d⟩,e⟩,f⟩:=h
 exact⟨a,b,c,d,e,fun n hn=>by simpa using f n hn⟩
theorem MQ:∀ n∈mW,fE n=true:=by decide +kernel
noncomputable def eI (l:List Sy):Nat:=(l.map cnt).sum
theorem qI (a b:List Sy):eI (a++b)=eI a+eI b:=by simp [eI]
theorem GW (f:List Sy)(s:Sy):(iK f s).length<=f.length+(if jK s=true then 1 else 0):=by
 unfold iK
 cases h:jK s with
 |true=>simp only[g5,if_true];split<;>simp
 |false=>simp
theorem xG:∀(s:Sy)(f:List Sy),(mG s f).length<=f.length+cnt s
 |.yes,f=>by simp [mG]
 |.no,f=>by simp [mG]
 |.dU _,f=>by simp [mG]
 |.one w s,f=>by
  have h1:=xG s (iK f (.one w s))
  have h2:=GW f (.one w s)
  simp only[jK]at h2
  simp only[mG,cnt]
  cases h:p1 w<;>simp [h]at h2 ⊢<;>omega
 |.two w s t,f=>by
  have h1:=xG s (iK f (.two w s t))
  have h2:=GW f (.two w s t)
  have h3:=xG t (mG s (iK f (.two w s t)))
  simp only[jK]at h2
  simp only[mG,cnt]
  cases h:p2 w<;>simp [h]at h2 ⊢<;>omega
theorem FO:∀(l f:List Sy),(iI l f).length<=f.length+eI l
 |[],f=>by simp [iI,eI]
 |s::l,f=>by
  have h1:=FO l (mG s f)
  have h2:=xG s f
  have:eI (s::l)=cnt s+eI l:=by simp [eI]
  simp only[iI];omega
structure Jn (b:Bk)(pieces fW:Int):Prop where
 ok:b.Ok
 d4:∀ s∈b.says,aO s<=4
 ms:(b.ms.length:Int)<=fW
 cn:(eI b.says:Int)<=pieces
 n8:∀ n∈b.names,n∈mW
noncomputable abbrev bσ (at_ pieces fW:Int)(ns:List Int)(fs gs:List (List Nat))(m lf wl:Nat)(jC jM UX Ny:Option D):St:=[some (.bD (ns.map .int)),some (.int at_),some (.int pieces),some (.int fW),some (.ref m),some (.tup (fs.map .str)),some (.tup (gs.map .str)),some (.tup ((fs++gs).map .str)),some (.ref lf),some (.ref wl),jC,jM,UX,Ny]
inductive WI (σ0:Option D->Option D->St)(names:List (List Nat))(m lf wl:Nat)(fQ:aB)(lv v:Int)(rest:List Nat)(σ:St)(aA:aB):Prop
 |mk (j:Nat)(jC jM:Option D)(i':Int)(ws:List (Int×Sy))(e1:rest=(bc (1+v).toNat).drop j)(e2:σ=σ0 jC jM)(q1:cC [m,lf,wl] fQ aA)(q2:0<=i')(q3:aA m=some (.lst [.int i']))(q4:aA lf=some (.lst [.int (lv-eI (ws.map (·.2)))]))(q5:(eI (ws.map (·.2)):Int)<=lv)(q6:aA wl=some (.lst (ws.map fun w:Int×Sy=>.tup [.int w.1,toD w.2])))(q7:ws.length=j)(q7':j<=(1+v).toNat)(q8:∀ w∈ws,1<=w.1/\w.1<=99/\over names w.2/\aO w.2<=3)
theorem Nd {a b c:Nat}{x:Int}(h:(a:Int)<=x)(h':(b:Int)<=x-a):((a+b:Nat):Int)<=x:=by omega
theorem Nj {a b:Nat}{x:Int}:x-(a:Int)-(b:Int)=x-((a+b:Nat):Int):=by omega
theorem UG {b:Nat}{x:Int}(h:(b:Int)<=x):0<=x-(b:Int):=by omega
theorem draws {turn:D->aB->(Option D->aB->Prop)->Prop}{R:List D->aB->Prop}{m lf:Nat}{ok:Sy->Prop}{yU:aB}
 (ht:∀(x:D)(st:aB)(K:Option D->aB->Prop)(i c:Int),0<=i->0<=c->st m=some (.lst [.int i])->st lf=some (.lst [.int c])->(∀ s aA i',ok s->(cnt s:Int)<=c->cC [m,lf] st aA->0<=i'->aA m=some (.lst [.int i'])->aA lf=some (.lst [.int (c-cnt s)])->K (some (toD s)) aA)->turn x st K):
 ∀(xs:List D)(ss:List Sy){st:aB}{i c:Int},0<=i->0<=c->st m=some (.lst [.int i])->st lf=some (.lst [.int c])->ss.length+xs.length<aK ->
  (∀ ss' aA i',(∀ s∈ss',ok s)->ss'.length=xs.length->(eI ss':Int)<=c->cC [m,lf] st aA->0<=i'->aA m=some (.lst [.int i'])->aA lf=some (.lst [.int (c-eI ss')])->R ((ss++ss').map toD) aA) ->
  fD (same [] yU) turn xs (ss.map toD) st R
 |[],ss,st,i,c,hi,hc,hm,hl,hn,h=>⟨GS,by have q:=h [] st i (fun _ h=>nomatch h) rfl (by simpa [eI]using hc) .refl hi hm (by simpa [eI]using hl);rw[d7]at q;exact q⟩
 |x::xs,ss,st,i,c,hi,hc,hm,hl,hn,h=>⟨GS,by rw[aa];simp only[ak]at hn;omega,ht x st _ i c hi hc hm hl fun s aA i' o1 o2 k1 hi' m1 l1=>by
 have q:=draws (yU:=yU) ht xs (ss++[s]) hi' (UG o2) m1 l1 (by simp only[aq,ak,aj]at hn ⊢;omega) (fun ss' aY i'' p1 p2 p3 p4 p5 p6 p7=>by
  have e:eI (s::ss')=cnt s+eI ss':=by simp [eI]
  have z:=h (s::ss') aY i'' (fun s' iO=>by
  rcases List.mem_cons.mp iO with rfl|iO
  ·exact o1
  ·exact p1 s' iO) (by simp [p2]) (by rw[e];exact Nd (c:=0) o2 p3) (k1.trans p4) p5 p6 (by rw[e,<-Nj];exact p7)
  rw[rk]
  exact z)
 rw[dr]at q
 exact q⟩
section
variable {G:Prog}{k i inm ic im dB is ipr:Nat}{st:aB}{Q:VK}{E:XK}{ns:List Int}
theorem Aj {v:Int}{n:Int}(h0:0<=v)(h1:v<n)(hn:n<=4):fN v:=by unfold fN;omega
theorem T7 {v:Int}{n:Int}{a:Nat}(e:a=v.toNat)(h1:v<n)(hn:n<=4):a<=3:=by omega
theorem Nt {v n:Int}{a:Nat}(e:a=v.toNat)(h0:0<=v)(h1:v<n+1):(a:Int)<=n:=by omega
theorem Nk {a b c:Nat}{x y:Int}(h:(a:Int)<=x-c-b)(h':x<y+1):((a+b+c:Nat):Int)<=y:=by omega
theorem PZ {a:Nat}(h:a<=3):a<=aK:=bz h (by decide)
theorem M9 (hp:G.fns ipr=some (xM is dB))(hs:G.fns is=some (mM dB is))(hn:G.fns dB=some (pW im))(hm:G.fns im=some (kM ic))(hc:G.fns ic=some lP){fs gs:List (List Nat)}(f1:0<fs.length)(fpos:0<(fs++gs).length)(hdis:∀ n∈fs,n∉gs){m lf wl:Nat}(mlf:m≠lf)(mwl:m≠wl)(lfwl:lf≠wl){at_ pieces fW i' c:Int}(hmu:0<=fW)(hmu3:fW<=3){ws:List (Int×Sy)}{jC jM:Option D}(q2:0<=i')(q3:st m=some (.lst [.int i']))(q4:st lf=some (.lst [.int c]))(hc0:0<=c)(q6:st wl=some (.lst (ws.map fun w:Int×Sy=>.tup [.int w.1,toD w.2])))(hws:ws.length<=3)
 (hQ:∀ ps ms aA,(∀ s∈ms,over (fs++gs) s/\aO s<=3)->(ms.length:Int)<=fW->ms.length<=3->(∀ s∈ps,over (fs++gs) s/\aO s<=4/\fT gs s=false)->ps.length<=3->(eI ms:Int)<=c->(eI ps:Int)<=c-eI ms->cC [m,lf] st aA->Q (Bk.d ⟨fs,gs,ps,ms,ws⟩) aA):
 bU (aI G (k+6)) G.sub ((xC inm dB is ipr).body.drop 6) ⟨fun _ aA=>Q .non aA,Q,fun _ _=>False,fun _ _=>False,fun c _ aA=>E c aA⟩ (bσ at_ pieces fW ns fs gs m lf wl jC jM none none) st:=by
 simp only[xC,wt,kc,bσ]
 walk_at"st"
 refine fJ (k:=k+3) hn hm hc q3 q2 (by omega) fun yT k7 m7=>?_
 have V2:=eV (ns:=ns) (k:=i'+1) (many:=fW+1) (by omega)
 have V3:=fO (ns:=ns) (k:=i'+1) (many:=fW+1) (by omega)
 generalize jE ns (i'+1) (fW+1)=v2 at V2 V3
 walk_at"ex"
 have h4:fW+1<=4:=by omega
 refine⟨Aj V2 V3 h4,?_⟩
 have lf7:=k7 lf _ (by simpa using mlf.symm) q4
 have wl7:=k7 wl _ (by simpa using mwl.symm) q6
 refine draws (m:=m) (lf:=lf) (ok:=fun s=>over (fs++gs) s/\aO s<=3) (fun x aA K i c hi hc' h1 h2 hK=>?_) _ [] (by omega) hc0 m7 lf7 ?_ fun ms eU i8 z8 z7 z6 z2 z3 z4 z5=>?_
 ·exact pR (k:=k) hs hn hm hc fpos mlf 2 h1 h2 hi hc' fun s eU i8 o8 d8 c8 k8 hi8 m8 lf8=>hK s eU i8 ⟨o8,d8⟩ c8 k8 hi8 m8 lf8
 ·simp only[aj,iB,aa,i5];exact qk (by rw[p9];exact T7 rfl V3 h4) (by decide)
 simp only[iB,aa,i5]at z7
 have m3:=T7 z7 V3 h4
 refine bE (by rw[ba,aa];exact PZ m3) fun ml wK x9 hml ml9=>?_
 walk_at"ex"
 have wl9:=x9 _ _ (z2 wl _ (by simp [mwl.symm,lfwl.symm]) wl7)
 walk_at"st"
 refine fJ (k:=k+3) hn hm hc (x9 _ _ z4) z3 (by decide) fun sta ka ma=>?_
 have V4:=eV (ns:=ns) (k:=i8+1) (many:=2) (by decide)
 have V5:=fO (ns:=ns) (k:=i8+1) (many:=2) (by decide)
 generalize jE ns (i8+1) 2=v3 at V4 V5
 walk_at"ex"
 refine⟨Aj V4 V5 (by decide),?_⟩
 have mml:m≠ml:=fun z=>by rw[<-z,z4]at hml;cases hml
 have lfml:lf≠ml:=fun z=>by rw[<-z,z5]at hml;cases hml
 have lfa:=ka lf _ (by simpa using mlf.symm) (x9 _ _ z5)
 have wla:=ka wl _ (by simpa using mwl.symm) wl9
 have mla:=ka ml _ (by simpa using mml.symm) ml9
 refine draws (m:=m) (lf:=lf) (ok:=fun s=>over (fs++gs) s/\aO s<=4/\fT gs s=false) (fun x aA K i c hi hc' h1 h2 hK=>?_) _ [] (by omega) (UG z6) ma lfa ?_ fun ps stb ib y8 y7 y6 y2 y3 y4 y5=>?_
 ·exact VJ (k:=k) hp hs hn hm hc f1 hdis mlf h1 h2 hi hc' fun s eU i8 o8 b8 d8 c8 k8 hi8 m8 lf8=>hK s eU i8 ⟨o8,d8,b8⟩ c8 k8 hi8 m8 lf8
 ·simp only[aj,iB,aa,i5];exact qk (by rw[p9];exact T7 rfl V5 (by decide)) (by decide)
 simp only[iB,aa,i5]at y7
 have p3:=T7 y7 V5 (by decide)
 refine bE (by rw[ba,aa];exact PZ p3) fun pl stc xc fH plc=>?_
 walk_at"ex"
 have wlc:=xc _ _ (y2 wl _ (by simp [mwl.symm,lfwl.symm]) wla)
 have mlc:=xc _ _ (y2 ml _ (by simp [mml.symm,lfml.symm]) mla)
 simp only[ba]at plc mlc
 walk_at"st"
 rw[aE plc]
 refine⟨by rw[aa];exact PZ p3,?_⟩
 rw[aE mlc]
 refine⟨by rw[aa];exact PZ m3,?_⟩
 rw[aE wlc]
 refine⟨by rw[aa];exact PZ hws,?_⟩
 refine hQ ps ms stc z8 (Nt z7 V2 V3) m3 y8 p3 z6 y6 fun a o ha e=>?_
 have ha':=ha
 simp only[bh,bo,or_false,not_or]at ha'
 have t7:=k7 a o (by simpa using ha'.1) e
 have t9:=ka a o (by simpa using ha'.1) (x9 _ _ (z2 a o ha t7))
 exact xc _ _ (y2 a o ha t9)
theorem VA (h:G.fns i=some (xC inm dB is ipr))(kF:G.fns inm=some (AW dB))(hp:G.fns ipr=some (xM is dB))(hs:G.fns is=some (mM dB is))(hn:G.fns dB=some (pW im))(hm:G.fns im=some (kM ic))(hc:G.fns ic=some lP){at_ pieces fW:Int}(ha:0<=at_)(hpi:0<=pieces)(hmu:0<=fW)(hmu3:fW<=3)
  (hQ:∀ b aA,Jn b pieces fW->Ext st aA->Q b.d aA):aI G (k+7) i [.bD (ns.map .int),.int at_,.int pieces,.int fW] st Q E:=by
 have hL:aK=16777216:=rfl
 rw[aM h]
 simp only[xC,start]
 refine⟨rfl,?_⟩
 walk_at"st"
 refine bE (by show 1<=aK;decide) fun m aC x1 hm0 m1=>?_
 walk_at"st"
 refine S1 (k:=k+2) kF hn hm hc m1 ha fun fs gs aG i2 bJ k2 hi2 m2=>?_
 obtain⟨f1,f2,g1,g2,nd,n8⟩:=RG bJ
 walk_at"ex"
 walk_at"st"
 refine⟨by simp only[aa];omega,?_⟩
 have en:(fs.map D.str++gs.map D.str)=(fs++gs).map .str:=by simp
 rw[en]
 walk_at"st"
 refine fJ (k:=k+3) hn hm hc m2 hi2 (by omega) fun aQ k3 m3=>?_
 have L0:=eV (ns:=ns) (k:=i2+1) (many:=pieces+1) (by omega)
 have L1:=fO (ns:=ns) (k:=i2+1) (many:=pieces+1) (by omega)
 generalize jE ns (i2+1) (pieces+1)=lv at L0 L1
 refine bE (by show 1<=aK;decide) fun lf bY x4 hlf lf4=>?_
 have m4:=x4 _ _ m3
 have mlf:m≠lf:=fun z=>by rw[<-z,m3]at hlf;cases hlf
 have old3:∀ a o,st a=some o->aQ a=some o:=fun a o e=>by
  have hma:a≠m:=fun z=>by rw[z,hm0]at e;cases e
  exact k3 a o (by simpa using hma) (k2 a o (by simpa using hma) (x1 _ _ e))
 have old4:∀ a o,st a=some o->bY a=some o/\a≠m/\a≠lf:=fun a o e=>⟨x4 _ _ (old3 a o e),fun z=>(by rw[z,hm0]at e;cases e),fun z=>(by rw[<-z,old3 a o e]at hlf;cases hlf)⟩
 walk_at"ex"
 walk_at"st"
 refine bE (by simp) fun wl dY x5 hwl wl5=>?_
 have m5:=x5 _ _ m4
 have lf5:=x5 _ _ lf4
 have mwl:m≠wl:=fun z=>by rw[<-z,m4]at hwl;cases hwl
 have lfwl:lf≠wl:=fun z=>by rw[<-z,lf4]at hwl;cases hwl
 have old5:∀ a o,st a=some o->dY a=some o/\a≠m/\a≠lf/\a≠wl:=fun a o e=>by
  obtain⟨q1,q2,q3⟩:=old4 a o e
  exact⟨x5 _ _ q1,q2,q3,fun z=>by rw[<-z,q1]at hwl;cases hwl⟩
 walk_at"ex"
 walk_at"st"
 refine fJ (k:=k+3) hn hm hc m5 (by omega) (by omega) fun fQ k6 m6=>?_
 have V0:=eV (ns:=ns) (k:=i2+1+1) (many:=3) (by omega)
 have V1:=fO (ns:=ns) (k:=i2+1+1) (many:=3) (by omega)
 generalize jE ns (i2+1+1) 3=v at V0 V1
 have lf6:=k6 lf _ (by simpa using mlf.symm) lf5
 have wl6:=k6 wl _ (by simpa using mwl.symm) wl5
 walk_at"ex"
 refine⟨by unfold fN;omega,?_⟩
 rw[lB]
 have hname:∀ n∈fs++gs,fE n=true:=fun n hn'=>MQ n (n8 n hn')
 have fpos:0<(fs++gs).length:=by simp;omega
 have hdis:∀ n∈fs,n∉gs:=fun n h1 h2=>by
  rw[yj]at nd
  exact nd.2.2 n h1 n h2 rfl
 refine jT (fun j:Nat=>D.int (j:Nat)) (I:=WI (fun jC jM=>bσ at_ pieces fW ns fs gs m lf wl jC jM none none) (fs++gs) m lf wl fQ lv v) (fun rest σ aA _ a ha=>?_) (fun x rest σ aA M ⟨j,jC,jM,i',ws,e1,e2,q1,q2,q3,q4,q5,q6,q7,q7',q8⟩ hM=>?_) (fun σ aA ⟨j,jC,jM,i',ws,e1,e2,q1,q2,q3,q4,q5,q6,q7,q7',q8⟩=>?_) _ _ _ ⟨0,none,none,i2+1+1,[],rfl,rfl,.refl,by omega,m6,by simpa [eI]using lf6,by simp [eI];omega,wl6,rfl,dj _,by simp⟩
 ·cases ha
 ·subst e2
  have hj:j<(bc (1+v).toNat).length:=by
   by_cases z:j<(bc (1+v).toNat).length
   ·exact z
   ·rw[f9 (by omega)]at e1;cases e1
  rw[e9 hj]at e1
  injection e1 with e3 e4
  simp only[i5]at hj
  simp only[bσ]
  walk_at"st"
  refine bE (by decide) fun u yT x7 hu hu7=>?_
  walk_at"ex"
  refine fJ (k:=k+3) hn hm hc (x7 _ _ q3) q2 (by omega) fun eU k8 m8=>?_
  have um:u≠m:=fun z=>by rw[z,q3]at hu;cases hu
  have u8:=k8 u _ (by simpa using um) hu7
  have w0:=eV (ns:=ns) (k:=i'+1) (many:=3) (by omega)
  have w1:=fO (ns:=ns) (k:=i'+1) (many:=3) (by omega)
  generalize jE ns (i'+1) 3=w at w0 w1
  have hpr:∃ c:Int,0<c/\c<=99/\eJ [D.int 3,D.int 9,D.int 99] w=some (.int c):=by
   have hw:w=0∨w=1∨w=2:=by omega
   rcases hw with rfl|rfl|rfl
   ·exact⟨3,by decide,by decide,HD⟩
   ·exact⟨9,by decide,by decide,S0⟩
   ·exact⟨99,by decide,by decide,RJ⟩
  obtain⟨c,UG,c99,hc'⟩:=hpr
  rw[dE u8,hc',aX]
  refine fJ (k:=k+3) hn hm hc m8 (by omega) UG fun wK k9 m9=>?_
  have y0:=eV (ns:=ns) (k:=i'+1+1) (many:=c) (by omega)
  have y1:=fO (ns:=ns) (k:=i'+1+1) (many:=c) (by omega)
  generalize jE ns (i'+1+1) c=y at y0 y1
  walk_at"ex"
  have kk9:cC [m,lf,wl] aA wK:=(x7.keep.trans (k8.mono (by simp))).trans (k9.mono (by simp))
  have lf9:wK lf=some (.lst [.int (lv-eI (ws.map (·.2)))]):=k9 lf _ (by simpa using mlf.symm) (k8 lf _ (by simpa using mlf.symm) (x7 _ _ q4))
  have wl9:wK wl=some (.lst (ws.map fun w:Int×Sy=>.tup [.int w.1,toD w.2])):=k9 wl _ (by simpa using mwl.symm) (k8 wl _ (by simpa using mwl.symm) (x7 _ _ q6))
  walk_at"st"
  rw[aE wl9]
  refine⟨True.intro,?_⟩
  refine pR (k:=k) hs hn hm hc fpos mlf 2 m9 lf9 (by omega) (by omega) fun s Oa i10 o10' d10 c10 k10 hi10 m10 lf10=>?_
  have wl10:=k10 wl _ (by simp [mwl.symm,lfwl.symm]) wl9
  walk_at"ex"
  rw[aE wl10]
  refine⟨by simp only[aa];omega,?_⟩
  simp only[aL]
  have ec:eI ((ws++[(1+y,s)]).map (·.2))=eI (ws.map (·.2))+cnt s:=by rw[dr,qI];simp [eI]
  refine hM _ _ ⟨j+1,_,_,i10,ws++[(1+y,s)],e4,rfl,?_,hi10,?_,?_,?_,?_,by simp [q7],by omega,fun w' hw'=>?_⟩
  ·intro a o na e
   simp only[bh,bo,or_false,not_or]at na
   rw[cR na.2.2]
   exact k10 a o (by simp [na]) (kk9 a o (by simp [na]) (q1 a o (by simp [na]) e))
  ·rw[cR mwl];exact m10
  ·rw[cR lfwl,lf10,ec];simp;omega
  ·rw[ec];simp;omega
  ·rw[bS];simp
  ·rcases List.mem_append.mp hw' with hw'|hw'
   ·exact q8 w' hw'
   ·simp only[bf]at hw';subst hw'
    exact⟨by show 1<=1+y;omega,by show 1+y<=99;omega,o10',d10⟩
 ·-- fW
  subst e2
  have hj:(1+v).toNat<=j:=by
   by_cases z:j<(bc (1+v).toNat).length
   ·rw[e9 z]at e1;cases e1
   ·simpa using z
  have hws:ws.length<=3:=by omega
  refine M9 (k:=k) (inm:=inm) hp hs hn hm hc (by omega) fpos hdis mlf mwl lfwl hmu hmu3 q2 q3 q4 (by omega) q6 hws fun ps ms eU z8 z7 m3 y8 p3 z6 y6 z2=>?_
  have w1:1<=ws.length:=by omega
  refine hQ ⟨fs,gs,ps,ms,ws⟩ eU ⟨⟨f1,f2,g1,g2,nd,hname,p3,fun s iO=>⟨(y8 s iO).1,bz (y8 s iO).2.1 (by decide)⟩,fun s iO=>(y8 s iO).2.2,m3,fun s iO=>⟨(z8 s iO).1,bz (z8 s iO).2 (by decide)⟩,w1,bz hws (by decide),fun w hw=>⟨(q8 w hw).1,(q8 w hw).2.1,(q8 w hw).2.2.1,bz (q8 w hw).2.2.2 (by decide)⟩⟩,fun s iO=>?_,z7,?_,n8⟩ fun a o e=>?_
  ·simp only[Bk.says,j1,Pt]at iO
   rcases iO with(iO|iO)|⟨w,hw,rfl⟩
   ·exact(y8 s iO).2.1
   ·exact bz (z8 s iO).2 (by decide)
   ·exact bz (q8 w hw).2.2.2 (by decide)
  ·show((eI (ps++ms++ws.map (·.2)):Nat):Int)<=pieces
   rw[qI,qI]
   exact Nk y6 L1
  ·obtain⟨s1,s2,s3,s4⟩:=old5 a o e
   have t6:=k6 a o (by simpa using s2) s1
   exact z2 a o (by simp [s2,s3]) (q1 a o (by simp [s2,s3,s4]) t6)
end
theorem P6 {n:Nat}:∀(l:List Sy),(∀ s∈l,aO s<=4)->lE l<=l.length*15
 |[],_=>by simp [lE]
 |s::l,h=>by
  have h1:=EW s
  have h2:=h s (by simp)
  have h3:=P6 (n:=n) l fun x hx=>h x (by simp [hx])
  have h4:2 ^ aO s<=2 ^ 4:=e8 (by decide) h2
  rw[zP]
  simp only[ak]
  omega
theorem DE {names:List (List Nat)}{f:List Sy}{s:Sy}(hf:∀ x∈f,over names x)(hs:over names s):∀ x∈iK f s,over names x:=by
 unfold iK;split
 ·intro x hx
  rcases List.mem_append.mp hx with hx|hx
  ·exact hf x hx
  ·simp only[bf]at hx;subst hx;exact hs
 ·exact hf
theorem sL {names:List (List Nat)}:∀(s:Sy){f:List Sy},(∀ x∈f,over names x)->over names s->∀ x∈mG s f,over names x
 |.yes,_,hf,_=>hf
 |.no,_,hf,_=>hf
 |.dU _,_,hf,_=>hf
 |.one w s,_,hf,hs=>sL s (DE hf hs) hs
 |.two w s t,_,hf,hs=>sL t (sL s (DE hf hs) hs.1) hs.2
theorem DB {names:List (List Nat)}:∀(l:List Sy){f:List Sy},(∀ x∈f,over names x)->(∀ s∈l,over names s)->∀ x∈iI l f,over names x
 |[],_,hf,_=>hf
 |s::l,_,hf,hl=>DB l (sL s hf (hl s (by simp))) fun x hx=>hl x (by simp [hx])
section
variable {G:Prog}{k il ibo ipl imb ilm inm ic im dB is ipr ibk ich icp ist ie iw ipo iz irr iti io iri ima Nx iph inh ibp ip ih:Nat}{st:aB}{E:XK}{ns:List Int}
theorem O3 {b:Bk}{pieces fW:Int}(DR:Jn b pieces fW)(hp:pieces<=4):lE b.says<=200/\(∀ x∈b.says,aO x<=60)/\(iI b.says []).length<=4/\∀ s∈iI b.says [],over b.names s/\aO s<=8:=by
 have p1:=DR.ok.p1
 have m1:=DR.ok.m1
 have w2:=DR.ok.w2
 have hl:b.says.length<=11:=by simp [Bk.says];omega
 refine⟨?_,fun x hx=>by have:=DR.d4 x hx;omega,?_,fun s hs=>⟨DB b.says (by simp) (fun s hs=>(U5 DR.ok s hs).1) s hs,GH b.says (n:=8) (by simp) (fun x hx=>by have:=DR.d4 x hx;omega) s hs⟩⟩
 ·have:=P6 (n:=0) b.says DR.d4;omega
 ·have:=FO b.says []
  have h2:=DR.cn
  simp at this;omega
end
noncomputable def oH:Fn:=⟨1,5,[.asg (.nm 1) (.lst [(.tup [])]),.kJ (.nm 2) (some .range) [(.bi .len [(.v 0)])] [.asg (.nm 3) (.lst []),.kJ (.nm 4) none [(.v 1)] [.ex (.bX .append (.v 3) [(.bin .add (.v 4) (.tup [(.c (.bl false))]))]),.ex (.bX .append (.v 3) [(.bin .add (.v 4) (.tup [(.c (.bl true))]))])],.asg (.nm 1) (.v 3)],.ret (.v 1)]⟩
noncomputable def gB:Nat->List (List Bool)
 |0=>[[]]
 |n+1=>(gB n).flatMap fun r=>[r++[false],r++[true]]
theorem tH:∀(n:Nat)(r:List Bool),r∈gB n->r.length=n
 |0,r,h=>by simp [gB]at h;subst h;rfl
 |n+1,r,h=>by
  simp only[gB,List.mem_flatMap,bh,bo,or_false]at h
  obtain⟨q,hq,h|h⟩:=h<;>(subst h;simp [tH n q hq])
theorem kU:∀ n:Nat,(gB n).length=2 ^ n
 |0=>rfl
 |n+1=>by
  have h:=kU n
  simp only[gB]
  have:∀ l:List (List Bool),(l.flatMap fun r=>[r++[false],r++[true]]).length=2*l.length:=fun l=>by
   induction l with
   |nil=>rfl
   |cons a l ih=>simp only[yk,aq,ih,ak,aj];omega
  rw[this,h,u1];omega
inductive Di (N:Nat)(hd:Option D)(st:aB)(rest:List Nat)(σ:St)(aA:aB):Prop
 |mk (t q:Nat)(o2 o3 o4:Option D)(e0:t<=N)(e1:rest=(bc N).drop t)(e2:σ=[hd,some (.ref q),o2,o3,o4])(hq:st q=none)(x3:Ext st aA)(e5:aA q=some (.lst ((gB t).map dM)))
inductive ZL (t:Nat)(hd:Option D)(q x u:Nat)(bY:aB)(qD:List (List Bool))(σ:St)(dY:aB):Prop
 |mk (dn:List (List Bool))(o4:Option D)(f1:gB t=dn++qD)(f2:σ=[hd,some (.ref q),some (.int (x:Nat)),some (.ref u),o4])(f3:cC [u] bY dY)(f4:dY u=some (.lst ((dn.flatMap fun r=>[r++[false],r++[true]]).map dM)))
theorem T2 (l:List (List Bool)):(l.flatMap fun r=>[r++[false],r++[true]]).length=2*l.length:=by
 induction l with
 |nil=>rfl
 |cons a l ih=>simp only[yk,aq,ih,ak,aj];omega
theorem JZ {t:Nat}(h:t<=4):(gB t).length<=16:=by
 rw[kU];exact e8 (n:=2) (by decide) h
theorem drop_cons {N t x:Nat}{rest:List Nat}(h:x::rest=(bc N).drop t):t<N/\rest=(bc N).drop (t+1):=by
 have ht:t<(bc N).length:=by
  by_cases z:t<(bc N).length
  ·exact z
  ·rw[f9 (by omega)]at h;cases h
 rw[e9 ht]at h
 injection h with _ h
 exact⟨by simpa using ht,h⟩
theorem drop_nil {N t:Nat}(h:[]=(bc N).drop t):N<=t:=by
 by_cases z:t<(bc N).length
 ·rw[e9 z]at h;cases h
 ·simpa using z
theorem KL {l dn r:List (List Bool)}{n:Nat}(e:l=dn++r)(h:l.length<=n):dn.length<=n:=by
 rw[e,aq]at h;omega
section
variable {G:Prog}{k i:Nat}{st:aB}{Q:VK}{E:XK}
theorem KY (h:G.fns i=some oH){ds:List D}(hd:ds.length<=4)(hQ:∀ p aA,st p=none->Ext st aA->aA p=some (.lst ((gB ds.length).map dM))->Q (.ref p) aA):aI G (k+1) i [.tup ds] st Q E:=by
 have hL:aK=16777216:=rfl
 rw[aM h]
 simp only[oH,start]
 refine⟨rfl,?_⟩
 walk_at"st"
 refine bE (by show 1<=aK;decide) fun p aC x1 hp hp1=>?_
 walk_at"st"
 refine⟨by unfold fN;omega,?_⟩
 rw[show((ds.length:Int)).toNat=ds.length by omega,lB]
 have p1:aC p=some (.lst ((gB 0).map dM)):=hp1
 refine jT (fun j:Nat=>D.int (j:Nat)) (I:=Di ds.length (some (.tup ds)) st) (fun rest σ aA _ a ha=>?_) (fun x rest σ aA M I hM=>?_) (fun σ aA I=>?_) _ _ _ ⟨0,p,none,none,none,dj _,rfl,rfl,hp,x1,p1⟩
 ·cases ha
 ·obtain⟨t,q,o2,o3,o4,e0,e1,e2,hq,x3,e5⟩:=I
  subst e2
  obtain⟨ht,e4⟩:=drop_cons e1
  have kE:(gB t).length<=16:=JZ (by omega)
  clear e1
  walk_at"st"
  refine bE (by simp) fun u bY x4 hu hu4=>?_
  have qu:q≠u:=fun z=>by rw[<-z,e5]at hu;cases hu
  walk_at"st"
  rw[aE (x4 _ _ e5)]
  refine jT dM (I:=ZL t (some (.tup ds)) q x u bY) (fun qD σ dY J=>?_) (fun y qD σ dY M2 J hM2=>?_) (fun σ dY J=>?_) _ _ _ ⟨[],o4,rfl,rfl,.refl,hu4⟩
  ·obtain⟨dn,o4,f1,f2,f3,f4⟩:=J
   intro a ha
   simp only[bf]at ha
   subst ha
   rw[x4 _ _ e5,f3 _ _ (by simpa using qu) (x4 _ _ e5)]
  ·obtain⟨dn,o4,f1,f2,f3,f4⟩:=J
   subst f2
   have hl:(dn.flatMap fun r=>[r++[false],r++[true]]).length<=40:=by have:=KL f1 kE;rw[T2];omega
   have hyl:y.length=t:=tH t y (by rw[f1];simp)
   simp only[dM]
   walk_at"st"
   rw[aE f4]
   refine⟨True.intro,by simp only[aa];omega,?_⟩
   rw[aE f4]
   refine⟨by simp only[aa];omega,?_⟩
   walk_at"st"
   rw[aE bS]
   refine⟨True.intro,by simp only[aa];omega,?_⟩
   rw[aE bS]
   refine⟨by simp only[aa,aq,ak,aj];omega,?_⟩
   simp only[aL]
   rw[VC]
   refine hM2 _ _ ⟨dn++[y],_,by simp [f1],rfl,fun a o na e=>by rw[cR (by simpa using na)];exact f3 a o na e,?_⟩
   rw[bS]
   simp [dM,w6]
  ·obtain⟨dn,o4,f1,f2,f3,f4⟩:=J
   subst f2
   rw[d7]at f1
   walk_at"st"
   simp only[aL]
   refine hM _ dY ⟨t+1,u,_,_,_,by omega,e4,rfl,?_,fun a o e=>f3 a o (fun z=>?_) (x4 _ _ (x3 _ _ e)),?_⟩
   ·cases hz:st u with
    |none=>rfl
    |some o=>rw[x3 _ _ hz]at hu;cases hu
   ·simp only[bf]at z
    rw[z]at e
    rw[x3 _ _ e]at hu;cases hu
   ·rw[f4,<-f1];rfl
 ·obtain⟨t,q,o2,o3,o4,e0,e1,e2,hq,x3,e5⟩:=I
  subst e2
  have ht:=drop_nil e1
  have et:t=ds.length:=by omega
  subst et
  walk_at"st"
  exact hQ q aA hq x3 e5
end
noncomputable def uL:Fn:=⟨1,5,[.asg (.nm 1) (.lst [(.tup [])]),.kJ (.nm 2) (some .range) [(.v 0)] [.asg (.nm 3) (.lst []),.kJ (.nm 4) none [(.v 1)] [.ex (.bX .extend (.v 3) [(.lst [(.bin .add (.v 4) (.tup [(.c (.bl false))])),(.bin .add (.v 4) (.tup [(.c (.bl true))]))])])],.asg (.nm 1) (.v 3)],.ret (.v 1)]⟩
noncomputable def gW:Fn:=⟨2,2,[.ret (.and_ (.isi (.v 0) [.int]) (.and_ (.not_ (.isi (.v 0) [.bool])) (.chain .le .lt (.c (.int 0)) (.v 0) (.v 1))))]⟩
noncomputable def pD (ir ist ipl:Nat):Fn:=⟨3,3,[.ret (.and_ (.call ir [(.v 2),(.c (.int 2)),(.c (.int 2))]) (.and_ (.call ist [(.ix (.v 2) (.c (.int 0))),(.bi .len [(.ix (.v 0) (.c (.int 1)))])]) (.call ipl [(.ix (.v 2) (.c (.int 1))),(.v 1)])))]⟩
noncomputable def lG (ise ir iwy:Nat):Fn:=⟨3,4,[.asg (.nm 3) (.bi .len [(.call ise [(.ix (.v 0) (.c (.int 0)))])]),.ret (.and_ (.call ir [(.v 2),(.v 3),(.v 3)]) (.bi .all [(.comp 1 [0,1] [0] true none [(.v 2)] [] (.call iwy [(.v 1),(.v 2),(.v 0)]))]))]⟩
noncomputable def tM (ir isd:Nat)(gs:D):Fn:=⟨2,2,[.ret (.and_ (.call ir [(.v 1),(.c (.int 1)),(.c gs)]) (.bi .all [(.comp 1 [0,1] [0] true none [(.v 1)] [] (.call isd [(.v 1),(.bi .len [(.v 2)]),(.v 0)]))]))]⟩
noncomputable def rC (ich ima:Nat):Fn:=⟨2,2,[.ex (.call ich [(.v 0)]),.iff (.not_ (.call ima [(.v 0),(.v 1)])) [.rais 3 [(.c (.str (W "no machine for this book")))]] [],.ret (.v 1)]⟩
noncomputable abbrev gM:=List (List (List Bool×Nat))
noncomputable def eO (w:List Bool×Nat):D:=.tup [dM w.1,.int (w.2:Nat)]
noncomputable def gP (s:List (List Bool×Nat)):D:=.tup (s.map eO)
noncomputable def dO (m:gM):D:=.tup (m.map gP)
structure OY (n g:Nat)(m:gM):Prop where
 l1:1<=m.length
 l2:m.length<=64
 sl:∀ s∈m,s.length=2 ^ n
 wf:∀ s∈m,∀ w∈s,w.1.length=g
 wn:∀ s∈m,∀ w∈s,w.2<m.length
section
variable {G:Prog}{k i ir ist ipl ise iwy isd ich ibk kb ima:Nat}{st:aB}{Q:VK}{E:XK}{b:Bk}
theorem HP (h:G.fns i=some uL){n:Nat}(hd:n<=4)(hQ:∀ p aA,st p=none->Ext st aA->aA p=some (.lst ((gB n).map dM))->Q (.ref p) aA):aI G (k+1) i [.int (n:Nat)] st Q E:=by
 have hL:aK=16777216:=rfl
 rw[aM h]
 simp only[uL,start]
 refine⟨rfl,?_⟩
 walk_at"st"
 refine bE (by show 1<=aK;decide) fun p aC x1 hp hp1=>?_
 walk_at"st"
 refine⟨by unfold fN;omega,?_⟩
 rw[show((n:Int)).toNat=n by omega,lB]
 have p1:aC p=some (.lst ((gB 0).map dM)):=hp1
 refine jT (fun j:Nat=>D.int (j:Nat)) (I:=Di n (some (.int (n:Nat))) st) (fun rest σ aA _ a ha=>?_) (fun x rest σ aA M I hM=>?_) (fun σ aA I=>?_) _ _ _ ⟨0,p,none,none,none,dj _,rfl,rfl,hp,x1,p1⟩
 ·cases ha
 ·obtain⟨t,q,o2,o3,o4,e0,e1,e2,hq,x3,e5⟩:=I
  subst e2
  obtain⟨ht,e4⟩:=drop_cons e1
  have kE:(gB t).length<=16:=JZ (by omega)
  clear e1
  walk_at"st"
  refine bE (by simp) fun u bY x4 hu hu4=>?_
  have qu:q≠u:=fun z=>by rw[<-z,e5]at hu;cases hu
  walk_at"st"
  rw[aE (x4 _ _ e5)]
  refine jT dM (I:=ZL t (some (.int (n:Nat))) q x u bY) (fun qD σ dY J=>?_) (fun y qD σ dY M2 J hM2=>?_) (fun σ dY J=>?_) _ _ _ ⟨[],o4,rfl,rfl,.refl,hu4⟩
  ·obtain⟨dn,o4,f1,f2,f3,f4⟩:=J
   intro a ha
   simp only[bf]at ha
   subst ha
   rw[x4 _ _ e5,f3 _ _ (by simpa using qu) (x4 _ _ e5)]
  ·obtain⟨dn,o4,f1,f2,f3,f4⟩:=J
   subst f2
   have hl:(dn.flatMap fun r=>[r++[false],r++[true]]).length<=40:=by have:=KL f1 kE;rw[T2];omega
   have hyl:y.length=t:=tH t y (by rw[f1];simp)
   simp only[dM]
   walk_at"st"
   rw[aE f4]
   refine⟨True.intro,by simp only[aa];omega,by simp only[aa];omega,?_⟩
   refine bE (by show 2<=aK;decide) fun w fQ x6 hw hw6=>?_
   have wu:w≠u:=fun z=>by rw[z,f4]at hw;cases hw
   rw[aE (x6 _ _ f4),J8,aE hw6]
   refine⟨by simp only[aa,ak,aj];omega,?_⟩
   simp only[aL]
   refine hM2 _ _ ⟨dn++[y],_,by simp [f1],rfl,fun a o na e=>by rw[cR (by simpa using na)];exact x6 _ _ (f3 a o na e),?_⟩
   rw[bS]
   simp [dM,w6]
  ·obtain⟨dn,o4,f1,f2,f3,f4⟩:=J
   subst f2
   rw[d7]at f1
   walk_at"st"
   simp only[aL]
   refine hM _ dY ⟨t+1,u,_,_,_,by omega,e4,rfl,?_,fun a o e=>f3 a o (fun z=>?_) (x4 _ _ (x3 _ _ e)),?_⟩
   ·cases hz:st u with
    |none=>rfl
    |some o=>rw[x3 _ _ hz]at hu;cases hu
   ·simp only[bf]at z
    rw[z]at e
    rw[x3 _ _ e]at hu;cases hu
   ·rw[f4,<-f1];rfl
 ·obtain⟨t,q,o2,o3,o4,e0,e1,e2,hq,x3,e5⟩:=I
  subst e2
  have ht:=drop_nil e1
  have et:t=n:=by omega
  subst et
  walk_at"st"
  exact hQ q aA hq x3 e5
theorem JM (h:G.fns i=some gW){a N:Nat}(ha:a<N)(hQ:Q (.bl true) st):aI G (k+1) i [.int (a:Nat),.int (N:Nat)] st Q E:=by
 rw[aM h]
 simp only[gW,start]
 refine⟨rfl,?_⟩
 walk_at"st"
 have h2:((a:Nat):Int)<((N:Nat):Int):=by omega
 rw[if_pos (by omega:(0:Int)<=((a:Nat):Int)),decide_eq_true h2]
 exact hQ
theorem OQ (h:G.fns iwy=some (pD ir ist ipl))(hr:G.fns ir=some fF)(hs:G.fns ist=some fM)(hp:G.fns ipl=some gW)(hg:b.gs.length<=100){N:Nat}{w:List Bool×Nat}(h1:w.1.length=b.gs.length)(h2:w.2<N)
 (hQ:∀ aA,Ext st aA->Q (.bl true) aA):aI G (k+2) iwy [b.d,.int (N:Nat),eO w] st Q E:=by
 rw[aM h]
 simp only[pD,start,eO,Bk.d]
 refine⟨rfl,?_⟩
 walk_at"st"
 refine kN hr (by simp only[ak,aj];omega) (by simp only[ak,aj];omega) ?_
 walk_at"ex"
 rw[aa]
 refine MZ hs h1 hg fun aC x1=>?_
 walk_at"ex"
 exact JM hp h2 (hQ _ x1)
theorem JF (h:G.fns isd=some (lG ise ir iwy))(hse:G.fns ise=some oH)(hw:G.fns iwy=some (pD ir ist ipl))(hr:G.fns ir=some fF)(hs:G.fns ist=some fM)(hp:G.fns ipl=some gW)(B:b.Ok){N:Nat}{s:List (List Bool×Nat)}(h0:s.length=2 ^ b.fs.length)(h1:∀ w∈s,w.1.length=b.gs.length)(h2:∀ w∈s,w.2<N)
 (hQ:∀ aA,Ext st aA->Q (.bl true) aA):aI G (k+3) isd [b.d,.int (N:Nat),gP s] st Q E:=by
 have hL:aK=16777216:=rfl
 have f2:=B.f2
 have g2:=B.g2
 have h16:s.length<=16:=by rw[h0];exact e8 (n:=2) (by decide) (by omega:b.fs.length<=4)
 rw[aM h]
 simp only[lG,start,gP]
 refine⟨rfl,?_⟩
 rw[show b.d=.tup [.tup (b.fs.map .str),.tup (b.gs.map .str),.tup (b.ps.map toD),.tup (b.ms.map toD),.tup (b.ws.map fun w=>.tup [.int w.1,toD w.2])]from rfl]
 walk_at"st"
 refine KY (k:=k+1) hse (by rw[aa];omega) fun p aC hp0 x1 hp1=>?_
 walk_at"ex"
 rw[cN hp1]
 walk_at"st"
 have el:(((gB (b.fs.map D.str).length).map dM).length:Int)=(s.length:Int):=by rw[aa,kU,aa,h0]
 rw[el]
 refine kN hr (by rw[aa];omega) (by rw[aa];omega) ?_
 walk_at"ex"
 refine dD eO (fun _=>.bl true) s [] aC (fun aY y a ha=>by cases ha) (fun w hws aY K y1 hK=>?_) (by simp only[aj];omega) fun aG y2=>?_
 ·exact OQ hw hr hs hp (by omega) (h1 w hws) (h2 w hws) hK
 rw[ba]
 refine bE (by simp only[aa];omega) fun pp aQ y3 hpp tO=>?_
 walk_at"ex"
 rw[aE tO,gR,aX]
 have e2:(s.map fun _=>true).all id=true:=by simp
 rw[e2]
 exact hQ aQ (x1.trans (y2.trans y3))
theorem MC (h:G.fns ima=some (tM ir isd (.int 64)))(hd:G.fns isd=some (lG ise ir iwy))(hse:G.fns ise=some oH)(hw:G.fns iwy=some (pD ir ist ipl))(hr:G.fns ir=some fF)(hs:G.fns ist=some fM)(hp:G.fns ipl=some gW)(B:b.Ok){m:gM}(O:OY b.fs.length b.gs.length m)
  (hQ:∀ aA,Ext st aA->Q (.bl true) aA):aI G (k+4) ima [b.d,dO m] st Q E:=by
 have hL:aK=16777216:=rfl
 have l1:=O.l1
 have l2:=O.l2
 rw[aM h]
 simp only[tM,start,dO]
 refine⟨rfl,?_⟩
 walk_at"st"
 refine kN hr (by rw[aa];omega) (by rw[aa];omega) ?_
 walk_at"ex"
 refine dD gP (fun _=>.bl true) m [] st (fun aY y a ha=>by cases ha) (fun s iO aY K y1 hK=>?_) (by simp only[aj];omega) fun aG y2=>?_
 ·rw[aa]
  exact JF hd hse hw hr hs hp B (O.sl s iO) (O.wf s iO) (O.wn s iO) hK
 rw[ba]
 refine bE (by simp only[aa];omega) fun pp aQ y3 hpp tO=>?_
 walk_at"ex"
 rw[aE tO,gR,aX]
 have e2:(m.map fun _=>true).all id=true:=by simp
 rw[e2]
 exact hQ aQ (y2.trans y3)
theorem LK (h:G.fns i=some (rC ich ima))(hc:G.fns ich=some (pJ ibk))(hb:xF G ibk 13 b)(hm:G.fns ima=some (tM ir isd (.int 64)))(hd:G.fns isd=some (lG ise ir iwy))(hse:G.fns ise=some oH)(hw:G.fns iwy=some (pD ir ist ipl))(hr:G.fns ir=some fF)(hs:G.fns ist=some fM)(hp:G.fns ipl=some gW)(B:b.Ok){m:gM}(O:OY b.fs.length b.gs.length m)
 (hQ:∀ aA,Ext st aA->Q (dO m) aA):aI G (k+15) i [b.d,dO m] st Q E:=by
 rw[aM h]
 simp only[rC,start]
 refine⟨rfl,?_⟩
 walk_at"st"
 refine tF (k:=k) hc hb fun aC x1=>?_
 walk_at"ex"
 walk_at"st"
 refine MC (k:=k+10) hm hd hse hw hr hs hp B O fun aG x2=>?_
 walk_at"ex"
 simp only[aL]
 walk_at"st"
 exact hQ aG (x1.trans x2)
end
theorem YY {α:Type}{t:α->D}{xs:List α}{j:Nat}{x:α}(h:xs[j]? = some x):eJ (xs.map t) (j:Int)=some (t x):=by
 have hl:j<xs.length:=by
  by_cases z:j<xs.length
  ·exact z
  ·rw[kx (by omega)]at h;cases h
 rw[iV (by simpa using hl),di,h];rfl
noncomputable def sH (im is8:Nat):Fn:=⟨5,12,[.asg (.nm 5) (.bin .add (.c (.int 1)) (.call im [(.v 0),(.v 1),(.v 4)])),.asg (.nm 6) (.call is8 [(.v 3)]),.asg (.nm 7) (.lst []),.kJ (.nm 8) (some .range) [(.v 5)] [.asg (.nm 9) (.lst []),.kJ (.nm 10) (some .range) [(.bi .len [(.call is8 [(.v 2)])])] [.asg (.nm 11) (.call im [(.v 0),(.bin .add (.bin .add (.bin .add (.v 1) (.c (.int 1))) (.bin .mul (.c (.int 4)) (.v 8))) (.v 10)),(.bin .mul (.c (.int 4)) (.v 5))]),.ex (.bX .append (.v 9) [(.tup [(.ix (.v 6) (.bin .mod (.bin .mod (.v 11) (.c (.int 4))) (.bi .len [(.v 6)]))),(.bin .fdiv (.v 11) (.c (.int 4)))])])],.ex (.bX .append (.v 7) [(.bi .tuple [(.v 9)])])],.ret (.bi .tuple [(.v 7)])]⟩
theorem VN {g:Nat}{c:Int}(h0:0<=c)(h1:c<(((gB g).map dM).length:Nat)):∃ f,eJ ((gB g).map dM) c=some (dM f)/\f.length=g:=by
 have hj:c.toNat<(gB g).length:=by simp only[aa]at h1;omega
 refine⟨(gB g)[c.toNat],?_,tH g _ (ub hj)⟩
 have:=YY (t:=dM) (bw hj)
 rwa [show((c.toNat:Nat):Int)=c by omega]at this
inductive Lg (n g N:Nat)(F:Option D->Option D->Option D->Option D->St)(p:Nat)(aQ:aB)(rest:List Nat)(σ:St)(aA:aB):Prop
 |mk (ms:gM)(o8 o9 jC jM:Option D)(e0:rest.length+ms.length=N)(e1:σ=F o8 o9 jC jM)(e2:cC [p] aQ aA)(e3:aA p=some (.lst (ms.map gP)))(e4:∀ s∈ms,s.length=n/\∀ w∈s,w.1.length=g/\w.2<N)
inductive Lf (n g N:Nat)(F:Option D->Option D->St)(u:Nat)(dY:aB)(rest:List Nat)(σ:St)(fQ:aB):Prop
 |mk (ws:List (List Bool×Nat))(jC jM:Option D)(f0:rest.length+ws.length=n)(f1:σ=F jC jM)(f2:cC [u] dY fQ)(f3:fQ u=some (.lst (ws.map eO)))(f4:∀ w∈ws,w.1.length=g/\w.2<N)
theorem My {v most:Int}(h0:0<=v)(h1:v<most)(h2:most<=60):∃ N:Nat,1+v=(N:Int)/\1<=N/\N<=60/\(N:Int)<=most:=⟨(1+v).toNat,by omega,by omega,by omega,by omega⟩
theorem Jm {N:Nat}(h:N<=60):fN (N:Int):=by unfold fN;omega
theorem Nv {a:Int}{x y:Nat}(h:0<=a):0<=a+1+4*(x:Int)+(y:Int):=by omega
theorem Y1 {N:Nat}(h:1<=N):(0:Int)<4*(N:Int):=by omega
theorem Mq {c:Int}{N:Nat}(h0:0<=c)(h1:c<4*(N:Int)):∃ k:Nat,c / 4=(k:Int)/\k<N:=⟨(c / 4).toNat,by omega,by omega⟩
theorem Ji:qQ 4:=by unfold qQ;omega
theorem Jt {a b N:Nat}(h:a+1+b=N)(h2:N<=60):b<aK:=by have hL:aK=16777216:=rfl;omega
theorem Jz {a b N:Nat}(h:a+1+b=N):a+(b+1)=N:=by omega
theorem Js {b N:Nat}(h:b=N)(h2:N<=60):b<=aK:=by have hL:aK=16777216:=rfl;omega
theorem Bp {α:Type}(l:List α)(x:α):(l++[x]).length=l.length+1:=by simp
section
variable {G:Prog}{k i im ic is8:Nat}{st:aB}{Q:VK}{E:XK}{ns:List Int}
theorem JR (h:G.fns i=some (sH im is8))(hm:G.fns im=some (kM ic))(hc:G.fns ic=some lP)(h8:G.fns is8=some uL){at_ most:Int}{n g:Nat}(ha:0<=at_)(hmo:0<most)(hmo2:most<=60)(hn:n<=2)(hg:g<=2)
  (hQ:∀ m aA,Ext st aA->OY n g m->(m.length:Int)<=most->Q (dO m) aA):aI G (k+3) i [.bD (ns.map .int),.int at_,.int (n:Nat),.int (g:Nat),.int most] st Q E:=by
 have hn16:2 ^ n<=16:=e8 (n:=2) (by decide) (by omega:n<=4)
 have hg16:0<2 ^ g:=Ql (by decide)
 have szn:=kU n
 generalize hN:2 ^ n=N at hn16 szn
 rw[aM h]
 simp only[sH,start]
 refine⟨rfl,?_⟩
 walk_at"st"
 refine sR hm hc ha hmo fun aC x1=>?_
 have v0:=eV (ns:=ns) (k:=at_) (many:=most) (by omega)
 have v1:=fO (ns:=ns) (k:=at_) (many:=most) (by omega)
 generalize jE ns at_ most=v at v0 v1
 obtain⟨N1,hN1,n1,n60,nmo⟩:=My v0 v1 hmo2
 walk_at"ex"
 rw[hN1]
 clear hN1 v0 v1 hmo hmo2 v
 walk_at"st"
 refine HP (k:=k+1) h8 (by omega) fun q aG hq x2 hq2=>?_
 walk_at"st"
 refine bE (by simp) fun p aQ x3 hp hp3=>?_
 walk_at"st"
 refine⟨Jm n60,?_⟩
 rw[show((N1:Nat):Int).toNat=N1 from rfl,lB]
 have q3:=x3 _ _ hq2
 have qp:q≠p:=fun z=>by rw[<-z]at hp;rw[hq2]at hp;cases hp
 refine jT (fun j:Nat=>D.int (j:Nat)) (I:=Lg N g N1 (fun o8 o9 jC jM=>[some (.bD (ns.map .int)),some (.int at_),some (.int (n:Nat)),some (.int (g:Nat)),some (.int most),some (.int (N1:Nat)),some (.ref q),some (.ref p),o8,o9,jC,jM]) p aQ) (fun rest σ aA _ a ha=>?_) (fun x rest σ aA M I hM=>?_) (fun σ aA I=>?_) _ _ _ ⟨[],none,none,none,none,by simp,rfl,.refl,hp3,by simp⟩
 ·cases ha
 ·obtain⟨ms,o8,o9,jC,jM,e0,e1,e2,e3,e4⟩:=I
  subst e1
  simp only[ak]at e0
  walk_at"st"
  refine bE (by simp) fun u bY x4 hu hu4=>?_
  have pu:p≠u:=fun z=>by rw[<-z]at hu;rw[e3]at hu;cases hu
  have qu:q≠u:=fun z=>by rw[<-z]at hu;rw[e2 _ _ (by simpa using qp) q3]at hu;cases hu
  walk_at"st"
  refine HP (k:=k+1) h8 (by omega) fun q' dY hq' x5 hq5=>?_
  walk_at"ex"
  rw[cN hq5]
  rw[aa,szn]
  refine⟨Jm (bz hn16 (by decide)),?_⟩
  rw[show((N:Nat):Int).toNat=N from rfl,lB]
  have u5:=x5 _ _ hu4
  refine jT (fun j:Nat=>D.int (j:Nat)) (I:=Lf N g N1 (fun jC jM=>[some (.bD (ns.map .int)),some (.int at_),some (.int (n:Nat)),some (.int (g:Nat)),some (.int most),some (.int (N1:Nat)),some (.ref q),some (.ref p),some (.int (x:Nat)),some (.ref u),jC,jM]) u dY) (fun qD σ fQ _ a ha=>?_) (fun y qD σ fQ M2 J hM2=>?_) (fun σ fQ J=>?_) _ _ _ ⟨[],_,_,by simp,rfl,.refl,u5,by simp⟩
  ·cases ha
  ·obtain⟨ws,jC,jM,f0,f1,f2,f3,f4⟩:=J
   subst f1
   simp only[ak]at f0
   walk_at"st"
   refine⟨.inl Ji,.inl Ji,?_⟩
   refine sR hm hc (Nv ha) (Y1 n1) fun yT x7=>?_
   have c0:=eV (ns:=ns) (k:=at_+1+4*(x:Int)+(y:Int)) (many:=4*(N1:Int)) (Y1 n1)
   have c1:=fO (ns:=ns) (k:=at_+1+4*(x:Int)+(y:Int)) (many:=4*(N1:Int)) (Y1 n1)
   generalize jE ns (at_+1+4*(x:Int)+(y:Int)) (4*(N1:Int))=c at c0 c1
   have u7:=x7 _ _ f3
   have q7:=x7 _ _ (f2 _ _ (by simpa using qu) (x5 _ _ (x4 _ _ (e2 _ _ (by simpa using qp) q3))))
   walk_at"st"
   rw[aE u7]
   refine⟨True.intro,by decide,?_⟩
   rw[cN q7]
   have hlen:(0:Int)<((((gB g).map dM).length:Nat):Int):=by rw[aa,kU];exact Int.natCast_pos.mpr hg16
   refine⟨hlen,?_⟩
   obtain⟨fr,hfr,hfl⟩:=VN (g:=g) (gu (c % 4) (Int.ne_of_gt hlen)) (fy (c % 4) hlen)
   rw[dE q7,hfr,aX]
   walk_at"ex"
   refine⟨by decide,?_⟩
   rw[aE u7]
   refine⟨by rw[aa];exact Jt f0 (bz hn16 (by decide)),?_⟩
   obtain⟨kk,hk1,hk2⟩:=Mq c0 c1
   rw[hk1]
   simp only[aL]
   refine hM2 _ _ ⟨ws++[(fr,kk)],_,_,by rw[Bp];exact Jz f0,rfl,fun a o na e=>by rw[cR (by simpa using na)];exact x7 _ _ (f2 a o na e),?_,fun w hw=>?_⟩
   ·rw[bS,dr]
    rfl
   ·rcases List.mem_append.mp hw with hw|hw
    ·exact f4 w hw
    ·simp only[bf]at hw
     subst hw
     exact⟨hfl,hk2⟩
  ·obtain⟨ws,jC,jM,f0,f1,f2,f3,f4⟩:=J
   subst f1
   simp only[aj,p9]at f0
   have p6:=f2 _ _ (by simpa using pu) (x5 _ _ (x4 _ _ e3))
   walk_at"st"
   rw[aE p6]
   refine⟨True.intro,?_⟩
   rw[aE f3]
   refine⟨by rw[aa];exact Js f0 (bz hn16 (by decide)),?_⟩
   rw[aE p6]
   refine⟨by rw[aa];exact Jt e0 n60,?_⟩
   simp only[aL]
   refine hM _ _ ⟨ms++[ws],_,_,_,_,by rw[Bp];exact Jz e0,rfl,fun a o na e=>?_,?_,fun s hs=>?_⟩
   ·rw[cR (by simpa using na)]
    refine f2 a o (fun z=>?_) (x5 _ _ (x4 _ _ (e2 a o na e)))
    simp only[bf]at z
    rw[z]at e na
    rw[e2 u o na e]at hu;cases hu
   ·rw[bS,dr];rfl
   ·rcases List.mem_append.mp hs with hs|hs
    ·exact e4 s hs
    ·simp only[bf]at hs
     subst hs
     exact⟨f0,f4⟩
 ·obtain⟨ms,o8,o9,jC,jM,e0,e1,e2,e3,e4⟩:=I
  subst e1
  simp only[aj,p9]at e0
  walk_at"st"
  rw[aE e3]
  refine⟨by rw[aa];exact Js e0 n60,?_⟩
  refine hQ ms aA (fun a o e=>e2 a o (fun z=>?_) (x3 _ _ (x2 _ _ (x1 _ _ e)))) ⟨e0▸n1,e0▸Nat.le_trans n60 (by decide),fun s hs=>(e4 s hs).1.trans hN.symm,fun s hs w hw=>((e4 s hs).2 w hw).1,fun s hs w hw=>e0▸((e4 s hs).2 w hw).2⟩ (e0▸nmo)
  simp only[bf]at z
  rw[z]at e
  rw[x2 _ _ (x1 _ _ e)]at hp;cases hp
end
noncomputable def rQ:Fn:=⟨1,1,[.ret (.bX .join (.c (.str (W ""))) [(.comp 1 [] [0] true none [(.v 0)] [] (.bin .add (.v 0) (.c (.str (W "\n")))))])]⟩
noncomputable def oK:Fn:=⟨1,1,[.ret (.bX .join (.c (.str (W ""))) [(.comp 1 [] [0] true none [(.v 0)] [] (.ite (.v 0) (.c (.str (W "1"))) (.c (.str (W "0")))))])]⟩
noncomputable def rO (il:Nat):Fn:=⟨1,1,[.ret (.bX .join (.c (.str (W " "))) [(.comp 2 [] [0,1] false none [(.v 0)] [] (.bin .add (.bin .add (.call il [(.v 0)]) (.c (.str (W ">")))) (.bi .str [(.v 1)])))])]⟩
noncomputable def wM (ilt isl:Nat):Fn:=⟨1,1,[.ret (.call ilt [(.comp 1 [] [0] true none [(.v 0)] [] (.call isl [(.v 0)]))])]⟩
noncomputable def AI (iw icm:Nat):Fn:=⟨2,2,[.ret (.call iw [(.call icm [(.v 0),(.v 1)])])]⟩
theorem NF:W "\n" = [10]:=by decide
theorem CZ:W ">" = [62]:=by decide
theorem w1:W "1" = [49]:=by decide
theorem w0:W "0" = [48]:=by decide
theorem zQ:W " " = [32]:=by decide
theorem K1:W "" = []:=by decide
theorem nP:∀ ws:List (List Nat),cY [] ws=ws.flatten
 |[]=>rfl
 |[w]=>by simp [cY]
 |w::v::r=>by simp only[cY,nP (v::r),d7,gg]
theorem CU (bs:List Bool):(bs.map fun b=>[hZ b]).flatten=bs.map hZ:=by
 induction bs with
 |nil=>rfl
 |cons b r ih=>simp only[az,gg,ih];rfl
theorem vZ {α:Type}(n:Nat):∀ xs:List α,(xs.map fun _=>n).sum=xs.length*n
 |[]=>by simp
 |_::r=>by simp only[az,sy,vZ n r,ak];rw[yd];omega
theorem pI {α:Type}{f:α->Nat}{n:Nat}:∀{xs:List α},(∀ x∈xs,f x<=n)->(xs.map f).sum<=xs.length*n
 |[],_=>by simp
 |x::r,h=>by
  have:=pI (xs:=r) fun y hy=>h y (by simp [hy])
  have:=h x (by simp)
  simp only[az,sy,ak];rw[yd];omega
section
variable {G:Prog}{k i il isl ilt iw:Nat}{st:aB}{Q:VK}{E:XK}
theorem OH (h:G.fns i=some oK){bs:List Bool}(hl:bs.length<=1000)(hQ:∀ aA,Ext st aA->Q (.str (bs.map hZ)) aA):aI G (k+1) i [dM bs] st Q E:=by
 have hL:aK=16777216:=rfl
 rw[aM h]
 simp only[oK,start,dM]
 refine⟨rfl,?_⟩
 walk_at"st"
 refine dD D.bl (fun b=>.str [hZ b]) bs [] st (fun aA x a ha=>by cases ha) (fun b _ aA K x1 hK=>?_) (by simp only[aj];omega) fun aC x1=>?_
 ·walk_at"ex"
  cases b with
  |true=>simp only[if_true];walk_at"ex"; rw[w1];exact hK aA .refl
  |false=>simp only[ai,if_false];walk_at"ex"; rw[w0];exact hK aA .refl
 rw[ba]
 refine bE (by simp only[aa];omega) fun p aG x2 hp eZ=>?_
 walk_at"ex"
 rw[aE eZ]
 have e:bs.map (fun b=>D.str [hZ b])=(bs.map fun b=>[hZ b]).map .str:=by rw[de];rfl
 rw[e,iD]
 simp only[aX]
 rw[K1,nP,CU]
 refine⟨?_,hQ _ (x1.trans x2)⟩
 rw[de,show(List.length∘fun b=>[hZ b])=fun _=>1 from rfl,vZ]
 simp;omega
theorem B1 {x:Wy}(h:x.2<100):(gO x).length<=x.1.length+3:=by
 unfold gO
 have:=BB h
 simp only[aq,aa,ak];omega
theorem DF (c:Nat):∀ ws:List (List Nat),(cY [c] ws).length<=(ws.map jk).sum+ws.length
 |[]=>by simp [cY]
 |[w]=>by simp [cY]
 |w::v::r=>by
  have:=DF c (v::r)
  rw[join_cons (by simp)]
  simp only[aq,ak,az,sy]at this ⊢
  omega
theorem wN {xs:List Wy}{g:Nat}(h:∀ x∈xs,x.1.length<=g/\x.2<100):(jR xs).length<=xs.length*(g+3)+xs.length:=by
 have h1:=DF 32 (xs.map gO)
 have h2:=pI (f:=fun x=>(gO x).length) (n:=g+3) (xs:=xs) fun x hx=>by have:=B1 (h x hx).2;have:=(h x hx).1;omega
 unfold jR
 rw[de,aa]at h1
 have h2:((xs.map (List.length∘gO)).sum)<=xs.length*(g+3):=h2
 exact bz h1 (by omega)
theorem N3 (h:G.fns i=some (rO il))(hl:G.fns il=some oK){xs:List Wy}{g:Nat}(hg:g<=100)(hx:xs.length<=1000)(hb:∀ x∈xs,x.1.length<=g/\x.2<100)(hQ:∀ aA,Ext st aA->Q (.str (jR xs)) aA):aI G (k+2) i [gP xs] st Q E:=by
 have hL:aK=16777216:=rfl
 rw[aM h]
 simp only[rO,start,gP]
 refine⟨rfl,?_⟩
 walk_at"st"
 refine dD eO (fun x=>.str (gO x)) xs [] st (fun aA x a ha=>by cases ha) (fun x Nz aA K x1 hK=>?_) (by simp only[aj];omega) fun aC x1=>?_
 ·obtain⟨b1,b2⟩:=hb x Nz
  simp only[eO]
  walk_at"ex"
  refine OH (k:=k) hl (by omega) fun aG x2=>?_
  have d2:=BB b2
  walk_at"ex"
  refine⟨by rw[CZ];simp only[aa,ak,aj];omega,⟨by omega,by omega⟩,?_⟩
  rw[i1]
  refine⟨by rw[CZ];simp only[aq,aa,ak,aj];omega,?_⟩
  have e:x.1.map hZ++W ">" ++ dg x.2=gO x:=by rw[CZ];unfold gO;simp
  rw[e]
  exact hK aG x2
 rw[ba]
 refine bE (by simp only[aa];omega) fun p aG x2 hp eZ=>?_
 walk_at"ex"
 rw[aE eZ]
 have e:xs.map (fun x=>D.str (gO x))=(xs.map gO).map .str:=by rw[de];rfl
 rw[e,iD]
 simp only[aX]
 rw[zQ]
 refine⟨?_,hQ _ (x1.trans x2)⟩
 have h2:=pI (f:=fun x=>(gO x).length) (n:=g+3) (xs:=xs) fun x hx=>by have:=B1 (hb x hx).2;have:=(hb x hx).1;omega
 have h3:xs.length*(g+3)<=1000*103:=g7 hx (by omega)
 rw[de]
 simp only[aa,ak,aj]
 have h4:((xs.map (List.length∘gO)).sum)<=xs.length*(g+3):=h2
 omega
theorem P8 (h:G.fns i=some rQ){l:Nat}{ws:List (List Nat)}(hl:st l=some (.lst (ws.map .str)))(hn:ws.length<=1000)(hw:∀ w∈ws,w.length<=10000)(hQ:∀ aA,Ext st aA->Q (.str (ws.map fun w=>w++[10]).flatten) aA):aI G (k+1) i [.ref l] st Q E:=by
 have hL:aK=16777216:=rfl
 rw[aM h]
 simp only[rQ,start]
 refine⟨rfl,?_⟩
 walk_at"st"
 rw[aE hl]
 refine dD D.str (fun w=>.str (w++[10])) ws [] st (fun aA x a ha=>by simp only[bf]at ha;subst ha;rw[hl,x _ _ hl]) (fun w hwm aA K x1 hK=>?_) (by simp only[aj];omega) fun aC x1=>?_
 ·have:=hw w hwm
  walk_at"ex"
  rw[NF]
  exact⟨by simp only[ak,aj];omega,hK aA .refl⟩
 rw[ba]
 refine bE (by simp only[aa];omega) fun p aG x2 hp eZ=>?_
 walk_at"ex"
 rw[aE eZ]
 have e:ws.map (fun w=>D.str (w++[10]))=(ws.map fun w=>w++[10]).map .str:=by rw[de];rfl
 rw[e,iD]
 simp only[aX]
 rw[K1,nP]
 refine⟨?_,hQ _ (x1.trans x2)⟩
 have h2:=pI (f:=fun w:List Nat=>w.length+1) (n:=10001) (xs:=ws) fun w hx=>by have:=hw w hx;omega
 have h3:ws.length*10001<=1000*10001:=g7 hn (by omega)
 rw[de]
 have e3:(List.length∘fun w:List Nat=>w++[10])=fun w=>w.length+1:=by funext w;simp
 rw[e3]
 simp only[aa,aj,Nat.mul_zero]
 omega
theorem PD (h:G.fns iw=some (wM ilt isl))(h1:G.fns ilt=some rQ)(h2:G.fns isl=some (rO il))(h3:G.fns il=some oK){m:gM}{g:Nat}(hg:g<=10)(hm:m.length<=1000)(hb:∀ xs∈m,xs.length<=100/\∀ x∈xs,x.1.length<=g/\x.2<100)
  (hQ:∀ aA,Ext st aA->Q (.str (kD m)) aA):aI G (k+3) iw [dO m] st Q E:=by
 have hL:aK=16777216:=rfl
 rw[aM h]
 simp only[wM,start,dO]
 refine⟨rfl,?_⟩
 walk_at"st"
 refine dD gP (fun xs=>.str (jR xs)) m [] st (fun aA x a ha=>by cases ha) (fun xs hx aA K x1 hK=>?_) (by simp only[aj];omega) fun aC x1=>?_
 ·exact N3 (k:=k) h2 h3 (by omega) (by have:=(hb xs hx).1;omega) (hb xs hx).2 hK
 rw[ba]
 refine bE (by simp only[aa];omega) fun p aG x2 hp eZ=>?_
 have e:m.map (fun xs=>D.str (jR xs))=(m.map jR).map .str:=by rw[de];rfl
 rw[e]at eZ
 try dsimp only
 refine P8 (k:=k+1) h1 eZ (by simpa using hm) (fun w hw=>?_) fun aQ x3=>?_
 ·obtain⟨xs,hx,rfl⟩:=List.mem_map.mp hw
  have l1:=wN (hb xs hx).2
  have l2:xs.length*(g+3)<=100*13:=g7 (hb xs hx).1 (by omega)
  have:=(hb xs hx).1
  omega
 ·have e2:((m.map jR).map fun w=>w++[10]).flatten=kD m:=by unfold kD;rw[de];rfl
  rw[e2]
  exact hQ _ ((x1.trans x2).trans x3)
end
noncomputable def wL:Fn:=⟨1,1,[.iff (.not_ (.isi (.v 0) [.str])) [.rais 4 [(.c (.str (W "no text")))]] [],.ret (.v 0)]⟩
noncomputable def pC (ict:Nat):Fn:=⟨1,1,[.iff (.not_ (.bX .endswith (.callx ict [(.v 0)]) [(.c (.str (W "\n")))])) [.rais 4 [(.c (.str (W "the last line has no end")))]] [],.ret (.bX .split (.sl (.v 0) [] [(.neg (.c (.int 1)))]) [(.c (.str (W "\n")))])]⟩
noncomputable def sF (md dgs:D):Fn:=⟨1,1,[.iff (.or_ (.not_ (.chain .le .le (.c (.int 1)) (.bi .len [(.v 0)]) (.c md))) (.not_ (.bi .all [(.comp 1 [] [0] true none [(.v 0)] [] (.cmp .in_ (.v 0) (.c dgs)))]))) [.rais 4 [(.c (.str (W "no such number")))]] [],.ret (.bi .int [(.v 0)])]⟩
noncomputable def uI (ini:Nat):Fn:=⟨1,2,[.asg (.nm 1) (.bX .partition (.v 0) [(.c (.str (W ">")))]),.ret (.tup [(.bi .tuple [(.comp 1 [] [0] true none [(.ix (.v 1) (.c (.int 0)))] [] (.cmp .eq (.v 0) (.c (.str (W "1")))))]),(.callx ini [(.ix (.v 1) (.c (.int 2)))])])]⟩
noncomputable def sN (iwi:Nat):Fn:=⟨1,1,[.ret (.bi .tuple [(.comp 1 [] [0] true none [(.bX .split (.v 0) [(.c (.str (W " ")))])] [] (.callx iwi [(.v 0)]))])]⟩
theorem tI (c:Nat):∀ l:List Nat,occurs [c] l=l.contains c
 |[]=>rfl
 |x::r=>by
  simp only[occurs,List.isPrefixOf,tm,tI c r,kj]
theorem Mo:W "0123456789" = [48,49,50,51,52,53,54,55,56,57]:=by decide
theorem VM (c:Nat):occurs [c] (W "0123456789")=lV c:=by
 rw[tI,Mo,gq]
 simp only[kj,ym,oj,i9,beq_iff_eq,lV,ay,decide_eq_true_eq]
 omega
theorem FC (T:List Nat):cut T none (some (-1))=T.dropLast:=by
 unfold cut bM
 simp only
 rw[if_pos (by decide),kc,yg,nz]
 congr 1
 omega
theorem RR (T:List Nat):[10].isSuffixOf T=decide (T.getLast? = some 10):=by
 rw[gq,qt,decide_eq_true_eq,List.getLast?_eq_some_iff]
 exact⟨fun⟨t,h⟩=>⟨t,h.symm⟩,fun⟨t,h⟩=>⟨t,h.symm⟩⟩
theorem yZ {α β:Type}{gd:aB->Prop}{turn:D->aB->(Option D->aB->Prop)->Prop}{R:List D->aB->Prop}(t:α->D)(f:β->D)(g:α->Option β){yU:aB}{X:Prop}:∀(xs:List α)(acc:List D)(st:aB),Ext yU st ->
  (∀ aA,Ext yU aA->gd aA)->(∀ x∈xs,∀ aA (K:Option D->aB->Prop),Ext yU aA->(∀ y,g x=some y->∀ aY,Ext aA aY->K (some (f y)) aY)->(g x=none->X)->turn (t x) aA K) ->
  acc.length+xs.length<=aK->(∀ ys,bP g xs=some ys->∀ aA,Ext yU aA->R (acc++ys.map f) aA)->(bP g xs=none->X)->fD gd turn (xs.map t) acc st R
 |[],acc,st,x0,hg,_,_,hR,_=>⟨hg st x0,by simpa using hR [] rfl st x0⟩
 |x::xs,acc,st,x0,hg,ht,hl,hR,hX=>by
  simp only[ak]at hl
  refine⟨hg st x0,by omega,ht x (by simp) st _ x0 (fun y hy aY x2=>?_) fun hn=>hX (by simp only[bP,hn];rfl)⟩
  exact yZ t f g xs (acc++[f y]) aY (x0.trans x2) hg (fun z hz=>ht z (by simp [hz])) (by simp only[aq,ak,aj];omega) (fun ys hys aA x3=>by
   have:=hR (y::ys) (by simp only[bP,hy,dt,hys,pe]) aA x3
   simpa using this) fun hn=>hX (by simp only[bP,hy,dt,hn];rfl)
section
variable {G:Prog}{k i ict ini iwi:Nat}{st:aB}{Q:VK}{E:XK}{T:List Nat}
theorem XX (h:G.fns ict=some wL)(hQ:Q (.str T) st):aI G (k+1) ict [.str T] st Q E:=by
 rw[aM h]
 simp only[wL,start]
 refine⟨rfl,?_⟩
 walk_at"st"
 try simp only[b5,ai,if_false,aL]
 walk_at"st"
 exact hQ
set_option tactic.hygienic true in
theorem K2 (h:G.fns i=some (pC ict))(hc:G.fns ict=some wL)(hT:T.length<aK)(hQ:T.getLast? = some 10->∀ p aA,Ext st aA->st p=none->aA p=some (.lst ((aW 10 T.dropLast).map .str))->Q (.ref p) aA)(hE:T.getLast?≠some 10->E 4 st):aI G (k+2) i [.str T] st Q E:=by
 have hL:aK=16777216:=rfl
 rw[aM h]
 simp only[pC,start]
 refine⟨rfl,?_⟩
 walk_at"st"
 refine XX hc ?_
 walk_at"ex"
 refine⟨by omega,?_⟩
 rw[NF,RR]
 by_cases hl:T.getLast? = some 10
 ·simp only[hl,decide_true,b5,ai,if_false,aL]
  walk_at"st"
  refine⟨by omega,?_⟩
  rw[show(-1:Int) = -1 from rfl,FC]
  walk_at"ex"
  rw[oV]
  refine⟨by rw[gy];omega,?_⟩
  have sl:(aW 10 T.dropLast).length<=T.dropLast.length+1:=by
   have:∀ s:List Nat,(aW 10 s).length<=s.length+1:=fun s=>by
    induction s with
    |nil=>simp [aW]
    |cons x s ih =>
     simp only[aW]
     split
     ·simp;omega
     ·split
      ·rename_i e;rw[e]at ih;simp at ih ⊢;omega
      ·simp
   exact this _
  refine bE (by rw[aa];rw[gy]at sl;omega) fun p aC x1 hp hp1=>?_
  exact hQ hl p aC x1 hp hp1
 ·simp only[hl,decide_false,c9,if_true]
  walk_at"st"
  exact hE hl
theorem SE (h:G.fns i=some (sF (.int 2) (.str (W "0123456789")))){w:List Nat}(hw:w.length<aK)(hQ:(1<=w.length/\w.length<=2)/\w.all lV=true->∀ aA,Ext st aA->Q (.int (val w:Nat)) aA)(hE:¬((1<=w.length/\w.length<=2)/\w.all lV=true)->∀ aA,Ext st aA->E 4 aA):aI G (k+1) i [.str w] st Q E:=by
 have hL:aK=16777216:=rfl
 rw[aM h]
 simp only[sF,start]
 refine⟨rfl,?_⟩
 walk_at"st"
 refine⟨by omega,?_⟩
 by_cases l1:1<=w.length
 rotate_left
 ·have l1':¬(1:Int)<=(w.length:Int):=by omega
  simp only[l1',decide_false,ai,if_false]
  walk_at"ex"
  try simp only[c9,if_true]
  walk_at"st"
  exact hE (fun z=>l1 z.1.1) st .refl
 have l1':(1:Int)<=(w.length:Int):=by omega
 simp only[l1',decide_true,if_true]
 walk_at"ex"
 by_cases l2:w.length<=2
 rotate_left
 ·have l2':¬(w.length:Int)<=2:=by omega
  simp only[l2',decide_false,c9,if_true]
  walk_at"st"
  exact hE (fun z=>l2 z.1.2) st .refl
 have l2':(w.length:Int)<=2:=by omega
 simp only[l2',decide_true,b5,ai,if_false]
 walk_at"ex"
 refine⟨by omega,?_⟩
 refine dD (fun c=>D.str [c]) (fun c=>.bl (lV c)) w [] st (fun aA x a ha=>by cases ha) (fun c _ aA K x1 hK=>?_) (by simp only[aj];omega) fun aC x1=>?_
 ·walk_at"ex"
  rw[VM]
  exact hK aA .refl
 rw[ba]
 refine bE (by simp only[aa];omega) fun p aG x2 hp eZ=>?_
 walk_at"ex"
 rw[aE eZ,mO]
 simp only[aX]
 rw[show(w.map lV).all id=w.all lV from by rw[km];rfl]
 cases ha:w.all lV with
 |true =>
  simp only[b5,ai,if_false,aL]
  walk_at"st"
  exact⟨⟨l1,by omega,ha⟩,hQ ⟨⟨l1,l2⟩,ha⟩ _ (x1.trans x2)⟩
 |false =>
  simp only[c9,if_true]
  walk_at"st"
  exact hE (fun z=>by rw[ha]at z;cases z.2) _ (x1.trans x2)
theorem RT (h:G.fns i=some (uI ini))(hn:G.fns ini=some (sF (.int 2) (.str (W "0123456789")))){s:List Nat}(hs:s.length<aK)(hQ:∀ x,tY s=some x->∀ aA,Ext st aA->Q (eO x) aA)(hE:tY s=none->∀ aA,Ext st aA->E 4 aA):aI G (k+2) i [.str s] st Q E:=by
 have hL:aK=16777216:=rfl
 rw[aM h]
 simp only[uI,start]
 refine⟨rfl,?_⟩
 have p1:(part 62 s).1.length<=s.length:=by unfold part;exact(u2 _).length_le
 have p2:(part 62 s).2.length<=s.length:=by
  unfold part
  rw[fk]
  have:=(List.dropWhile_sublist (fun x=>x != 62) (l:=s)).length_le
  omega
 walk_at"st"
 rw[CZ,FX]
 refine⟨by omega,?_⟩
 try dsimp only
 walk_at"st"
 refine⟨by omega,?_⟩
 refine dD (fun c=>D.str [c]) (fun c=>.bl (decide (c=49))) (part 62 s).1 [] st (fun aA x a ha=>by cases ha) (fun c _ aA K x1 hK=>?_) (by simp only[aj];omega) fun aC x1=>?_
 ·walk_at"ex"
  rw[w1,show([c]==[49])=decide (c=49)from by rw[gq];simp]
  exact hK aA .refl
 rw[ba]
 refine bE (by simp only[aa];omega) fun p aG x2 hp eZ=>?_
 walk_at"ex"
 rw[aE eZ]
 try simp only[cS]
 refine⟨by simp only[aa];omega,?_⟩
 walk_at"ex"
 refine SE (k:=k) hn (by omega) (fun c aQ x3=>?_) fun c aQ x3=>?_
 ·walk_at"ex"
  have e:tY s=some ((part 62 s).1.map (fun c=>decide (c=49)),val (part 62 s).2):=by
   unfold tY
   rw[if_neg]
   rintro((z|z)|z)
   ·omega
   ·omega
   ·rw[c.2]at z;cases z
  have:=hQ _ e aQ ((x1.trans x2).trans x3)
  simp only[eO,dM,de]at this
  exact this
 ·refine hE ?_ aQ ((x1.trans x2).trans x3)
  unfold tY
  rw[if_pos]
  by_cases l1:(part 62 s).2.length<1
  ·exact .inl (.inl l1)
  ·by_cases l2:2<(part 62 s).2.length
   ·exact .inl (.inr l2)
   ·refine .inr ?_
    cases ha:(part 62 s).2.all lV with
    |false=>rfl
    |true=>exact absurd ⟨⟨by omega,by omega⟩,ha⟩ c
end
noncomputable def AQ (ich ili isi ima iw:Nat):Fn:=⟨2,3,[.ex (.call ich [(.v 0)]),.asg (.nm 2) (.bi .tuple [(.comp 1 [] [0] true none [(.callx ili [(.v 1)])] [] (.callx isi [(.v 0)]))]),.iff (.or_ (.not_ (.call ima [(.v 0),(.v 2)])) (.cmp .ne (.call iw [(.v 2)]) (.v 1))) [.rais 4 [(.c (.str (W "no machine for this book is written so")))]] [],.ret (.v 2)]⟩
set_option tactic.hygienic true in
theorem og (c:Nat)(s:List Nat):(aW c s).length<=s.length+1:=by
 induction s with
 |nil=>simp [aW]
 |cons x s ih =>
 simp only[aW]
 split
 ·simp;omega
 ·split
  ·rename_i e;rw[e]at ih;simp at ih ⊢;omega
  ·simp
theorem jX {c:Nat}{s w:List Nat}(h:w∈aW c s):w.length<=s.length:=by
 induction s generalizing w with
 |nil=>simp only[aW,bf]at h;subst h;exact bb _
 |cons x s ih =>
 simp only[aW]at h
 split at h
 ·rcases List.mem_cons.mp h with rfl|h
  ·simp
  ·have:=ih h;simp;omega
 ·cases q:aW c s with
  |nil=>exact absurd q (pL c s)
  |cons v r =>
  rw[q]at h
  dsimp only at h
  rcases List.mem_cons.mp h with rfl|h
  ·have:=ih (w:=v) (by rw[q];simp);simp;omega
  ·have:=ih (w:=w) (by rw[q];simp [h]);simp;omega
noncomputable def HN (g N:Nat)(x:Wy):Bool:=decide (x.1.length=g)&&decide (x.2<N)
noncomputable def HH (n g N:Nat)(xs:List Wy):Bool:=decide (xs.length=2 ^ n)&&xs.all (HN g N)
noncomputable def NO (n g:Nat)(m:gM):Bool:=(decide (1<=m.length)&&decide (m.length<=64))&&m.all (HH n g m.length)
theorem ND {n g:Nat}{m:gM}:NO n g m=true↔C4 g (2 ^ n) m:=by
 unfold NO C4
 simp only[ay,decide_eq_true_eq,yz,HH,HN]
 constructor
 ·rintro⟨⟨h1,h2⟩,h3⟩
  exact⟨h1,h2,fun xs hx=>⟨(h3 xs hx).1,fun x hx'=>(h3 xs hx).2 x hx'⟩⟩
 ·rintro⟨h1,h2,h3⟩
  exact⟨⟨h1,h2⟩,fun xs hx=>⟨(h3 xs hx).1,fun x hx'=>(h3 xs hx).2 x hx'⟩⟩
section
variable {G:Prog}{k i isd ise ir iwy ist ipl ima:Nat}{st:aB}{Q:VK}{E:XK}{b:Bk}
theorem OR (h:G.fns ist=some fM){bs:List Bool}{n:Nat}(hl:bs.length<=1000000)(hQ:∀ aA,Ext st aA->Q (.bl (decide (bs.length=n))) aA):aI G (k+1) ist [dM bs,.int (n:Nat)] st Q E:=by
 have hL:aK=16777216:=rfl
 rw[aM h]
 simp only[fM,start,dM]
 refine⟨rfl,?_⟩
 walk_at"st"
 rw[aa]
 by_cases e:bs.length=n
 ·rw[decide_eq_true e]at hQ
  have e1:(((bs.length:Nat):Int)==((n:Nat):Int))=true:=by rw[e];simp
  simp only[e1,if_true]
  walk_at"ex"
  refine dD D.bl (fun _=>.bl true) bs [] st (fun aA x a ha=>by cases ha) (fun b _ aA K x1 hK=>?_) (by simp only[aj];omega) fun aC x1=>?_
  ·walk_at"ex"
   exact hK aA .refl
  rw[ba]
  refine bE (by simp only[aa];omega) fun p aG x2 hp eZ=>?_
  walk_at"ex"
  rw[aE eZ,gR,aX]
  have e2:(bs.map fun _=>true).all id=true:=by simp
  rw[e2]
  exact hQ _ (x1.trans x2)
 ·rw[decide_eq_false e]at hQ
  have e1:(((bs.length:Nat):Int)==((n:Nat):Int))=false:=by rw[beq_eq_false_iff_ne];omega
  simp only[e1,ai,if_false]
  exact hQ st .refl
theorem XQ (h:G.fns i=some gW){a N:Nat}(hQ:Q (.bl (decide (a<N))) st):aI G (k+1) i [.int (a:Nat),.int (N:Nat)] st Q E:=by
 rw[aM h]
 simp only[gW,start]
 refine⟨rfl,?_⟩
 walk_at"st"
 rw[if_pos (by omega:(0:Int)<=((a:Nat):Int))]
 have e:decide (((a:Nat):Int)<((N:Nat):Int))=decide (a<N):=by rw[gq];simp
 rw[e]
 exact hQ
theorem Hx (h:G.fns iwy=some (pD ir ist ipl))(hr:G.fns ir=some fF)(hs:G.fns ist=some fM)(hp:G.fns ipl=some gW){N:Nat}{w:Wy}(hl:w.1.length<=1000000)(hQ:∀ aA,Ext st aA->Q (.bl (HN b.gs.length N w)) aA):aI G (k+2) iwy [b.d,.int (N:Nat),eO w] st Q E:=by
 rw[aM h]
 simp only[pD,start,eO,Bk.d]
 refine⟨rfl,?_⟩
 walk_at"st"
 refine kN hr (by simp only[ak,aj];omega) (by simp only[ak,aj];omega) ?_
 walk_at"ex"
 rw[aa]
 refine OR hs hl fun aC x1=>?_
 unfold HN at hQ
 by_cases e:w.1.length=b.gs.length
 ·rw[decide_eq_true e]at hQ ⊢
  walk_at"ex"
  try simp only[if_true]
  walk_at"ex"
  simp only[g5]at hQ
  exact XQ hp (hQ _ x1)
 ·rw[decide_eq_false e]at hQ ⊢
  walk_at"ex"
  try simp only[ai,if_false]
  simp only[fj]at hQ
  exact hQ _ x1
theorem WE (h:G.fns isd=some (lG ise ir iwy))(hse:G.fns ise=some oH)(hw:G.fns iwy=some (pD ir ist ipl))(hr:G.fns ir=some fF)(hs:G.fns ist=some fM)(hp:G.fns ipl=some gW)(B:b.Ok){N:Nat}{s:List Wy}(hl:s.length<=1000000)(hb:∀ x∈s,x.1.length<=1000000)
  (hQ:∀ aA,Ext st aA->Q (.bl (HH b.fs.length b.gs.length N s)) aA):aI G (k+3) isd [b.d,.int (N:Nat),gP s] st Q E:=by
 have hL:aK=16777216:=rfl
 have f2:=B.f2
 have g2:=B.g2
 rw[aM h]
 simp only[lG,start,gP]
 refine⟨rfl,?_⟩
 rw[show b.d=.tup [.tup (b.fs.map .str),.tup (b.gs.map .str),.tup (b.ps.map toD),.tup (b.ms.map toD),.tup (b.ws.map fun w=>.tup [.int w.1,toD w.2])]from rfl]
 walk_at"st"
 refine KY (k:=k+1) hse (by rw[aa];omega) fun p aC hp0 x1 hp1=>?_
 walk_at"ex"
 rw[cN hp1]
 walk_at"st"
 have el:(((gB (b.fs.map D.str).length).map dM).length:Int)=((2 ^ b.fs.length:Nat):Int):=by rw[aa,kU,aa]
 rw[el]
 refine iY hr ?_
 rw[aa]
 unfold HH at hQ
 by_cases e:s.length=2 ^ b.fs.length
 ·have e1:(decide (((2 ^ b.fs.length:Nat):Int)<=(s.length:Int))&&decide ((s.length:Int)<=((2 ^ b.fs.length:Nat):Int)))=true:=by rw[e];simp
  rw[e1]
  rw[decide_eq_true e]at hQ
  simp only[g5]at hQ
  walk_at"ex"
  try simp only[if_true]
  walk_at"ex"
  refine dD eO (fun x=>.bl (HN b.gs.length N x)) s [] aC (fun aY y a ha=>by cases ha) (fun w hws aY K y1 hK=>?_) (by simp only[aj];omega) fun aG y2=>?_
  ·exact Hx hw hr hs hp (hb w hws) hK
  rw[ba]
  refine bE (by simp only[aa];omega) fun pp aQ y3 hpp tO=>?_
  walk_at"ex"
  rw[aE tO,mO,aX]
  rw[show(s.map (HN b.gs.length N)).all id=s.all (HN b.gs.length N)from by rw[km];rfl]
  exact hQ aQ (x1.trans (y2.trans y3))
 ·have e1:(decide (((2 ^ b.fs.length:Nat):Int)<=(s.length:Int))&&decide ((s.length:Int)<=((2 ^ b.fs.length:Nat):Int)))=false:=by
   rw[Bool.and_eq_false_iff,decide_eq_false_iff_not,decide_eq_false_iff_not];omega
  rw[e1]
  rw[decide_eq_false e]at hQ
  simp only[fj]at hQ
  walk_at"ex"
  try simp only[ai,if_false]
  exact hQ aC x1
theorem YO (h:G.fns ima=some (tM ir isd (.int 64)))(hd:G.fns isd=some (lG ise ir iwy))(hse:G.fns ise=some oH)(hw:G.fns iwy=some (pD ir ist ipl))(hr:G.fns ir=some fF)(hs:G.fns ist=some fM)(hp:G.fns ipl=some gW)(B:b.Ok){m:gM}(hl:m.length<=1000000)(hb:∀ xs∈m,xs.length<=1000000/\∀ x∈xs,x.1.length<=1000000)
  (hQ:∀ aA,Ext st aA->Q (.bl (NO b.fs.length b.gs.length m)) aA):aI G (k+4) ima [b.d,dO m] st Q E:=by
 have hL:aK=16777216:=rfl
 rw[aM h]
 simp only[tM,start,dO]
 refine⟨rfl,?_⟩
 walk_at"st"
 refine iY hr ?_
 rw[aa]
 unfold NO at hQ
 have e0:(decide ((1:Int)<=(m.length:Int))&&decide ((m.length:Int)<=64))=(decide (1<=m.length)&&decide (m.length<=64)):=by
  rw[gq];simp only[ay,decide_eq_true_eq];omega
 rw[e0]
 cases e:(decide (1<=m.length)&&decide (m.length<=64))with
 |false =>
  rw[e]at hQ
  walk_at"ex"
  try simp only[ai,if_false]
  simp only[fj]at hQ
  exact hQ st .refl
 |true =>
  rw[e]at hQ
  simp only[g5]at hQ
  walk_at"ex"
  try simp only[if_true]
  walk_at"ex"
  refine dD gP (fun xs=>.bl (HH b.fs.length b.gs.length m.length xs)) m [] st (fun aY y a ha=>by cases ha) (fun s iO aY K y1 hK=>?_) (by simp only[aj];omega) fun aG y2=>?_
  ·try rw[aa]
   exact WE hd hse hw hr hs hp B (hb s iO).1 (hb s iO).2 hK
  rw[ba]
  refine bE (by simp only[aa];omega) fun pp aQ y3 hpp tO=>?_
  walk_at"ex"
  rw[aE tO,mO,aX]
  rw[show(m.map (HH b.fs.length b.gs.length m.length)).all id=m.all (HH b.fs.length b.gs.length m.length)from by rw[km];rfl]
  exact hQ aQ (y2.trans y3)
end
theorem tL {α β:Type}{g:α->Option β}{P:α->Prop}{R:β->Prop}:∀{as:List α}{bs:List β},(∀ a∈as,P a)->(∀ a b,P a->g a=some b->R b)->bP g as=some bs->∀ b∈bs,R b
 |[],bs,_,_,h=>by cases h;simp
 |a::as,bs,hp,q,h=>by
  simp only[bP,gz,cb]at h
  obtain⟨b,h1,bs',h2,rfl⟩:=h
  intro x hx
  rcases List.mem_cons.mp hx with rfl|hx
  ·exact q a x (hp a (by simp)) h1
  ·exact tL (fun y hy=>hp y (by simp [hy])) q h2 x hx
theorem YE {s:List Nat}{x:Wy}(h:tY s=some x):x.1.length<=s.length:=by
 unfold tY at h
 split at h
 ·cases h
 ·cases h
  simp only[aa]
  unfold part;exact(u2 _).length_le
theorem XS {s:List Nat}{xs:List Wy}(h:xU s=some xs):xs.length<=s.length+1/\∀ x∈xs,x.1.length<=s.length:=by
 unfold xU at h
 refine⟨by rw[iC h];exact og 32 s,tL (P:=fun w=>w.length<=s.length) (fun w hw=>jX hw) (fun a b p q=>bz (YE q) p) h⟩
theorem YL {T:List Nat}{m:gM}(h:CQ T=some m):m.length<=T.length+1/\∀ xs∈m,xs.length<=T.length+1/\∀ x∈xs,x.1.length<=T.length:=by
 unfold CQ at h
 split at h
 ·have d:T.dropLast.length<=T.length:=by rw[gy];omega
  refine⟨by rw[iC h];have:=og 10 T.dropLast;omega,tL (P:=fun w=>w.length<=T.length) (fun w hw=>bz (jX hw) d) (fun a b p q=>?_) h⟩
  have:=XS q
  exact⟨by omega,fun x hx=>bz (this.2 x hx) p⟩
 ·cases h
section
variable {G:Prog}{k i ict ini iwi isi ili ima ich ibk iw ilt isl il isd ise ir iwy ist ipl irm:Nat}{st:aB}{Q:VK}{E:XK}{b:Bk}{T:List Nat}
theorem MN (h:G.fns i=some (sN iwi))(hw:G.fns iwi=some (uI ini))(hn:G.fns ini=some (sF (.int 2) (.str (W "0123456789")))){s:List Nat}(hs:s.length+2<aK)(hQ:∀ xs,xU s=some xs->∀ aA,Ext st aA->Q (gP xs) aA)(hE:xU s=none->∀ aA,Ext st aA->E 4 aA):aI G (k+3) i [.str s] st Q E:=by
 have hL:aK=16777216:=rfl
 rw[aM h]
 simp only[sN,start]
 refine⟨rfl,?_⟩
 have sl:=og 32 s
 walk_at"st"
 rw[zQ,oV]
 refine⟨by omega,bE (by rw[aa];omega) fun p aC x1 hp hp1=>?_⟩
 walk_at"ex"
 rw[aE hp1]
 refine yZ D.str eO tY (yU:=aC) (X:=∀ aA,Ext st aA->E 4 aA) (aW 32 s) [] aC .refl (fun aA x a ha=>by simp only[bf]at ha;subst ha;rw[hp1,x _ _ hp1]) (fun w hwm aA K x2 hK hX=>?_) (by simp only[aj];omega) (fun ys hys aG x2=>?_) fun hn'=>?_
 ·have:=jX hwm
  walk_at"ex"
  exact RT (k:=k) hw hn (by omega) (fun y hy aY x3=>hK y hy aY x3) fun hn2 aY x3=>hX hn2 aY ((x1.trans x2).trans x3)
 ·rw[ba]
  have yl:=iC hys
  refine bE (by rw[aa];omega) fun q aQ x3 hq hq3=>?_
  walk_at"ex"
  rw[aE hq3]
  try simp only[cS]
  refine⟨by rw[aa];omega,?_⟩
  exact hQ ys hys _ ((x1.trans x2).trans x3)
 ·exact hE hn'
structure RM (G:Prog)(irm ich ibk ili ict isi iwi ini ima isd ise ir iwy ist ipl iw ilt isl il:Nat):Prop where
 r:G.fns irm=some (AQ ich ili isi ima iw)
 c:G.fns ich=some (pJ ibk)
 li:G.fns ili=some (pC ict)
 ct:G.fns ict=some wL
 si:G.fns isi=some (sN iwi)
 wi:G.fns iwi=some (uI ini)
 ni:G.fns ini=some (sF (.int 2) (.str (W "0123456789")))
 ma:G.fns ima=some (tM ir isd (.int 64))
 sd:G.fns isd=some (lG ise ir iwy)
 se:G.fns ise=some oH
 wy:G.fns iwy=some (pD ir ist ipl)
 rr:G.fns ir=some fF
 st:G.fns ist=some fM
 pl:G.fns ipl=some gW
 wr:G.fns iw=some (wM ilt isl)
 lt:G.fns ilt=some rQ
 sl:G.fns isl=some (rO il)
 lm:G.fns il=some oK
theorem LV (st:aB)(m:gM):plainS st (dO m):=by
 have h:∀ m:gM,bF (m.map gP)=true/\cF (m.map gP)<=3:=fun m=>by
  induction m with
  |nil=>exact⟨rfl,dj _⟩
  |cons xs r ih =>
   have h2:∀ xs:List Wy,bF (xs.map eO)=true/\cF (xs.map eO)<=2:=fun xs=>by
    induction xs with
    |nil=>exact⟨rfl,dj _⟩
    |cons x r ih =>
     have p:=zB x.1
     have d:=KI x.1
     exact⟨by simp only[az,bF,eO,bB,p,ih.1,dm],by simp only[az,cF,eO,dF];omega⟩
   exact⟨by simp only[az,bF,gP,bB,(h2 xs).1,ih.1,dm],by have:=(h2 xs).2;simp only[az,cF,gP,dF];omega⟩
 refine⟨sX _ (by simp only[dO,bB,(h m).1]),?_⟩
 have:=(h m).2
 simp only[dO,dF]
 exact bz (by omega) (by decide:4<=lN)
open Classical in
theorem GK (F:RM G irm ich ibk ili ict isi iwi ini ima isd ise ir iwy ist ipl iw ilt isl il)(hb:xF G ibk 13 b)(B:b.Ok)(hT:T.length<=500000)(hQ:∀ m,wA b.gs.length (2 ^ b.fs.length) T=some m->∀ aA,Ext st aA->Q (dO m) aA)(hE:wA b.gs.length (2 ^ b.fs.length) T=none->∀ aA,Ext st aA->E 4 aA):aI G (k+20) irm [b.d,.str T] st Q E:=by
 have hL:aK=16777216:=rfl
 rw[aM F.r]
 simp only[AQ,start]
 refine⟨rfl,?_⟩
 walk_at"st"
 refine tF (k:=k+5) F.c hb fun aC x1=>?_
 walk_at"st"
 refine K2 (k:=k+17) F.li F.ct (by omega) (fun hl p aG x2 hp eZ=>?_) fun hl=>?_
 rotate_left
 ·refine hE ?_ _ x1
  unfold wA CQ
  rw[if_neg hl];rfl
 have dl:T.dropLast.length<=T.length:=by rw[gy];omega
 have sl:=og 10 T.dropLast
 walk_at"ex"
 rw[aE eZ]
 have e0:CQ T=bP xU (aW 10 T.dropLast):=by unfold CQ;rw[if_pos hl]
 refine yZ D.str gP xU (yU:=aG) (X:=∀ aA,Ext st aA->E 4 aA) (aW 10 T.dropLast) [] aG .refl (fun aA x a ha=>by simp only[bf]at ha;subst ha;rw[eZ,x _ _ eZ]) (fun w hwm aA K x3 hK hX=>?_) (by simp only[aj];omega) (fun ys hys aQ x3=>?_) fun hn'=>?_
 ·have:=jX hwm
  walk_at"ex"
  exact MN (k:=k+16) F.si F.wi F.ni (by omega) (fun y hy aY x4=>hK y hy aY x4) fun hn2 aY x4=>hX hn2 aY (((x1.trans x2).trans x3).trans x4)
 ·rw[ba]
  rw[<-e0]at hys
  obtain⟨m1,m2⟩:=YL hys
  refine bE (by rw[aa];omega) fun q bY x4 hq hq4=>?_
  walk_at"ex"
  rw[aE hq4]
  try simp only[cS]
  refine⟨by rw[aa];omega,?_⟩
  have x04:Ext st bY:=((x1.trans x2).trans x3).trans x4
  walk_at"st"
  refine YO (k:=k+15) F.ma F.sd F.se F.wy F.rr F.st F.pl B (m:=ys) (by omega) (fun xs hx=>⟨by have:=(m2 xs hx).1;omega,fun x hx'=>by have:=(m2 xs hx).2 x hx';omega⟩) fun dY x5=>?_
  have eR:wA b.gs.length (2 ^ b.fs.length) T=if C4 b.gs.length (2 ^ b.fs.length) ys/\kD ys=T then some ys else none:=by unfold wA;rw[hys];rfl
  cases hB:NO b.fs.length b.gs.length ys with
  |false =>
   walk_at"ex"
   try simp only[c9,if_true]
   walk_at"st"
   refine hE ?_ _ (x04.trans x5)
   rw[eR,if_neg (fun z=>by have:=ND.mpr z.1;rw[hB]at this;cases this)]
  |true =>
   have ok:=ND.mp hB
   walk_at"ex"
   try simp only[b5,ai,if_false]
   walk_at"ex"
   have f2:=B.f2
   have g2:=B.g2
   have p4:2 ^ b.fs.length<=4:=e8 (n:=2) (by decide) (by omega:b.fs.length<=2)
   refine PD (k:=k+16) F.wr F.lt F.sl F.lm (g:=2) (by omega) (by have:=ok.2.1;omega) (fun xs hx=>⟨by have:=(ok.2.2 xs hx).1;omega,fun x hx'=>by have:=(ok.2.2 xs hx).2 x hx';have:=ok.2.1;omega⟩) fun fQ x6=>?_
   walk_at"ex"
   by_cases hw:kD ys=T
   ·have e1:(kD ys==T)=true:=by rw[hw];simp
    simp only[e1,b5,ai,if_false,aL]
    walk_at"st"
    exact hQ ys (by rw[eR,if_pos ⟨ok,hw⟩]) _ ((x04.trans x5).trans x6)
   ·have e1:(kD ys==T)=false:=by rw[beq_eq_false_iff_ne];exact hw
    simp only[e1,c9,if_true]
    walk_at"st"
    exact hE (by rw[eR,if_neg (fun z=>hw z.2)]) _ ((x04.trans x5).trans x6)
 ·exact hE (by unfold wA;rw[e0,hn'];rfl)
end
noncomputable def uP:Fn:=⟨3,4,[.asg (.nm 3) (.bX .split (.v 0) [(.c (.str (W ">")))]),.iff (.or_ (.cmp .ne (.bi .len [(.v 3)]) (.c (.int 2))) (.or_ (.cmp .ne (.bi .len [(.ix (.v 3) (.c (.int 0)))]) (.v 1)) (.cmp .ne (.comp 1 [] [0] true none [(.ix (.v 3) (.c (.int 0)))] [(.cmp .gS (.v 0) (.c (.str (W "01"))))] (.v 0)) (.lst [])))) [.ret (.c .non)] [],.iff (.cmp .gS (.ix (.v 3) (.c (.int 1))) (.comp 1 [] [0] true (some .range) [(.v 2)] [] (.bi .str [(.v 0)]))) [.ret (.c .non)] [],.ret (.tup [(.bi .tuple [(.comp 1 [] [0] true none [(.ix (.v 3) (.c (.int 0)))] [] (.cmp .eq (.v 0) (.c (.str (W "1")))))]),(.bi .int [(.ix (.v 3) (.c (.int 1)))])])]⟩
noncomputable def EM:Fn:=⟨1,6,[.asg (.nm 1) (.lst []),.kJ (.nm 2) none [(.v 0)] [.asg (.nm 3) (.lst []),.kJ (.tp [4,5]) none [(.v 2)] [.ex (.bX .append (.v 3) [(.bin .add (.bin .add (.bX .join (.c (.str (W ""))) [(.comp 1 [] [0] true none [(.v 4)] [] (.ix (.lst [(.c (.str (W "0"))),(.c (.str (W "1")))]) (.bi .int [(.v 0)])))]) (.c (.str (W ">")))) (.bi .str [(.v 5)]))])],.ex (.bX .append (.v 1) [(.bin .add (.bX .join (.c (.str (W " "))) [(.v 3)]) (.c (.str (W "\n"))))])],.ret (.bX .join (.c (.str (W ""))) [(.v 1)])]⟩
theorem Y0 {n g:Nat}{m:gM}(O:OY n g m):C4 g (2 ^ n) m:=⟨O.l1,O.l2,fun xs hx=>⟨O.sl xs hx,fun x hx'=>⟨O.wf xs hx x hx',O.wn xs hx x hx'⟩⟩⟩
theorem EB (st:aB)(x:List Nat):∀ ws:List (List Nat),((ws.map D.str).any fun d=>bO st d (.str x))=decide (x∈ws)
 |[]=>by simp
 |w::r=>by
  rw[az,j7,EB st x r]
  simp only[bO,bh]
  rw[gq]
  simp only[i9,beq_iff_eq,decide_eq_true_eq]
  exact⟨fun h=>h.imp Eq.symm id,fun h=>h.imp Eq.symm id⟩
theorem FG {st:aB}(ws:List (List Nat)):dR st (ws.map .str):=⟨kY _ (jN ws).1,(jN ws).2⟩
theorem Du (c:Nat):occurs [c] (W "01")=(c==48||c==49):=by
 rw[tI,show W "01" = [48,49]from by decide]
 simp only[kj,ym,oj]
theorem OA:∀ a:List Nat,(a.filterMap fun c=>if(c==48||c==49)=true then none else some (D.str [c])).isEmpty=a.all fun c=>c==48||c==49
 |[]=>rfl
 |c::r=>by
  have ih:=OA r
  cases h:(c==48||c==49)with
  |true=>simp only[gb,h,if_true,ik,g5];exact ih
  |false=>simp only[gb,h,ai,if_false,ik,fj,rl]
theorem KN:∀ a:List Nat,∃ ws:List (List Nat),(a.filterMap fun c=>if(c==48||c==49)=true then none else some (D.str [c]))=ws.map .str/\ws.length<=a.length
 |[]=>⟨[],rfl,bb _⟩
 |c::r=>by
  obtain⟨ws,e,l⟩:=KN r
  cases h:(c==48||c==49)with
  |true=>exact⟨ws,by simp only[gb,h,if_true,e],by simp only[ak];omega⟩
  |false=>exact⟨[c]::ws,by simp only[gb,h,ai,if_false,e,az],by simp only[ak];omega⟩
theorem X3 {n:Nat}(h:n<1000000):1<=(dg n).length/\(dg n).length<=6:=by
 have h1:1<=(dg n).length:=by
  cases e:dg n with
  |nil=>exact absurd e (TR _)
  |cons _ _=>simp
 refine⟨h1,?_⟩
 have:∀ d n,n<10 ^ (d+1)->(dg n).length<=d+1:=fun d=>by
  induction d with
  |zero=>intro n hn;unfold dg;rw[if_pos (by omega)];simp
  |succ d ih =>
   intro n hn
   unfold dg
   split
   ·simp
   ·rw[aq]
    have:=ih (n / 10) (by rw[u1]at hn;omega)
    simp;omega
 exact this 5 n (by simpa using h)
section
variable {G:Prog}{k i iw icm il isl ilt:Nat}{st:aB}{Q:VK}{E:XK}
theorem QT (h:G.fns i=some uP){s:List Nat}{f n:Nat}(hs:s.length<=1000000)(hn:n<=900000)(q0:pU f n s=none->∀ aA,Ext st aA->Q .non aA)(q1:∀ x,pU f n s=some x->∀ aA,Ext st aA->Q (eO x) aA):aI G (k+1) i [.str s,.int (f:Nat),.int (n:Nat)] st Q E:=by
 have hL:aK=16777216:=rfl
 rw[aM h]
 simp only[uP,start]
 refine⟨rfl,?_⟩
 have sl:=og 62 s
 have sm:=fun w (hw:w∈aW 62 s)=>jX hw
 have e0:pU f n s=match aW 62 s with
  |[a,b]=>if a.length=f/\(a.all fun c=>c==48||c==49)=true/\b∈(bc n).map dg then some (a.map fun c=>decide (c=49),val b)else none
  |_=>none:=rfl
 walk_at"st"
 rw[CZ,oV]
 refine⟨by omega,bE (by rw[aa];omega) fun p aC x1 hp hp1=>?_⟩
 generalize aW 62 s=ps at sl sm e0 hp1
 walk_at"st"
 rw[cN hp1,aa]
 by_cases h2:ps.length=2
 rotate_left
 ·have e2:(((ps.length:Nat):Int)==2)=false:=by rw[beq_eq_false_iff_ne];omega
  simp only[e2,c9,if_true]
  walk_at"st"
  refine q0 ?_ _ x1
  rw[e0]
  rcases ps with _|⟨a,_|⟨b,_|⟨c,r⟩⟩⟩
  ·rfl
  ·rfl
  ·exact absurd rfl h2
  ·rfl
 obtain⟨a,b,rfl⟩:∃ a b,ps=[a,b]:=by
  rcases ps with _|⟨a,_|⟨b,_|⟨c,r⟩⟩⟩
  ·cases h2
  ·cases h2
  ·exact⟨a,b,rfl⟩
  ·simp at h2
 dsimp only at e0
 have la:=sm a (by simp)
 have lb:=sm b (by simp)
 simp only[az,l6]at hp1
 have e2:((([a,b].length:Nat):Int)==2)=true:=rfl
 simp only[e2,b5,ai,if_false]
 walk_at"ex"
 rw[dE hp1]
 walk_at"ex"
 refine⟨by omega,?_⟩
 by_cases hf:a.length=f
 rotate_left
 ·have e3:(((a.length:Nat):Int)==((f:Nat):Int))=false:=by rw[beq_eq_false_iff_ne];omega
  simp only[e3,c9,if_true]
  walk_at"st"
  exact q0 (by rw[e0,if_neg (fun z=>hf z.1)]) _ x1
 have e3:(((a.length:Nat):Int)==((f:Nat):Int))=true:=by rw[hf];simp
 simp only[e3,b5,ai,if_false]
 walk_at"ex"
 rw[dE hp1]
 walk_at"ex"
 refine⟨by omega,?_⟩
 refine zD (fun c=>D.str [c]) (fun c=>if(c==48||c==49)=true then none else some (D.str [c])) a [] aC (fun aA x a ha=>by cases ha) (fun c _ aA K y1 hK=>?_) (by simp only[aj];omega) fun aG x2=>?_
 ·walk_at"ex"
  rw[Du]
  have:=hK aA .refl
  cases h:(c==48||c==49)with
  |true=>rw[h]at this;simpa using this
  |false=>rw[h]at this;simpa using this
 rw[ba]
 obtain⟨ws,ew,lw⟩:=KN a
 have ew2:=OA a
 rw[ew]at ew2 ⊢
 refine bE (by simp only[aa];omega) fun q aQ x3 hq hq3=>?_
 walk_at"ex"
 refine bE (by simp only[aj];omega) fun r bY x4 hr hr4=>?_
 have pl:∀(t:Nat)(ws:List (List Nat)),bY t=some (.lst (ws.map .str))->plainS bY (.ref t):=fun t ws ht=>by
  refine⟨?_,dj _⟩
  simp only[gQ,ht,UK,(jN ws).1,g5,decide_eq_true_eq]
  exact(jN ws).2
 walk_at"ex"
 try rw[O7]
 refine⟨pl q ws (x4 _ _ hq3),pl r [] hr4,?_⟩
 rw[eq_nil (x4 _ _ hq3) hr4,ew2]
 have x14:Ext st bY:=((x1.trans x2).trans x3).trans x4
 cases h01:a.all fun c=>c==48||c==49 with
 |false =>
  walk_at"ex"
  try simp only[c9,if_true]
  walk_at"st"
  refine q0 ?_ _ x14
  rw[e0,if_neg (fun z=>by rw[h01]at z;cases z.2.1)]
 |true =>
 walk_at"ex"
 try simp only[b5,ai,if_false,aL]
 have hp4:=x4 _ _ (x3 _ _ (x2 _ _ hp1))
 walk_at"st"
 rw[dE hp4]
 walk_at"ex"
 refine⟨⟨by omega,by omega⟩,?_⟩
 rw[i1,lB]
 refine dD (fun j:Nat=>D.int (j:Nat)) (fun j=>.str (dg j)) (bc n) [] bY (fun aA x a ha=>by cases ha) (fun j hj aA K y1 hK=>?_) (by simp only[aj,i5];omega) fun dY x5=>?_
 ·have:=List.mem_range.mp hj
  walk_at"ex"
  refine⟨⟨by omega,by omega⟩,?_⟩
  rw[i1]
  exact hK aA .refl
 rw[ba]
 refine bE (by simp only[aa,i5];omega) fun u fQ x6 hu hu6=>?_
 have eu:(bc n).map (fun j=>D.str (dg j))=((bc n).map dg).map .str:=by rw[de];rfl
 rw[eu]at hu6
 walk_at"ex"
 rw[yL,cN hu6,EB]
 refine⟨AA,FG _,?_⟩
 have x16:Ext st fQ:=(x14.trans x5).trans x6
 by_cases hb:b∈(bc n).map dg
 rotate_left
 ·simp only[hb,decide_false,c9,if_true]
  walk_at"st"
  exact q0 (by rw[e0,if_neg (fun z=>hb z.2.2)]) _ x16
 simp only[hb,decide_true,b5,ai,if_false,aL]
 have hp6:=x6 _ _ (x5 _ _ hp4)
 walk_at"st"
 rw[dE hp6]
 walk_at"ex"
 refine⟨by omega,?_⟩
 refine dD (fun c=>D.str [c]) (fun c=>.bl (decide (c=49))) a [] fQ (fun aA x a ha=>by cases ha) (fun c _ aA K y1 hK=>?_) (by simp only[aj];omega) fun yT x7=>?_
 ·walk_at"ex"
  have ec:([c]==W "1")=decide (c=49):=by rw[w1,gq];simp
  rw[ec]
  exact hK aA .refl
 rw[ba]
 refine bE (by simp only[aa];omega) fun v eU x8 hv hv8=>?_
 walk_at"ex"
 rw[aE hv8]
 try simp only[cS]
 refine⟨by rw[aa];omega,?_⟩
 walk_at"ex"
 rw[dE (x8 _ _ (x7 _ _ hp6))]
 walk_at"ex"
 obtain⟨j,hj,rfl⟩:=List.mem_map.mp hb
 have hj:=List.mem_range.mp hj
 have d6:=X3 (n:=j) (by omega)
 refine⟨⟨d6.1,d6.2,R5 j⟩,?_⟩
 have:=q1 (a.map fun c=>decide (c=49),val (dg j)) (by rw[e0,if_pos ⟨hf,h01,hb⟩]) _ ((x16.trans x7).trans x8)
 unfold eO dM at this
 rw[de]at this
 exact this
end
noncomputable def wH (ip:Nat):Fn:=⟨3,7,[.iff (.or_ (.not_ (.isi (.v 0) [.str])) (.cmp .ne (.sl (.v 0) [(.neg (.c (.int 1)))] []) (.c (.str (W "\n"))))) [.ret (.c .non)] [],.asg (.nm 3) (.bX .split (.sl (.v 0) [] [(.neg (.c (.int 1)))]) [(.c (.str (W "\n")))]),.asg (.nm 4) (.lst []),.kJ (.nm 5) none [(.v 3)] [.asg (.nm 6) (.comp 1 [2,3] [0] true none [(.bX .split (.v 5) [(.c (.str (W " ")))])] [] (.call ip [(.v 0),(.v 1),(.bi .len [(.v 2)])])),.iff (.or_ (.cmp .in_ (.c .non) (.v 6)) (.or_ (.cmp .ne (.bi .len [(.v 6)]) (.ix (.lst [(.c (.int 2)),(.c (.int 4))]) (.bin .sub (.v 1) (.c (.int 1))))) (.cmp .gt (.bi .len [(.v 3)]) (.c (.int 64))))) [.ret (.c .non)] [],.ex (.bX .append (.v 4) [(.bi .tuple [(.v 6)])])],.ret (.bi .tuple [(.v 4)])]⟩
inductive Nu (m:gM)(F:Option D->Option D->Option D->Option D->St)(p:Nat)(aQ:aB)(rest:gM)(σ:St)(aA:aB):Prop
 |mk (done:gM)(o2 o3 o4 o5:Option D)(e0:m=done++rest)(e1:σ=F o2 o3 o4 o5)(e2:cC [p] aQ aA)(e3:aA p=some (.lst (done.map fun xs=>.str (jR xs++[10]))))
inductive Nw (xs:List Wy)(F:Option D->Option D->St)(p:Nat)(aQ:aB)(rest:List Wy)(σ:St)(aA:aB):Prop
 |mk (done:List Wy)(o4 o5:Option D)(e0:xs=done++rest)(e1:σ=F o4 o5)(e2:cC [p] aQ aA)(e3:aA p=some (.lst (done.map fun x=>.str (gO x))))
theorem ZA (b:Bool):eJ [D.str (W "0"),D.str (W "1")] (if b=true then 1 else 0)=some (.str [hZ b]):=by cases b<;>rfl
section
variable {G:Prog}{k i iw icm il isl ilt ip:Nat}{st:aB}{Q:VK}{E:XK}
theorem Y7 (h:G.fns i=some EM){m:gM}(hm:m.length<=100)(hb:∀ xs∈m,xs.length<=100/\∀ x∈xs,x.1.length<=10/\x.2<100)
  (hQ:∀ aA,Ext st aA->Q (.str (kD m)) aA):aI G (k+1) i [dO m] st Q E:=by
 have hL:aK=16777216:=rfl
 rw[aM h]
 simp only[EM,start,dO]
 refine⟨rfl,?_⟩
 walk_at"st"
 refine bE (by simp) fun p aC x1 hp hp1=>?_
 walk_at"st"
 refine jT gP (I:=Nu m (fun o2 o3 o4 o5=>[some (.tup (m.map gP)),some (.ref p),o2,o3,o4,o5]) p aC) (fun rest σ aA _ a ha=>by cases ha) (fun xs rest σ aA M I hM=>?_) (fun σ aA I=>?_) _ _ _ ⟨[],none,none,none,none,rfl,rfl,fun _ _ _ e=>e,hp1⟩
 ·obtain⟨done,o2,o3,o4,o5,e0,e1,e2,e3⟩:=I
  subst e1
  obtain⟨hxl,hxb⟩:=hb xs (by rw[e0];simp)
  have hdl:done.length<100:=by have:=congrArg jk e0;simp only[aq,ak]at this;omega
  simp only[gP]
  walk_at"st"
  refine bE (by simp) fun u bY x4 hu hu4=>?_
  have pu:p≠u:=fun z=>by rw[<-z]at hu;rw[e3]at hu;cases hu
  walk_at"st"
  refine jT eO (I:=Nw xs (fun o4 o5=>[some (.tup (m.map gP)),some (.ref p),some (.tup (xs.map eO)),some (.ref u),o4,o5]) u bY) (fun rest σ aA _ a ha=>by cases ha) (fun x qD σ fQ M2 J hM2=>?_) (fun σ fQ J=>?_) _ _ _ ⟨[],_,_,rfl,rfl,fun _ _ _ e=>e,hu4⟩
  ·obtain⟨dn,o4,o5,f0,f1,f2,f3⟩:=J
   subst f1
   obtain⟨b1,b2⟩:=hxb x (by rw[f0];simp)
   have hdn:dn.length<100:=by have:=congrArg jk f0;simp only[aq,ak]at this;omega
   simp only[eO,dM]
   walk_at"ex"
   walk_at"st"
   rw[aE f3]
   refine⟨True.intro,?_⟩
   refine dD D.bl (fun b=>.str [hZ b]) x.1 [] fQ (fun aA x a ha=>by cases ha) (fun b _ aA K y1 hK=>?_) (by simp only[aj];omega) fun yT x7=>?_
   ·walk_at"ex"
    refine bE (by show 2<=aK;decide) fun w eU x8 hw hw8=>?_
    walk_at"ex"
    rw[dE hw8,ZA]
    exact hK eU x8
   rw[ba]
   refine bE (by simp only[aa];omega) fun w eU x8 hw hw8=>?_
   walk_at"ex"
   rw[aE hw8]
   have e:x.1.map (fun b=>D.str [hZ b])=(x.1.map fun b=>[hZ b]).map .str:=by rw[de];rfl
   rw[e,iD]
   simp only[aX]
   rw[K1,nP,CU]
   have d2:=BB b2
   have es:((x.1.map fun b=>[hZ b]).map jk).sum=x.1.length:=by
    rw[de,show(List.length∘fun b=>[hZ b])=fun _=>1 from rfl,vZ];simp
   refine⟨by rw[es];simp;omega,by rw[CZ];simp only[aa,ak,aj];omega,⟨by omega,by omega⟩,?_⟩
   rw[i1]
   refine⟨by rw[CZ];simp only[aq,aa,ak,aj];omega,?_⟩
   have e:x.1.map hZ++W ">" ++ dg x.2=gO x:=by rw[CZ];unfold gO;simp
   rw[e]
   have f8:=x8 _ _ (x7 _ _ f3)
   rw[aE f8]
   refine⟨by rw[aa];omega,?_⟩
   simp only[aL]
   refine hM2 _ _ ⟨dn++[x],_,_,by rw[f0];simp,rfl,fun a o na e=>by rw[cR (by simpa using na)];exact x8 _ _ (x7 _ _ (f2 a o na e)),?_⟩
   rw[bS,dr];rfl
  ·obtain⟨dn,o4,o5,f0,f1,f2,f3⟩:=J
   subst f1
   rw[d7]at f0
   subst f0
   have p6:=f2 _ _ (by simpa using pu) (x4 _ _ e3)
   walk_at"st"
   rw[aE p6]
   refine⟨True.intro,?_⟩
   rw[aE f3]
   have e:xs.map (fun x=>D.str (gO x))=(xs.map gO).map .str:=by rw[de];rfl
   rw[e,iD]
   simp only[aX]
   rw[zQ]
   have h2:=pI (f:=fun x=>(gO x).length) (n:=13) (xs:=xs) fun x hx=>by have:=B1 (hxb x hx).2;have:=(hxb x hx).1;omega
   have h5:=wN (g:=10) hxb
   have h3:xs.length*13<=100*13:=g7 hxl (by omega)
   have h4:((xs.map gO).map jk).sum<=xs.length*13:=by rw[de];exact h2
   refine⟨by simp only[aa,ak,aj];omega,?_⟩
   rw[show cY [32] (xs.map gO)=jR xs from rfl,NF]
   refine⟨by simp only[ak,aj];omega,?_⟩
   rw[aE p6]
   refine⟨by rw[aa];omega,?_⟩
   simp only[aL]
   refine hM _ _ ⟨done++[xs],_,_,_,_,by rw[e0];simp,rfl,fun a o na e=>?_,?_⟩
   ·rw[cR (by simpa using na)]
    refine f2 a o (fun z=>?_) (x4 _ _ (e2 a o na e))
    simp only[bf]at z
    rw[z]at e na
    rw[e2 u o na e]at hu;cases hu
   ·rw[bS,dr];rfl
 ·obtain⟨done,o2,o3,o4,o5,e0,e1,e2,e3⟩:=I
  subst e1
  rw[d7]at e0
  subst e0
  walk_at"st"
  rw[aE e3]
  have e:m.map (fun xs=>D.str (jR xs++[10]))=(m.map fun xs=>jR xs++[10]).map .str:=by rw[de];rfl
  rw[e,iD]
  simp only[aX]
  rw[K1,nP]
  have h2:=pI (f:=fun xs:List Wy=>(jR xs++[10]).length) (n:=1500) (xs:=m) fun xs hx=>by
   have h5:=wN (g:=10) (hb xs hx).2
   have h3:xs.length*13<=100*13:=g7 (hb xs hx).1 (by omega)
   have:=(hb xs hx).1
   simp only[aq,ak,aj];omega
  have h3:m.length*1500<=100*1500:=g7 hm (by omega)
  have h4:((m.map fun xs=>jR xs++[10]).map jk).sum<=m.length*1500:=by rw[de];exact h2
  refine⟨by simp only[aa,aj];omega,?_⟩
  refine hQ _ (fun a o e=>e2 a o (fun z=>?_) (x1 _ _ e))
  simp only[bf]at z
  rw[z]at e
  rw[e]at hp;cases hp
end
noncomputable def vM:Option Wy->D
 |none=>.non
 |some x=>eO x
theorem FJ {g:List Nat->Option Wy}{st:aB}:∀{ws:List (List Nat)},bP g ws=none->((ws.map fun w=>vM (g w)).any fun d=>bO st d .non)=true
 |[],h=>by cases h
 |w::r,h=>by
  rw[az,j7]
  cases e:g w with
  |none=>rfl
  |some x =>
   have:bP g r=none:=by
    simp only[bP,e,dt,Option.map_eq_none_iff]at h;exact h
   rw[FJ this,Bool.or_true]
theorem GX {g:List Nat->Option Wy}{st:aB}:∀{ws:List (List Nat)}{xs:List Wy},bP g ws=some xs->(ws.map fun w=>vM (g w))=xs.map eO
 |[],xs,h=>by cases h;rfl
 |w::r,xs,h=>by
  simp only[bP,gz,cb]at h
  obtain⟨b,h1,bs',h2,rfl⟩:=h
  rw[az,h1,GX (st:=st) h2];rfl
theorem IP {st:aB}:∀ xs:List Wy,((xs.map eO).any fun d=>bO st d .non)=false
 |[]=>rfl
 |x::r=>by rw[az,j7,IP r];rfl
theorem QI {st:aB}(os:List (Option Wy)):dR st (os.map vM):=by
 have:bF (os.map vM)=true/\cF (os.map vM)<=2:=by
  induction os with
  |nil=>exact⟨rfl,dj _⟩
  |cons o r ih =>
   cases o with
   |none=>exact⟨by simp only[az,vM,bF,bB,ih.1,dm],by have:=ih.2;simp only[az,vM,cF,dF];omega⟩
   |some x =>
    have p:=zB x.1
    have d:=KI x.1
    exact⟨by simp only[az,bF,vM,eO,bB,p,ih.1,dm],by have:=ih.2;simp only[az,cF,vM,eO,dF];omega⟩
 exact⟨kY _ this.1,bz this.2 (by decide)⟩
theorem tG {α β:Type}{g:α->Option β}(bs:List α):∀ as:List α,bP g (as++bs)=(bP g as).bind fun xs=>(bP g bs).map (xs ++ ·)
 |[]=>by
  simp only[ba,bP,dt]
  cases bP g bs<;>rfl
 |a::as=>by
  simp only[jq,bP,tG bs as]
  cases g a with
  |none=>rfl
  |some x =>
   simp only[dt]
   cases bP g as with
   |none=>rfl
   |some xs =>
    simp only[dt,pe]
    cases bP g bs<;>rfl
theorem SW (T:List Nat):(cut T (some (-1)) none==[10])=decide (T.getLast? = some 10):=by
 unfold cut bM
 simp only
 rw[if_pos (by decide)]
 rcases List.eq_nil_or_concat T with rfl|⟨xs,c,rfl⟩
 ·rfl
 ·have e:((-1:Int)+((xs.concat c).length:Int)).toNat=xs.length:=by simp;omega
  rw[e,List.concat_eq_append,v7,Og]
  have e2:(xs++[c]).length-xs.length=1:=by simp
  rw[e2,gq]
  simp
inductive Nh (f n:Nat)(ls:List (List Nat))(F:Option D->Option D->St)(p:Nat)(aQ:aB)(rest:List (List Nat))(σ:St)(aA:aB):Prop
 |mk (done:List (List Nat))(ms:gM)(o5 o6:Option D)(e0:ls=done++rest)(eo:bP (zX f (2 ^ n) ls.length) done=some ms)(en:done=[]∨ls.length<=64)(e1:σ=F o5 o6)(e2:cC [p] aQ aA)(e3:aA p=some (.lst (ms.map gP)))
section
variable {G:Prog}{k i ip:Nat}{st:aB}{Q:VK}{E:XK}
theorem WD (h:G.fns i=some (wH ip))(hp:G.fns ip=some uP){T:List Nat}{f n:Nat}(hn:n=1∨n=2)(hT:T.length<=500000)(q0:rS f (2 ^ n) T=none->∀ aA,Ext st aA->Q .non aA)(q1:∀ m,rS f (2 ^ n) T=some m->∀ aA,Ext st aA->Q (dO m) aA):aI G (k+2) i [.str T,.int (n:Nat),.int (f:Nat)] st Q E:=by
 have hL:aK=16777216:=rfl
 rw[aM h]
 simp only[wH,start]
 refine⟨rfl,?_⟩
 walk_at"st"
 try simp only[b5,ai,if_false]
 walk_at"ex"
 refine⟨by omega,?_⟩
 rw[NF,SW]
 by_cases hl:T.getLast? = some 10
 rotate_left
 ·simp only[hl,decide_false,c9,if_true]
  walk_at"st"
  exact q0 (by unfold rS;rw[if_neg hl]) st .refl
 simp only[hl,decide_true,b5,ai,if_false,aL]
 walk_at"st"
 refine⟨by omega,?_⟩
 rw[FC]
 walk_at"ex"
 have dl:T.dropLast.length<=T.length:=by rw[gy];omega
 have sl:=og 10 T.dropLast
 have sm:=fun w (hw:w∈aW 10 T.dropLast)=>jX hw
 have sne:=pL 10 T.dropLast
 have em:rS f (2 ^ n) T=if(aW 10 T.dropLast).length<=64 then bP (zX f (2 ^ n) (aW 10 T.dropLast).length) (aW 10 T.dropLast)else none:=by unfold rS;rw[if_pos hl]
 rw[oV]
 generalize aW 10 T.dropLast=ls at sl sm sne em
 refine⟨by omega,bE (by rw[aa];omega) fun l aC x1 hl' hl1=>?_⟩
 walk_at"st"
 refine bE (by simp) fun p aG x2 hpn eZ=>?_
 have l2:=x2 _ _ hl1
 have lp:l≠p:=fun z=>by rw[z]at hl1;rw[hl1]at hpn;cases hpn
 walk_at"st"
 rw[aE l2]
 refine jT D.str (I:=Nh f n ls (fun o5 o6=>[some (.str T),some (.int (n:Nat)),some (.int (f:Nat)),some (.ref l),some (.ref p),o5,o6]) p aG) (fun rest σ aA I a ha=>?_) (fun s rest σ aA M I hM=>?_) (fun σ aA I=>?_) _ _ _ ⟨[],[],none,none,rfl,rfl,.inl rfl,rfl,fun _ _ _ e=>e,eZ⟩
 ·obtain⟨done,ms,o5,o6,e0,eo,en,e1,e2,e3⟩:=I
  simp only[bf]at ha
  subst ha
  rw[l2,e2 _ _ (by simpa using lp) l2]
 ·obtain⟨done,ms,o5,o6,e0,eo,en,e1,e2,e3⟩:=I
  subst e1
  have l3:=e2 _ _ (by simpa using lp) l2
  have hsl:=sm s (by rw[e0];simp)
  have wl:=og 32 s
  have wm:=fun w (hw:w∈aW 32 s)=>jX hw
  have mlen:=iC eo
  have x02:∀{aY},Ext aA aY->Ext st aY:=fun{aY} x a o e=>by
   refine x _ _ (e2 a o (fun z=>?_) (x2 _ _ (x1 _ _ e)))
   simp only[bf]at z
   rw[z]at e
   rw[x1 _ _ e]at hpn;cases hpn
  have edone:ls.length=done.length+(rest.length+1):=by rw[e0];simp
  walk_at"ex"
  walk_at"st"
  rw[zQ,oV]
  refine⟨by omega,bE (by rw[aa];omega) fun q bY x4 hq hq4=>?_⟩
  walk_at"ex"
  rw[aE hq4]
  have l4:=x4 _ _ l3
  refine dD D.str (fun w=>vM (pU f ls.length w)) (aW 32 s) [] bY (fun aY x a ha=>by simp only[bf]at ha;subst ha;rw[hq4,x _ _ hq4]) (fun w hwm aY K y1 hK=>?_) (by simp only[aj];omega) fun dY x5=>?_
  ·have:=wm w hwm
   walk_at"ex"
   rw[cN (y1 _ _ l4),aa]
   refine QT (k:=k) hp (by omega) (by omega) (fun hx fQ y6=>?_) fun x hx fQ y6=>?_
   ·have:=hK fQ y6;rw[hx]at this;exact this
   ·have:=hK fQ y6;rw[hx]at this;exact this
  rw[ba]
  have eS:zX f (2 ^ n) ls.length s=(bP (pU f ls.length) (aW 32 s)).bind fun xs=>if xs.length=2 ^ n then some xs else none:=rfl
  generalize aW 32 s=wds at wl wm eS
  refine bE (by rw[aa];omega) fun u fQ x6 hu hu6=>?_
  have x46:Ext aA fQ:=(x4.trans x5).trans x6
  have bad:zX f (2 ^ n) ls.length s=none->rS f (2 ^ n) T=none:=fun z=>by
   rw[em]
   split
   ·have:=tG (g:=zX f (2 ^ n) ls.length) (s::rest) done
    rw[<-e0]at this
    rw[this,eo,dt]
    simp only[bP,z,Option.bind_none,Option.map_none]
   ·rfl
  walk_at"st"
  rw[L6,cN hu6]
  have epl:dR fQ (wds.map fun w=>vM (pU f ls.length w)):=by
   have:=QI (st:=fQ) (wds.map (pU f ls.length))
   rw[de]at this;exact this
  refine⟨sO,epl,?_⟩
  cases hx:bP (pU f ls.length) wds with
  |none =>
   rw[FJ hx]
   walk_at"ex"
   try simp only[if_true]
   walk_at"st"
   exact q0 (bad (by rw[eS,hx];rfl)) _ (x02 x46)
  |some xs =>
   have hxl:=iC hx
   rw[GX (st:=fQ) hx]at hu6 ⊢
   rw[IP]
   walk_at"ex"
   try simp only[ai,if_false]
   rw[cN hu6,aa]
   refine bE (by show 2<=aK;decide) fun z yT x7 hz hz7=>?_
   walk_at"ex"
   rw[dE hz7]
   have ez:eJ [D.int 2,D.int 4] ((n:Int)-1)=some (.int ((2 ^ n:Nat):Int)):=by rcases hn with rfl|rfl<;>rfl
   rw[ez]
   simp only[aX]
   walk_at"ex"
   rw[hx,dt]at eS
   by_cases hw:xs.length=2 ^ n
   rotate_left
   ·have e3':(((xs.length:Nat):Int)==((2 ^ n:Nat):Int))=false:=by rw[beq_eq_false_iff_ne];omega
    simp only[e3',c9,if_true]
    walk_at"st"
    exact q0 (bad (by rw[eS,if_neg hw])) _ (x02 (x46.trans x7))
   have e3':(((xs.length:Nat):Int)==((2 ^ n:Nat):Int))=true:=by rw[hw];simp
   simp only[e3',b5,ai,if_false]
   walk_at"ex"
   rw[cN (x7 _ _ (x46 _ _ l3)),aa]
   by_cases h64:ls.length<=64
   rotate_left
   ·have e4:(64:Int)<(ls.length:Int):=by omega
    simp only[e4,decide_true,if_true]
    walk_at"st"
    exact q0 (by rw[em,if_neg h64]) _ (x02 (x46.trans x7))
   have e4:¬(64:Int)<(ls.length:Int):=by omega
   simp only[e4,decide_false,ai,if_false,aL]
   have p7:=x7 _ _ (x46 _ _ e3)
   walk_at"st"
   rw[aE p7]
   refine⟨True.intro,?_⟩
   rw[aE (x7 _ _ hu6)]
   try simp only[cS]
   refine⟨by rw[aa];omega,?_⟩
   rw[aE p7]
   refine⟨by rw[aa];omega,?_⟩
   simp only[aL]
   refine hM _ _ ⟨done++[s],ms++[xs],_,_,by rw[e0];simp,?_,.inr h64,rfl,fun a o na e=>by rw[cR (by simpa using na)];exact x7 _ _ (x46 _ _ (e2 a o na e)),?_⟩
   ·rw[tG,eo,dt]
    simp only[bP,eS,if_pos hw,dt,pe]
   ·rw[bS,dr];rfl
 ·obtain⟨done,ms,o5,o6,e0,eo,en,e1,e2,e3⟩:=I
  subst e1
  rw[d7]at e0
  subst e0
  walk_at"st"
  rw[aE e3]
  have mlen:=iC eo
  try simp only[cS]
  refine⟨by rw[aa];omega,?_⟩
  have h64:ls.length<=64:=en.resolve_left sne
  refine q1 ms (by rw[em,if_pos h64,eo]) _ fun a o e=>e2 a o (fun z=>?_) (x2 _ _ (x1 _ _ e))
  simp only[bf]at z
  rw[z]at e
  rw[x1 _ _ e]at hpn;cases hpn
end
noncomputable def EU:Fn:=⟨3,7,[.asg (.nm 3) (.bin .mod (.v 1) (.bin .add (.bi .len [(.v 0)]) (.c (.int 1)))),.asg (.nm 4) (.ix (.c (.str (W " ()\nabxyznotrdlamp0123456789-+<>.TF"))) (.bin .mod (.bin .fdiv (.v 1) (.c (.int 1000))) (.c (.int 35)))),.asg (.nm 5) (.bin .mod (.bin .fdiv (.v 1) (.c (.int 40000))) (.c (.int 6))),.iff (.cmp .eq (.v 5) (.c (.int 0))) [.ret (.bin .add (.bin .add (.sl (.v 0) [] [(.v 3)]) (.v 4)) (.sl (.v 0) [(.v 3)] []))] [],.iff (.cmp .eq (.v 5) (.c (.int 1))) [.ret (.bin .add (.sl (.v 0) [] [(.v 3)]) (.sl (.v 0) [(.bin .add (.v 3) (.c (.int 1)))] []))] [],.iff (.cmp .eq (.v 5) (.c (.int 2))) [.ret (.bin .add (.bin .add (.sl (.v 0) [] [(.v 3)]) (.v 4)) (.sl (.v 0) [(.bin .add (.v 3) (.c (.int 1)))] []))] [],.iff (.cmp .eq (.v 5) (.c (.int 3))) [.asg (.nm 6) (.bin .add (.v 3) (.bin .mod (.bin .fdiv (.v 1) (.c (.int 7))) (.c (.int 9)))),.ret (.bin .add (.sl (.v 0) [] [(.v 3)]) (.sl (.v 0) [(.v 6)] []))] [],.iff (.cmp .eq (.v 5) (.c (.int 4))) [.ret (.ix (.lst [(.bin .add (.v 0) (.v 0)),(.bin .add (.sl (.v 0) [(.v 3)] []) (.sl (.v 0) [] [(.v 3)])),(.bin .add (.c (.str (W " "))) (.v 0)),(.bin .add (.v 0) (.c (.str (W " "))))]) (.bin .mod (.v 1) (.c (.int 4))))] [],.ret (.ix (.bin .add (.v 2) (.lst [(.c .non),(.c (.int 5)),(.lst [(.v 0)]),(.c (.str (W "")))])) (.bin .mod (.v 1) (.bin .add (.bi .len [(.v 2)]) (.c (.int 4)))))]⟩
theorem rZ {α:Type}{T:List α}{j:Nat}:cut T none (some (j:Int))=T.take j:=by
 unfold cut bM
 simp only
 rw[if_neg (by omega),i1,kc,yg]
 by_cases h:j<=T.length
 ·rw[zj h]
 ·rw[y9 (by omega),n6,kn (by omega)]
theorem oP {α:Type}{T:List α}{j:Nat}:cut T (some (j:Int)) none=T.drop j:=by
 unfold cut bM
 simp only
 rw[if_neg (by omega),i1]
 by_cases h:j<=T.length
 ·rw[zj h,kn (by rw[fk];omega)]
 ·rw[y9 (by omega),f9 (bb _),List.take_nil,f9 (by omega)]
def Of (T:List Nat)(ms:List (List Nat))(x:List Nat):Prop:=x∈ms∨x.length<=2*T.length+1
section
variable {G:Prog}{k isp mo:Nat}{st:aB}{Q:VK}{E:XK}{T:List Nat}{ms:List (List Nat)}
theorem Df (h:G.fns isp=some EU)(hT:T.length<=100000)(hm:st mo=some (.lst (ms.map .str)))(hl:ms.length<=1000){c:Int}(hc:0<=c)
  (q1:∀ x aA,Ext st aA->Of T ms x->Q (.str x) aA)(q2:∀ aA,Ext st aA->Q .non aA)(q3:∀ aA,Ext st aA->Q (.int 5) aA)(q4:∀ p aA,Ext st aA->aA p=some (.lst [.str T])->Q (.ref p) aA):
  aI G (k+1) isp [.str T,.int c,.ref mo] st Q E:=by
 have hL:aK=16777216:=rfl
 rw[aM h]
 simp only[EU,start]
 refine⟨rfl,?_⟩
 walk_at"st"
 refine⟨by omega,by omega,?_⟩
 have a0:0<=c % ((T.length:Int)+1):=gu _ (by omega)
 have a1:c % ((T.length:Int)+1)<(T.length:Int)+1:=fy _ (by omega)
 obtain⟨a,ea⟩:∃ a:Nat,c % ((T.length:Int)+1)=(a:Int):=⟨(c % ((T.length:Int)+1)).toNat,by omega⟩
 rw[ea]at a0 a1 ⊢
 have la:a<=T.length:=by omega
 walk_at"st"
 refine⟨⟨by decide,by decide⟩,by decide,by decide,?_⟩
 have b0:0<=c / 1000 % 35:=gu _ (by omega)
 have b1:c / 1000 % 35<35:=fy _ (by omega)
 obtain⟨b,eb⟩:∃ b:Nat,c / 1000 % 35=(b:Int):=⟨(c / 1000 % 35).toNat,by omega⟩
 rw[eb]at b0 b1 ⊢
 have lb:b<(W " ()\nabxyznotrdlamp0123456789-+<>.TF").length:=by
  have:(W " ()\nabxyznotrdlamp0123456789-+<>.TF").length=35:=by decide
  omega
 rw[iV lb,bw lb]
 simp only[aX]
 generalize (W " ()\nabxyznotrdlamp0123456789-+<>.TF")[b]=sn
 walk_at"st"
 refine⟨⟨by decide,by decide⟩,by decide,?_⟩
 have w0:0<=c / 40000 % 6:=gu _ (by omega)
 have w1:c / 40000 % 6<6:=fy _ (by omega)
 generalize c / 40000 % 6=w at w0 w1
 have lt:(T.take a).length<=T.length:=by rw[jo];omega
 have ld:∀ j,(T.drop j).length<=T.length:=fun j=>by rw[fk];omega
 have lta:(T.take a).length+(T.drop a).length=T.length:=by rw[jo,fk];omega
 walk_at"st"
 by_cases e:w=0
 ·subst e
  simp only[beq_self_eq_true,if_true]
  walk_at"st"
  rw[rZ,oP]
  refine⟨by omega,by(try simp only[ak,aj]);omega,by omega,by simp only[aq,ak,aj];omega,?_⟩
  exact q1 _ st .refl (.inr (by simp only[aq,ak,aj];omega))
 simp only[show(w==0)=false from beq_eq_false_iff_ne.mpr e,ai,if_false,aL]
 walk_at"st"
 have ej:(a:Int)+1=((a+1:Nat):Int):=by omega
 by_cases e:w=1
 ·subst e
  simp only[beq_self_eq_true,if_true]
  walk_at"st"
  rw[ej,rZ,oP]
  have:=ld (a+1)
  refine⟨by omega,by omega,by omega,?_⟩
  exact q1 _ st .refl (.inr (by simp only[aq];omega))
 simp only[show(w==1)=false from beq_eq_false_iff_ne.mpr e,ai,if_false,aL]
 walk_at"st"
 by_cases e:w=2
 ·subst e
  simp only[beq_self_eq_true,if_true]
  walk_at"st"
  rw[ej,rZ,oP]
  have:=ld (a+1)
  have d3:(T.drop (a+1)).length<=(T.drop a).length:=by rw[fk,fk];omega
  refine⟨by omega,by(try simp only[ak,aj]);omega,by omega,by simp only[aq,ak,aj];omega,?_⟩
  exact q1 _ st .refl (.inr (by simp only[aq,ak,aj];omega))
 simp only[show(w==2)=false from beq_eq_false_iff_ne.mpr e,ai,if_false,aL]
 walk_at"st"
 by_cases e:w=3
 ·subst e
  simp only[beq_self_eq_true,if_true]
  walk_at"st"
  refine⟨⟨by decide,by decide⟩,by decide,?_⟩
  have g0:0<=c / 7 % 9:=gu _ (by omega)
  obtain⟨g,eg⟩:∃ g:Nat,(a:Int)+c / 7 % 9=(g:Int):=⟨((a:Int)+c / 7 % 9).toNat,by omega⟩
  rw[eg]
  walk_at"st"
  rw[rZ,oP]
  have:=ld g
  refine⟨by omega,by omega,by omega,?_⟩
  exact q1 _ st .refl (.inr (by simp only[aq];omega))
 simp only[show(w==3)=false from beq_eq_false_iff_ne.mpr e,ai,if_false,aL]
 walk_at"st"
 by_cases e:w=4
 ·subst e
  simp only[beq_self_eq_true,if_true]
  walk_at"st"
  rw[rZ,oP]
  refine⟨by omega,by omega,by omega,by omega,by rw[zQ];simp only[ak,aj];omega,by rw[zQ];simp only[ak,aj];omega,?_⟩
  refine bE (by show 4<=aK;decide) fun p aC x1 hp hp1=>?_
  walk_at"ex"
  refine⟨by decide,?_⟩
  rw[dE hp1,zQ]
  have f0:0<=c % 4:=gu _ (by omega)
  have f1:c % 4<4:=fy _ (by omega)
  obtain z|z|z|z:c % 4=0∨c % 4=1∨c % 4=2∨c % 4=3:=by omega
  all_goals rw[z]
  ·exact q1 _ aC x1 (.inr (by simp only[aq];omega))
  ·exact q1 _ aC x1 (.inr (by simp only[aq];omega))
  ·exact q1 _ aC x1 (.inr (by simp only[aq,ak,aj];omega))
  ·exact q1 _ aC x1 (.inr (by simp only[aq,ak,aj];omega))
 simp only[show(w==4)=false from beq_eq_false_iff_ne.mpr e,ai,if_false,aL]
 walk_at"st"
 refine bE (by show 1<=aK;decide) fun p aC x1 hp hp1=>?_
 walk_at"ex"
 refine bE (by show 4<=aK;decide) fun q aG x2 hq hq2=>?_
 walk_at"ex"
 rw[aE (x2 _ _ (x1 _ _ hm)),aE hq2]
 refine bE (by simp only[aq,aa,ak,aj];omega) fun u aQ x3 hu hu3=>?_
 walk_at"ex"
 rw[cN (x3 _ _ (x2 _ _ (x1 _ _ hm)))]
 simp only[aa]
 refine⟨by omega,?_⟩
 rw[dE hu3]
 have f0:0<=c % ((ms.length:Int)+4):=gu _ (by omega)
 have f1:c % ((ms.length:Int)+4)<(ms.length:Int)+4:=fy _ (by omega)
 obtain⟨g,eg⟩:∃ g:Nat,c % ((ms.length:Int)+4)=(g:Int):=⟨(c % ((ms.length:Int)+4)).toNat,by omega⟩
 rw[eg]at f0 f1 ⊢
 rw[iV (by simp only[aq,aa,ak,aj];omega)]
 have x13:Ext st aQ:=(x1.trans x2).trans x3
 by_cases hg:g<ms.length
 ·rw[dh (by simpa using hg),di,bw hg]
  exact q1 _ aQ x13 (.inl (ub hg))
 ·rw[ei (by simpa using hg),aa]
  obtain z|z|z|z:g-ms.length=0∨g-ms.length=1∨g-ms.length=2∨g-ms.length=3:=by omega
  all_goals rw[z]
  ·exact q2 aQ x13
  ·exact q3 aQ x13
  ·exact q4 p aQ x13 (x3 _ _ (x2 _ _ hp1))
  ·exact q1 _ aQ x13 (.inr (by show 0<=_;omega))
end
noncomputable def HL (ibo ilm imt iwr ire isp im ide:Nat):Fn:=⟨1,7,[.asg (.nm 1) (.call ibo [(.v 0),(.c (.int 50)),(.c (.int 1)),(.c (.int 1))]),.asg (.nm 2) (.call ilm [(.v 0),(.c (.int 2)),(.bi .len [(.ix (.v 1) (.c (.int 0)))]),(.bi .len [(.ix (.v 1) (.c (.int 1)))]),(.c (.int 12))]),.asg (.nm 3) (.call imt [(.v 1),(.v 2)]),.iff (.or_ (.not_ (.isi (.v 3) [.str])) (.or_ (.cmp .ne (.v 3) (.call iwr [(.v 2)])) (.cmp .ne (.call ire [(.v 1),(.v 3)]) (.v 2)))) [.ret (.c (.bl false))] [],.asg (.nm 4) (.lst [(.bin .add (.v 3) (.sl (.v 3) [] [(.c (.int 4))])),(.sl (.v 3) [] [(.neg (.c (.int 1)))]),(.bin .mul (.v 3) (.c (.int 60))),(.bin .add (.v 3) (.c (.str (W "\n"))))]),.asg (.nm 3) (.call isp [(.v 3),(.call im [(.v 0),(.c (.int 0)),(.bin .pow (.c (.int 10)) (.c (.int 7)))]),(.v 4)]),.asg (.nm 5) (.c .non),.tryy [.asg (.nm 5) (.callx ire [(.v 1),(.v 3)])] 4 (some 6) [.iff (.or_ (.not_ (.isi (.v 6) [.err 1])) (.or_ (.not_ (.isi (.v 6) [.err 0])) (.isi (.v 6) [.err 3]))) [.ret (.c (.bl false))] []],.ret (.cmp .eq (.v 5) (.call ide [(.v 3),(.bi .len [(.ix (.v 1) (.c (.int 0)))]),(.bi .len [(.ix (.v 1) (.c (.int 1)))])]))]⟩
theorem He {C:aS}{sub:Nat->Nat->Bool}{b h:List Sx}{c:Nat}{n:Option Nat}{P:eB}{σ:St}{st:aB}:wpS C sub (.tryy b c n h) P σ st=bU C sub b (GL sub c n P fun P' σ' aA=>bU nD sub h P' σ' aA) σ st:=by simp only[wpS]
theorem oM {G:Prog}{j k:Nat}(h:j<=k){f:Nat}{ds:List D}{st:aB}{Q:VK}{E:XK}(w:aI G j f ds st Q E):aI G k f ds st Q E:=kX G h f ds st _ _ _ _ (fun _ _ z=>z) (fun _ _ z=>z) w
theorem VV {m:gM}{n:Nat}(hm:m.length<=n)(hb:∀ xs∈m,xs.length<=4/\∀ x∈xs,x.1.length<=2/\x.2<100):(kD m).length<=n*25:=by
 unfold kD
 rw[pf,de]
 have h2:=pI (f:=fun xs:List Wy=>(jR xs++[10]).length) (n:=25) (xs:=m) fun xs hx=>by
  have h5:=wN (g:=2) (hb xs hx).2
  have:=(hb xs hx).1
  simp only[aq,ak,aj];omega
 exact bz h2 (g7 hm (bb _))
theorem LL (m:gM):bB (dO m)=true:=by
 have h:∀ m:gM,bF (m.map gP)=true:=fun m=>by
  induction m with
  |nil=>rfl
  |cons xs r ih =>
   have h2:∀ xs:List Wy,bF (xs.map eO)=true:=fun xs=>by
    induction xs with
    |nil=>rfl
    |cons x r ih =>
     have p:=zB x.1
     simp only[az,bF,eO,bB,p,ih,dm]
   simp only[az,bF,gP,bB,h2 xs,ih,dm]
 simp only[dO,bB,h m]
section
variable {G:Prog}{k i ict ini iwi isi ili ima ich ibk iw ilt isl il isd ise ir iwy ist ipl irm imt icm:Nat}{st:aB}{Q:VK}{E:XK}{b:Bk}{T:List Nat}
theorem R3 (F:RM G irm ich ibk ili ict isi iwi ini ima isd ise ir iwy ist ipl iw ilt isl il)(h:G.fns imt=some (AI iw icm))(hcm:G.fns icm=some (rC ich ima))(hb:xF G ibk 13 b)(B:b.Ok){m:gM}(O:OY b.fs.length b.gs.length m)(hQ:∀ aA,Ext st aA->Q (.str (kD m)) aA):aI G (k+16) imt [b.d,dO m] st Q E:=by
 rw[aM h]
 simp only[AI,start]
 refine⟨rfl,?_⟩
 have f2:=B.f2
 have g2:=B.g2
 have p4:2 ^ b.fs.length<=4:=e8 (n:=2) (by decide) (by omega:b.fs.length<=2)
 walk_at"st"
 refine LK (k:=k) hcm F.c hb F.ma F.sd F.se F.wy F.rr F.st F.pl B O fun aC x1=>?_
 walk_at"ex"
 refine PD (k:=k+12) F.wr F.lt F.sl F.lm (g:=2) (by omega) (by have:=O.l2;omega) (fun xs hx=>⟨by have:=O.sl xs hx;omega,fun x hx'=>⟨by have:=O.wf xs hx x hx';omega,by have:=O.wn xs hx x hx';have:=O.l2;omega⟩⟩) fun aG x2=>hQ aG (x1.trans x2)
theorem S2 (F:RM G irm ich ibk ili ict isi iwi ini ima isd ise ir iwy ist ipl iw ilt isl il)(hb:xF G ibk 13 b){x:D}(hx:∀ aA,Ext st aA->∀ P:Bool->Prop,P false->fS G.sub x aA .str P)(hE:∀ aA,Ext st aA->E 4 aA):aI G (k+20) irm [b.d,x] st Q E:=by
 rw[aM F.r]
 simp only[AQ,start]
 refine⟨rfl,?_⟩
 walk_at"st"
 refine tF (k:=k+5) F.c hb fun aC x1=>?_
 walk_at"st"
 rw[aM F.li]
 simp only[pC,start]
 refine⟨rfl,?_⟩
 walk_at"st"
 rw[aM F.ct]
 simp only[wL,start]
 refine⟨rfl,?_⟩
 walk_at"st"
 refine hx _ x1 _ ?_
 simp only[↓FD,c9,if_true]
 walk_at"st"
 exact hE _ x1
variable {ip inm dB is ipr im ic is8 ilm ilw isp ide ila ibo:Nat}
theorem Ie (hl:G.fns ila=some (HL ibo ilm imt ilw irm isp im ide))(hbo:G.fns ibo=some (xC inm dB is ipr))(kF:G.fns inm=some (AW dB))(hpr:G.fns ipr=some (xM is dB))(hs:G.fns is=some (mM dB is))(hn:G.fns dB=some (pW im))(hm:G.fns im=some (kM ic))(hc:G.fns ic=some lP)(hlm:G.fns ilm=some (sH im is8))(h8:G.fns is8=some uL)
  (F:RM G irm ich ibk ili ict isi iwi ini ima isd ise ir iwy ist ipl iw ilt isl il)(hmt:G.fns imt=some (AI iw icm))(hcm:G.fns icm=some (rC ich ima))(hb:∀ b:Bk,b.Ok->lE b.says<aK->(∀ x∈b.says,aO x<=60)->(iI b.says []).length<=4->xF G ibk 13 b)
  (hlw:G.fns ilw=some EM)(hsp:G.fns isp=some EU)(hde:G.fns ide=some (wH ip))(hip:G.fns ip=some uP)
  (s44:G.sub 4 4=true)(s41:G.sub 4 1=true)(s40:G.sub 4 0=true)(s43:G.sub 4 3=false)(ns:List Int){st:aB}{Q:VK}{E:XK}(hQ:∀ aA,Q (.bl true) aA):aI G (99+1) ila [.bD (ns.map .int)] st Q E:=by
 have hL:aK=16777216:=rfl
 rw[aM hl]
 simp only[HL,start]
 refine⟨rfl,?_⟩
 walk_at"st"
 refine VA (k:=92) hbo kF hpr hs hn hm hc (by decide) (by decide) (by decide) (by decide) fun b aC DR x1=>?_
 obtain⟨F1,F2,F3,F4⟩:=O3 DR (by decide)
 have hB:=hb b DR.ok (by omega) F2 F3
 have f1:=DR.ok.f1
 have f2:=DR.ok.f2
 have g2:=DR.ok.g2
 have hd0:b.d=.tup [.tup (b.fs.map .str),.tup (b.gs.map .str),.tup (b.ps.map toD),.tup (b.ms.map toD),.tup (b.ws.map fun w=>.tup [.int w.1,toD w.2])]:=rfl
 walk_at"ex"
 rw[hd0]
 walk_at"st"
 rw[aa,aa]
 refine JR (k:=96) hlm hm hc h8 (by decide) (by decide) (by decide) f2 g2 fun m aG x2 O lm=>?_
 rw[<-hd0]
 have p4:2 ^ b.fs.length<=4:=e8 (n:=2) (by decide) (by omega:b.fs.length<=2)
 have p1:1<=2 ^ b.fs.length:=Ql (by decide)
 have l64:=O.l2
 have mb:∀ xs∈m,xs.length<=4/\∀ x∈xs,x.1.length<=2/\x.2<100:=fun xs hx=>⟨by have:=O.sl xs hx;omega,fun x hx'=>⟨by have:=O.wf xs hx x hx';omega,by have:=O.wn xs hx x hx';omega⟩⟩
 have l12:m.length<=12:=by omega
 have tl:=VV l12 mb
 have rd:wA b.gs.length (2 ^ b.fs.length) (kD m)=some m:=by rw[M1 p1,TF p1 (Y0 O)]
 have eqm:∀(st:aB)(m:gM),plainS st (dO m)/\bO st (dO m) (dO m)=true:=fun st m=>⟨LV st m,KW _ (LL m)⟩
 have hn12:b.fs.length=1∨b.fs.length=2:=by omega
 have fin:∀(d:D)(R:Option gM)(o4:Option D)(aC:aB),(∀(Q':VK)(E':XK),(∀ m,R=some m->∀ aA,Ext aC aA->Q' (dO m) aA)->(R=none->∀ aA,Ext aC aA->E' 4 aA)->aI G 99 irm [b.d,d] aC Q' E') ->
   (∀(aG:aB)(Q':VK)(E':XK),Ext aC aG->(∀ m,R=some m->∀ aA,Ext aG aA->Q' (dO m) aA)->(R=none->∀ aA,Ext aG aA->Q' .non aA)->aI G 99 ide [d,.int (b.fs.length:Nat),.int (b.gs.length:Nat)] aG Q' E') ->
   bU (aI G 99) G.sub [.asg (.nm 5) (.c .non),.tryy [.asg (.nm 5) (.callx irm [(.v 1),(.v 3)])] 4 (some 6) [.iff (.or_ (.not_ (.isi (.v 6) [.err 1])) (.or_ (.not_ (.isi (.v 6) [.err 0])) (.isi (.v 6) [.err 3]))) [.ret (.c (.bl false))] []],.ret (.cmp .eq (.v 5) (.call ide [(.v 3),(.bi .len [(.ix (.v 1) (.c (.int 0)))]),(.bi .len [(.ix (.v 1) (.c (.int 1)))])]))] ⟨fun _ aA=>Q .non aA,Q,fun _ _=>False,fun _ _=>False,fun c _ aA=>E c aA⟩ [some (.bD (ns.map .int)),some b.d,some (dO m),some d,o4,none,none] aC:=by
  intro d R o4 aC hr hdu
  walk_at"st"
  try dsimp only
  refine gA ?_
  rw[He]
  walk_at"st"
  refine hr _ _ (fun m' em aG x2=>?_) fun em aG x2=>?_
  ·simp only[aL,GL]
   walk_at"st"
   rw[hd0]
   walk_at"ex"
   rw[aa,aa]
   refine hdu _ _ _ x2 (fun m2 em2 aQ x3=>?_) fun em2=>?_
   ·rw[em]at em2;cases em2
    obtain⟨z1,z2⟩:=eqm aQ m'
    refine⟨z1,z1,?_⟩
    rw[z2];exact hQ aQ
   ·rw[em]at em2;cases em2
  ·simp only[GL,s44,if_true,FQ,cv,df]
   walk_at"st"
   simp only[s41,s40,s43,b5,ai,if_false,aL]
   try simp only[cv,df]
   walk_at"st"
   rw[hd0]
   walk_at"ex"
   rw[aa,aa]
   refine hdu _ _ _ x2 (fun m2 em2 aQ x3=>?_) fun em2 aQ x3=>?_
   ·rw[em]at em2;cases em2
   ·rw[show bO aQ .non .non=true from by simp only[bO]]
    exact⟨sO,hQ aQ⟩
 walk_at"st"
 refine R3 (k:=83) F hmt hcm hB DR.ok O fun aQ x3=>?_
 walk_at"st"
 try simp only[b5,ai,if_false]
 walk_at"ex"
 refine Y7 (k:=98) hlw (by omega) (fun xs hx=>⟨by have:=(mb xs hx).1;omega,fun x hx'=>by have:=(mb xs hx).2 x hx';omega⟩) fun bY x4=>?_
 walk_at"ex"
 try simp only[beq_self_eq_true,b5,ai,if_false]
 walk_at"ex"
 refine oM (j:=79+20) (by omega) (GK F hB DR.ok (by omega) (fun m' hm' dY x5=>?_) fun hx=>?_)
 rotate_left
 ·rw[rd]at hx;cases hx
 rw[rd]at hm'
 cases hm'
 walk_at"ex"
 obtain⟨z1,z2⟩:=eqm dY m
 refine⟨z1,z1,?_⟩
 rw[z2]
 simp only[b5,ai,if_false,aL]
 generalize hT:kD m=T at tl rd
 have r60:((ao (Pe 60) T).flatten).length<=18000:=by
  rw[pf,xq,uq]
  show 60*T.length<=18000
  omega
 walk_at"st"
 rw[FC,NF]
 rw[show(4:Int)=((4:Nat):Int)from rfl,rZ]
 have tk:(T.take 4).length<=T.length:=by rw[jo];omega
 have td:T.dropLast.length<=T.length:=by rw[gy];omega
 refine⟨by omega,by omega,by omega,⟨by omega,by decide,by decide⟩,by simp only[ak,aj];omega,?_⟩
 refine bE (by show 4<=aK;decide) fun mo fQ x6 hmo hmo6=>?_
 walk_at"st"
 refine⟨by decide,?_⟩
 refine oM (j:=0+2) (by omega) (sR hm hc (by decide) (by decide) fun yT x7=>?_)
 walk_at"ex"
 have hm7:yT mo=some (.lst ([T++T.take 4,T.dropLast,(ao (Pe 60) T).flatten,T++[10]].map .str)):=x7 _ _ hmo6
 have msb:∀ x∈[T++T.take 4,T.dropLast,(ao (Pe 60) T).flatten,T++[10]],x.length<=18000:=by
  intro x hx
  simp only[bh,bo,or_false]at hx
  rcases hx with rfl|rfl|rfl|rfl
  ·rw[aq];omega
  ·omega
  ·exact r60
  ·simp only[aq,ak,aj];omega
 have no:∀(d:D)(st:aB)(o4:Option D),(∀ aA,Ext st aA->∀ P:Bool->Prop,P false->fS G.sub d aA .str P)->bU (aI G 99) G.sub [.asg (.nm 5) (.c .non),.tryy [.asg (.nm 5) (.callx irm [(.v 1),(.v 3)])] 4 (some 6) [.iff (.or_ (.not_ (.isi (.v 6) [.err 1])) (.or_ (.not_ (.isi (.v 6) [.err 0])) (.isi (.v 6) [.err 3]))) [.ret (.c (.bl false))] []],.ret (.cmp .eq (.v 5) (.call ide [(.v 3),(.bi .len [(.ix (.v 1) (.c (.int 0)))]),(.bi .len [(.ix (.v 1) (.c (.int 1)))])]))] ⟨fun _ aA=>Q .non aA,Q,fun _ _=>False,fun _ _=>False,fun c _ aA=>E c aA⟩ [some (.bD (ns.map .int)),some b.d,some (dO m),some d,o4,none,none] st:=fun d st o4 hd=>by
  refine fin d none o4 st (fun Q' E' _ hE=>oM (j:=79+20) (by omega) (S2 F hB hd (hE rfl))) fun aG Q' E' x2 _ hE=>?_
  rw[aM hde]
  simp only[wH,start]
  refine⟨rfl,?_⟩
  walk_at"st"
  refine hd _ x2 _ ?_
  simp only[↓FD,c9,if_true]
  walk_at"st"
  exact hE rfl aG .refl
 refine oM (j:=98+1) (by omega) (Df hsp (by omega) hm7 (by show 4<=1000;decide) (eV (by decide)) (fun x eU x8 ox=>?_) (fun eU x8=>?_) (fun eU x8=>?_) fun p eU x8 hp=>?_)
 ·have bx:x.length<=18000:=by
   rcases ox with ox|o1
   ·exact msb x ox
   ·omega
  have ag:=M1 (f:=b.gs.length) p1 x
  refine fin _ (rS b.gs.length (2 ^ b.fs.length) x) _ _ (fun Q' E' hQ' hE'=>?_) fun wK Q' E' x9 hQ' hE'=>?_
  ·exact oM (j:=79+20) (by omega) (GK F hB DR.ok (by omega) (fun m' hm' wK x9=>hQ' m' (ag▸hm') wK x9) fun hx wK x9=>hE' (ag▸hx) wK x9)
  ·exact oM (j:=97+2) (by omega) (WD hde hip hn12 (by omega) (fun hx aA x=>hE' hx aA x) fun m' hm' aA x=>hQ' m' hm' aA x)
 ·exact no _ _ _ fun aA _ P p=>by simpa only[fS]using p
 ·exact no _ _ _ fun aA _ P p=>by simpa only[fS]using p
 ·exact no _ _ _ fun aA x P q=>by simp only[fS];rw[cN (x _ _ hp)];exact q
end
end L3
end
end
namespace L3
open PySem PySem.Spec PyProof.Rows L2
noncomputable def g_LETTERS:D:=(.str (W "abcdefghijklmnopqrstuvwxyz"))
noncomputable def g_LONGEST_NAME:D:=(.int 8)
noncomputable def g_NO_NAMES:D:=(.tup [(.str (W "yes")),(.str (W "no")),(.str (W "not")),(.str (W "and")),(.str (W "or")),(.str (W "then")),(.str (W "same")),(.str (W "before")),(.str (W "once")),(.str (W "sofar")),(.str (W "since")),(.str (W "foe")),(.str (W "friend")),(.str (W "promise")),(.str (W "must")),(.str (W "wish"))])
noncomputable def g_DEEPEST:D:=(.int 8)
noncomputable def g_SAYINGS_WITHIN:D:=(.cH [(.str (W "yes")),(.str (W "no")),(.str (W "not")),(.str (W "before")),(.str (W "once")),(.str (W "sofar")),(.str (W "and")),(.str (W "or")),(.str (W "then")),(.str (W "same")),(.str (W "since"))] [(.int 0),(.int 0),(.int 1),(.int 1),(.int 1),(.int 1),(.int 2),(.int 2),(.int 2),(.int 2),(.int 2)])
noncomputable def g_PAST_WORDS:D:=(.tup [(.str (W "before")),(.str (W "once")),(.str (W "sofar")),(.str (W "since"))])
noncomputable def g_MOST_LAMPS:D:=(.int 2)
noncomputable def g_MOST_PROMISES:D:=(.int 3)
noncomputable def g_MOST_MUSTS:D:=(.int 3)
noncomputable def g_MOST_WISHES:D:=(.int 5)
noncomputable def g_HIGHEST_PRICE:D:=(.int 99)
noncomputable def g_MOST_PIECES:D:=(.int 4)
noncomputable def g_MOST_STANDS:D:=(.int 64)
noncomputable def g_DIGITS:D:=(.str (W "0123456789"))
noncomputable def g_MOST_DIGITS:D:=(.int 2)
noncomputable abbrev vV:Nat:=0
noncomputable abbrev qH:Nat:=1
noncomputable abbrev jS:Nat:=2
noncomputable abbrev kQ:Nat:=3
noncomputable abbrev yH:Nat:=4
noncomputable abbrev gZ:Nat:=5
noncomputable abbrev yF:Nat:=6
noncomputable abbrev nS:Nat:=7
noncomputable abbrev nW:Nat:=8
noncomputable abbrev rD:Nat:=9
noncomputable abbrev AL:Nat:=10
noncomputable abbrev D1:Nat:=11
noncomputable abbrev vL:Nat:=12
noncomputable abbrev vB:Nat:=13
noncomputable abbrev wB:Nat:=14
noncomputable abbrev vR:Nat:=15
noncomputable abbrev vP:Nat:=16
noncomputable abbrev tV:Nat:=17
noncomputable abbrev AB:Nat:=18
noncomputable abbrev HI:Nat:=19
noncomputable abbrev AD:Nat:=20
noncomputable abbrev oO:Nat:=21
noncomputable abbrev oC:Nat:=22
noncomputable abbrev qV:Nat:=23
noncomputable abbrev vS:Nat:=24
noncomputable abbrev AS:Nat:=25
noncomputable abbrev xY:Nat:=26
noncomputable abbrev uQ:Nat:=27
noncomputable abbrev vN:Nat:=28
noncomputable abbrev kH:Nat:=29
noncomputable abbrev rV:Nat:=30
noncomputable abbrev IF:Nat:=31
noncomputable abbrev A3:Nat:=32
noncomputable abbrev qX:Nat:=33
noncomputable abbrev qY:Nat:=34
noncomputable abbrev lO:Nat:=35
noncomputable abbrev fR:Nat:=36
noncomputable abbrev uH:Nat:=37
noncomputable abbrev gJ:Nat:=38
noncomputable abbrev qL:Nat:=39
noncomputable abbrev xX:Nat:=40
noncomputable abbrev qB:Nat:=41
noncomputable abbrev rA:Nat:=42
noncomputable abbrev uF:Nat:=43
noncomputable abbrev rE:Nat:=44
noncomputable abbrev yC:Nat:=45
noncomputable abbrev BE:Nat:=46
noncomputable abbrev S9:Nat:=47
noncomputable def DL:Fn:=⟨1,1,[.iff (.or_ (.not_ (.isi (.v 0) [.str])) (.cmp .in_ (.v 0) (.c g_NO_NAMES))) [.ret (.c (.bl false))] [],.ret (.and_ (.chain .le .le (.c (.int 1)) (.bi .len [(.v 0)]) (.c g_LONGEST_NAME)) (.bi .all [(.comp 1 [] [0] true none [(.v 0)] [] (.cmp .in_ (.v 0) (.c g_LETTERS)))]))]⟩
noncomputable def yA:Fn:=⟨2,2,[.ret (.call jS [(.v 0),(.v 1),(.c g_DEEPEST)])]⟩
noncomputable def nA:Fn:=⟨3,3,[.iff (.or_ (.cmp .lt (.v 2) (.c (.int 1))) (.or_ (.not_ (.isi (.v 1) [.tuple])) (.or_ (.cmp .lt (.bi .len [(.v 1)]) (.c (.int 1))) (.not_ (.isi (.ix (.v 1) (.c (.int 0))) [.str]))))) [.ret (.c (.bl false))] [],.iff (.cmp .eq (.ix (.v 1) (.c (.int 0))) (.c (.str (W "lamp")))) [.ret (.and_ (.cmp .eq (.bi .len [(.v 1)]) (.c (.int 2))) (.and_ (.call vV [(.ix (.v 1) (.c (.int 1)))]) (.cmp .in_ (.ix (.v 1) (.c (.int 1))) (.v 0))))] [],.iff (.or_ (.cmp .gS (.ix (.v 1) (.c (.int 0))) (.c g_SAYINGS_WITHIN)) (.cmp .ne (.bi .len [(.v 1)]) (.bin .add (.c (.int 1)) (.ix (.c g_SAYINGS_WITHIN) (.ix (.v 1) (.c (.int 0))))))) [.ret (.c (.bl false))] [],.ret (.bi .all [(.comp 1 [0,2] [0] true none [(.sl (.v 1) [(.c (.int 1))] [])] [] (.call jS [(.v 1),(.v 0),(.bin .sub (.v 2) (.c (.int 1)))]))])]⟩
noncomputable def pG:Fn:=⟨1,1,[.iff (.cmp .eq (.ix (.v 0) (.c (.int 0))) (.c (.str (W "lamp")))) [.ret (.tup [])] [],.ret (.sl (.v 0) [(.c (.int 1))] [])]⟩
noncomputable def yS:Fn:=⟨1,4,[.asg (.nm 1) (.lst []),.asg (.nm 2) (.bit .list .rev [(.v 0)]),.whl (.v 2) [.asg (.nm 3) (.bX .pop (.v 2) []),.iff (.and_ (.cmp .in_ (.ix (.v 3) (.c (.int 0))) (.c g_PAST_WORDS)) (.cmp .gS (.v 3) (.v 1))) [.ex (.bX .append (.v 1) [(.v 3)])] [],.ex (.bX .extend (.v 2) [(.bit .list .rev [(.call kQ [(.v 3)])])])],.ret (.v 1)]⟩
noncomputable def GA:Fn:=⟨3,3,[.ret (.and_ (.isi (.v 0) [.tuple]) (.chain .le .le (.v 1) (.bi .len [(.v 0)]) (.v 2)))]⟩
noncomputable def xV:Fn:=⟨2,3,[.iff (.or_ (.not_ (.call gZ [(.v 0),(.c (.int 1)),(.c g_MOST_LAMPS)])) (.not_ (.call gZ [(.v 1),(.c (.int 1)),(.c g_MOST_LAMPS)]))) [.ret (.c (.bl false))] [],.asg (.nm 2) (.bin .add (.v 0) (.v 1)),.ret (.and_ (.bi .all [(.comp 1 [] [0] true none [(.v 2)] [] (.call vV [(.v 0)]))]) (.cmp .eq (.bi .pN [(.v 2)]) (.bi .len [(.v 2)])))]⟩
noncomputable def uE:Fn:=⟨3,3,[.ret (.and_ (.call gZ [(.v 1),(.c (.int 0)),(.v 2)]) (.bi .all [(.comp 1 [0] [0] true none [(.v 1)] [] (.call qH [(.v 1),(.v 0)]))]))]⟩
noncomputable def tQ:Fn:=⟨2,2,[.iff (.cmp .eq (.ix (.v 1) (.c (.int 0))) (.c (.str (W "before")))) [.ret (.c (.bl false))] [],.iff (.cmp .eq (.ix (.v 1) (.c (.int 0))) (.c (.str (W "lamp")))) [.ret (.cmp .in_ (.ix (.v 1) (.c (.int 1))) (.v 0))] [],.ret (.bi .any [(.comp 1 [0] [0] true none [(.call kQ [(.v 1)])] [] (.call nW [(.v 1),(.v 0)]))])]⟩
noncomputable def qW:Fn:=⟨3,3,[.ret (.and_ (.call nS [(.v 0),(.v 2),(.c g_MOST_PROMISES)]) (.not_ (.bi .any [(.comp 1 [1] [0] true none [(.v 2)] [] (.call nW [(.v 1),(.v 0)]))])))]⟩
noncomputable def BH:Fn:=⟨1,1,[.ret (.and_ (.isi (.v 0) [.int]) (.and_ (.not_ (.isi (.v 0) [.bool])) (.chain .le .le (.c (.int 1)) (.v 0) (.c g_HIGHEST_PRICE))))]⟩
noncomputable def DM:Fn:=⟨2,2,[.ret (.and_ (.call gZ [(.v 1),(.c (.int 2)),(.c (.int 2))]) (.and_ (.call AL [(.ix (.v 1) (.c (.int 0)))]) (.call qH [(.v 0),(.ix (.v 1) (.c (.int 1)))])))]⟩
noncomputable def vQ:Fn:=⟨2,2,[.ret (.and_ (.call gZ [(.v 1),(.c (.int 1)),(.c g_MOST_WISHES)]) (.bi .all [(.comp 1 [0] [0] true none [(.v 1)] [] (.call D1 [(.v 1),(.v 0)]))]))]⟩
noncomputable def vG:Fn:=⟨3,3,[.ret (.bin .add (.bin .add (.bi .list [(.v 0)]) (.bi .list [(.v 1)])) (.comp 1 [] [0] true none [(.v 2)] [] (.ix (.v 0) (.c (.int 1)))))]⟩
noncomputable def DP:Fn:=⟨1,6,[.iff (.or_ (.not_ (.call gZ [(.v 0),(.c (.int 5)),(.c (.int 5))])) (.not_ (.call yF [(.ix (.v 0) (.c (.int 0))),(.ix (.v 0) (.c (.int 1)))]))) [.ret (.c (.bl false))] [],.asg (.nm 1) (.ix (.v 0) (.c (.int 1))),.asg (.nm 2) (.bin .add (.ix (.v 0) (.c (.int 0))) (.v 1)),.asg (.nm 3) (.ix (.v 0) (.c (.int 2))),.asg (.nm 4) (.ix (.v 0) (.c (.int 3))),.asg (.nm 5) (.ix (.v 0) (.c (.int 4))),.iff (.or_ (.not_ (.call rD [(.v 2),(.v 1),(.v 3)])) (.not_ (.call nS [(.v 2),(.v 4),(.c g_MOST_MUSTS)]))) [.ret (.c (.bl false))] [],.ret (.and_ (.call vL [(.v 2),(.v 5)]) (.cmp .le (.bi .len [(.call yH [(.call vB [(.v 3),(.v 4),(.v 5)])])]) (.c g_MOST_PIECES)))]⟩
noncomputable def DQ:Fn:=pJ wB
noncomputable def uS:Fn:=fM
noncomputable def tU:Fn:=oH
noncomputable def A1:Fn:=gW
noncomputable def ID:Fn:=pD gZ vP AB
noncomputable def BD:Fn:=lG tV gZ HI
noncomputable def wD:Fn:=tM gZ AD g_MOST_STANDS
noncomputable def nZ:Fn:=rC vR oO
noncomputable def qP:Fn:=wL
noncomputable def vH:Fn:=rQ
noncomputable def AJ:Fn:=pC qV
noncomputable def yQ:Fn:=sF g_MOST_DIGITS g_DIGITS
noncomputable def uN:Fn:=oK
noncomputable def vW:Fn:=rO uQ
noncomputable def oA:Fn:=wM vS vN
noncomputable def qR:Fn:=AI kH oC
noncomputable def HR:Fn:=uI xY
noncomputable def BK:Fn:=sN IF
noncomputable def qO:Fn:=AQ vR AS A3 oO kH
noncomputable def rY:Fn:=⟨2,2,[.iff (.cmp .lt (.v 1) (.bi .len [(.v 0)])) [.ret (.ix (.v 0) (.v 1))] [],.iff (.cmp .eq (.v 0) (.lst [])) [.ret (.c (.int 0))] [],.ret (.bin .add (.bin .mul (.ix (.v 0) (.bin .mod (.v 1) (.bi .len [(.v 0)]))) (.c (.int 31))) (.v 1))]⟩
noncomputable def uJ:Fn:=⟨3,4,[.asg (.nm 3) (.bin .mod (.bin .mul (.bin .add (.bin .add (.call qY [(.v 0),(.v 1)]) (.bin .mul (.c (.int 7919)) (.v 1))) (.c (.int 1))) (.c (.int 48271))) (.c (.int 2147483647))),.ret (.bin .mod (.bin .mod (.bin .add (.bin .add (.bin .mul (.v 3) (.v 3)) (.bin .mul (.c (.int 7)) (.v 3))) (.v 1)) (.c (.int 2147483629))) (.v 2))]⟩
noncomputable def yI:Fn:=⟨3,3,[.asg (.ix (.v 1) (.c (.int 0))) (.bin .add (.ix (.v 1) (.c (.int 0))) (.c (.int 1))),.ret (.call lO [(.v 0),(.ix (.v 1) (.c (.int 0))),(.v 2)])]⟩
noncomputable def vA:Fn:=⟨2,7,[.asg (.nm 2) (.lst [(.c (.str (W "a"))),(.c (.str (W "b"))),(.c (.str (W "x"))),(.c (.str (W "y"))),(.c (.str (W "lamp"))),(.c (.str (W "far"))),(.c (.str (W "yesno"))),(.c (.str (W "abcdefgh")))]),.asg (.nm 3) (.call fR [(.v 0),(.v 1),(.c (.int 8))]),.asg (.nm 4) (.bin .add (.sl (.v 2) [(.v 3)] []) (.sl (.v 2) [] [(.v 3)])),.asg (.nm 5) (.bin .add (.c (.int 1)) (.call fR [(.v 0),(.v 1),(.c (.int 2))])),.asg (.nm 6) (.bin .add (.c (.int 1)) (.call fR [(.v 0),(.v 1),(.c (.int 2))])),.ret (.tup [(.bi .tuple [(.sl (.v 4) [] [(.v 5)])]),(.bi .tuple [(.sl (.v 4) [(.v 5)] [(.bin .add (.v 5) (.v 6))])])])]⟩
noncomputable def uD:Fn:=⟨5,7,[.asg (.nm 5) (.call fR [(.v 0),(.v 1),(.c (.int 13))]),.iff (.or_ (.cmp .eq (.v 3) (.c (.int 0))) (.cmp .lt (.v 5) (.c (.int 3)))) [.ret (.tup [(.c (.str (W "lamp"))),(.ix (.v 2) (.call fR [(.v 0),(.v 1),(.bi .len [(.v 2)])]))])] [],.iff (.cmp .eq (.v 5) (.c (.int 3))) [.ret (.tup [(.ix (.lst [(.c (.str (W "yes"))),(.c (.str (W "no")))]) (.call fR [(.v 0),(.v 1),(.c (.int 2))]))])] [],.iff (.and_ (.cmp .gt (.v 5) (.c (.int 8))) (.cmp .gt (.ix (.v 4) (.c (.int 0))) (.c (.int 0)))) [.asg (.ix (.v 4) (.c (.int 0))) (.bin .sub (.ix (.v 4) (.c (.int 0))) (.c (.int 1))),.asg (.nm 6) (.call gJ [(.v 0),(.v 1),(.v 2),(.bin .sub (.v 3) (.c (.int 1))),(.v 4)]),.iff (.cmp .eq (.v 5) (.c (.int 12))) [.ret (.tup [(.c (.str (W "since"))),(.v 6),(.call gJ [(.v 0),(.v 1),(.v 2),(.bin .sub (.v 3) (.c (.int 1))),(.v 4)])])] [],.ret (.tup [(.ix (.lst [(.c (.str (W "before"))),(.c (.str (W "once"))),(.c (.str (W "sofar")))]) (.bin .sub (.v 5) (.c (.int 9)))),(.v 6)])] [],.asg (.nm 6) (.call gJ [(.v 0),(.v 1),(.v 2),(.bin .sub (.v 3) (.c (.int 1))),(.v 4)]),.iff (.or_ (.cmp .eq (.v 5) (.c (.int 4))) (.cmp .gt (.v 5) (.c (.int 8)))) [.ret (.tup [(.c (.str (W "not"))),(.v 6)])] [],.ret (.tup [(.ix (.lst [(.c (.str (W "and"))),(.c (.str (W "or"))),(.c (.str (W "then"))),(.c (.str (W "same")))]) (.bin .sub (.v 5) (.c (.int 5)))),(.v 6),(.call gJ [(.v 0),(.v 1),(.v 2),(.bin .sub (.v 3) (.c (.int 1))),(.v 4)])])]⟩
noncomputable def rM:Fn:=xM gJ fR
noncomputable def yD:Fn:=xC uH fR gJ qL
noncomputable def pY:Fn:=uL
noncomputable def rR:Fn:=sH lO qB
noncomputable def tT:Fn:=EU
noncomputable def qM:Fn:=EM
noncomputable def yJ:Fn:=uP
noncomputable def A6:Fn:=wH yC
noncomputable def UO:Fn:=HL xX rA rV rE qX uF lO BE
noncomputable def Lc:Nat->Option Fn
 |0=>some DL
 |1=>some yA
 |2=>some nA
 |3=>some pG
 |4=>some yS
 |5=>some GA
 |6=>some xV
 |7=>some uE
 |8=>some tQ
 |9=>some qW
 |10=>some BH
 |11=>some DM
 |12=>some vQ
 |13=>some vG
 |14=>some DP
 |15=>some DQ
 |16=>some uS
 |17=>some tU
 |18=>some A1
 |19=>some ID
 |20=>some BD
 |21=>some wD
 |22=>some nZ
 |23=>some qP
 |24=>some vH
 |25=>some AJ
 |26=>some yQ
 |27=>some uN
 |28=>some vW
 |29=>some oA
 |30=>some qR
 |31=>some HR
 |32=>some BK
 |33=>some qO
 |34=>some rY
 |35=>some uJ
 |36=>some yI
 |37=>some vA
 |38=>some uD
 |39=>some rM
 |40=>some yD
 |41=>some pY
 |42=>some rR
 |43=>some tT
 |44=>some qM
 |45=>some yJ
 |46=>some A6
 |47=>some UO
 |_=>none
noncomputable def Lo:Nat->Nat->Bool
 |0,0=>true
 |1,1=>true
 |1,0=>true
 |2,2=>true
 |2,1=>true
 |2,0=>true
 |3,3=>true
 |3,1=>true
 |3,0=>true
 |4,4=>true
 |4,1=>true
 |4,0=>true
 |_,_=>false
noncomputable def G:Prog:=⟨Lc,Lo⟩
noncomputable abbrev bd (n:Nat):Stmt:=PySem.Challenge.pw_leastloss_k33_machine_texts.main.body.getD n (.Pass ⟨0,0,0,0⟩)
noncomputable def bV:Nat->Stmt
 |0=>bd 12
 |1=>bd 13
 |2=>bd 14
 |3=>bd 15
 |4=>bd 16
 |5=>bd 24
 |6=>bd 25
 |7=>bd 26
 |8=>bd 27
 |9=>bd 28
 |10=>bd 29
 |11=>bd 30
 |12=>bd 31
 |13=>bd 32
 |14=>bd 33
 |15=>bd 34
 |16=>bd 36
 |17=>bd 38
 |18=>bd 41
 |19=>bd 42
 |20=>bd 43
 |21=>bd 44
 |22=>bd 45
 |23=>bd 49
 |24=>bd 50
 |25=>bd 51
 |26=>bd 52
 |27=>bd 53
 |28=>bd 54
 |29=>bd 55
 |30=>bd 56
 |31=>bd 57
 |32=>bd 58
 |33=>bd 59
 |34=>bd 61
 |35=>bd 62
 |36=>bd 63
 |37=>bd 64
 |38=>bd 65
 |39=>bd 66
 |40=>bd 67
 |41=>bd 68
 |42=>bd 69
 |43=>bd 70
 |44=>bd 71
 |45=>bd 72
 |46=>bd 73
 |47=>bd 74
 |_=>.Pass ⟨0,0,0,0⟩
def mC:Nat->Str
 |0 =>"is_name"
 |1 =>"is_saying"
 |2 =>"is_saying_within"
 |3 =>"sayings_within"
 |4 =>"pieces_in"
 |5 =>"is_row"
 |6 =>"are_lamps"
 |7 =>"are_sayings"
 |8 =>"stands_bare"
 |9 =>"are_promises"
 |10 =>"is_price"
 |11 =>"is_wish"
 |12 =>"are_wishes"
 |13 =>"sayings_of"
 |14 =>"is_book"
 |15 =>"checked"
 |16 =>"is_setting"
 |17 =>"settings_of"
 |18 =>"is_place"
 |19 =>"is_way"
 |20 =>"is_stand"
 |21 =>"is_machine"
 |22 =>"checked_machine"
 |23 =>"checked_text"
 |24 =>"lines_text"
 |25 =>"lines_in"
 |26 =>"number_in"
 |27 =>"lamps_text"
 |28 =>"stand_line"
 |29 =>"written_machine"
 |30 =>"machine_text"
 |31 =>"way_in"
 |32 =>"stand_in"
 |33 =>"read_machine"
 |34 =>"_law_cell_at"
 |35 =>"_law_mixed"
 |36 =>"_law_next"
 |37 =>"_law_names"
 |38 =>"_law_saying"
 |39 =>"_law_promise"
 |40 =>"_law_book"
 |41 =>"_law_settings"
 |42 =>"_law_machine"
 |43 =>"_law_spoilt"
 |44 =>"_law_written"
 |45 =>"_law_pair"
 |46 =>"_law_due"
 |47 =>"law"
 |_ =>""
def eY:Nat->Str
 |0 =>"is_name"
 |1 =>"is_saying"
 |2 =>"is_saying_within"
 |3 =>"sayings_within"
 |4 =>"pieces_in"
 |5 =>"is_row"
 |6 =>"are_lamps"
 |7 =>"are_sayings"
 |8 =>"stands_bare"
 |9 =>"are_promises"
 |10 =>"is_price"
 |11 =>"is_wish"
 |12 =>"are_wishes"
 |13 =>"sayings_of"
 |14 =>"is_book"
 |15 =>"checked"
 |16 =>"is_setting"
 |17 =>"settings_of"
 |18 =>"is_place"
 |19 =>"is_way"
 |20 =>"is_stand"
 |21 =>"is_machine"
 |22 =>"checked_machine"
 |23 =>"checked_text"
 |24 =>"lines_text"
 |25 =>"lines_in"
 |26 =>"number_in"
 |27 =>"lamps_text"
 |28 =>"stand_line"
 |29 =>"written_machine"
 |30 =>"machine_text"
 |31 =>"way_in"
 |32 =>"stand_in"
 |33 =>"read_machine"
 |34 =>"_law_cell_at"
 |35 =>"_law_mixed"
 |36 =>"_law_next"
 |37 =>"_law_names"
 |38 =>"_law_saying"
 |39 =>"_law_promise"
 |40 =>"_law_book"
 |41 =>"_law_settings"
 |42 =>"_law_machine"
 |43 =>"_law_spoilt"
 |44 =>"_law_written"
 |45 =>"_law_pair"
 |46 =>"_law_due"
 |47 =>"law"
 |_ =>""
def lD:Nat->At
 |0=>.top
 |1=>.top
 |2=>.top
 |3=>.top
 |4=>.top
 |5=>.top
 |6=>.top
 |7=>.top
 |8=>.top
 |9=>.top
 |10=>.top
 |11=>.top
 |12=>.top
 |13=>.top
 |14=>.top
 |15=>.top
 |16=>.top
 |17=>.top
 |18=>.top
 |19=>.top
 |20=>.top
 |21=>.top
 |22=>.top
 |23=>.top
 |24=>.top
 |25=>.top
 |26=>.top
 |27=>.top
 |28=>.top
 |29=>.top
 |30=>.top
 |31=>.top
 |32=>.top
 |33=>.top
 |34=>.top
 |35=>.top
 |36=>.top
 |37=>.top
 |38=>.top
 |39=>.top
 |40=>.top
 |41=>.top
 |42=>.top
 |43=>.top
 |44=>.top
 |45=>.top
 |46=>.top
 |47=>.top
 |_=>.top
def jU:Nat->List Str
 |0=>["thing"]
 |1=>["names","thing"]
 |2=>["names","thing","deepest"]
 |3=>["saying"]
 |4=>["sayings"]
 |5=>["thing","fewest","most"]
 |6=>["foe","friend"]
 |7=>["names","things","most"]
 |8=>["names","saying"]
 |9=>["names","friend","things"]
 |10=>["thing"]
 |11=>["names","thing"]
 |12=>["names","things"]
 |13=>["promises","musts","wishes"]
 |14=>["thing"]
 |15=>["book"]
 |16=>["thing","lamps"]
 |17=>["lamps"]
 |18=>["thing","places"]
 |19=>["book","stands","thing"]
 |20=>["book","stands","thing"]
 |21=>["book","thing"]
 |22=>["book","machine"]
 |23=>["thing"]
 |24=>["lines"]
 |25=>["thing"]
 |26=>["text"]
 |27=>["setting"]
 |28=>["stand"]
 |29=>["machine"]
 |30=>["book","machine"]
 |31=>["text"]
 |32=>["line"]
 |33=>["book","text"]
 |34=>["_law_script","_law_k"]
 |35=>["_law_script","_law_k","_law_many"]
 |36=>["_law_script","_law_m","_law_many"]
 |37=>["_law_script","_law_m"]
 |38=>["_law_script","_law_m","_law_names_here","_law_deep","_law_left"]
 |39=>["_law_script","_law_m","_law_foe","_law_names_here","_law_left"]
 |40=>["_law_script","_law_at","_law_pieces","_law_musts"]
 |41=>["_law_many"]
 |42=>["_law_script","_law_at","_law_foe","_law_friend","_law_most"]
 |43=>["_law_text","_law_cell","_law_more"]
 |44=>["_law_machine_here"]
 |45=>["_law_part","_law_friend","_law_many"]
 |46=>["_law_text","_law_foe","_law_friend"]
 |47=>["_law_script"]
 |_=>[]
def XN (K:ae)(mg:Str->Option Value):Prop:=∃ C,mE K "NoText" C/\(∃ a,mg "LossError" = some (.ref a)/\yG K C (.ref a) true)/\(mg "ValueError" = none/\yG K C (.type "ValueError") true)/\(∃ a,mg "NoMachine" = some (.ref a)/\yG K C (.ref a) false)/\(mn K C).isSome=true
noncomputable def FA:Nat->Bool
 |23=>true
 |25=>true
 |26=>true
 |31=>true
 |32=>true
 |33=>true
 |_=>false
theorem EI:cu "ValueError" = some (.type "ValueError"):=by decide +kernel
theorem xE {X:Cx}{n:Str}(h:X.env.kindOf n=some .globalImplicit):Gl X n:=h
structure Zt (K:ae)(mg:Str->Option Value):Prop where
 x_exc:XN K mg
 b_isinstance:mg "isinstance" = none
 b_str:mg "str" = none
 b_len:mg "len" = none
 b_all:mg "all" = none
 b_tuple:mg "tuple" = none
 b_list:mg "list" = none
 b_reversed:mg "reversed" = none
 b_set:mg "set" = none
 b_any:mg "any" = none
 b_int:mg "int" = none
 b_bool:mg "bool" = none
 b_range:mg "range" = none
 g_NO_NAMES:GC K mg "NO_NAMES" g_NO_NAMES
 g_LONGEST_NAME:GC K mg "LONGEST_NAME" g_LONGEST_NAME
 g_LETTERS:GC K mg "LETTERS" g_LETTERS
 g_DEEPEST:GC K mg "DEEPEST" g_DEEPEST
 g_SAYINGS_WITHIN:GC K mg "SAYINGS_WITHIN" g_SAYINGS_WITHIN
 g_PAST_WORDS:GC K mg "PAST_WORDS" g_PAST_WORDS
 g_MOST_LAMPS:GC K mg "MOST_LAMPS" g_MOST_LAMPS
 g_MOST_PROMISES:GC K mg "MOST_PROMISES" g_MOST_PROMISES
 g_HIGHEST_PRICE:GC K mg "HIGHEST_PRICE" g_HIGHEST_PRICE
 g_MOST_WISHES:GC K mg "MOST_WISHES" g_MOST_WISHES
 g_MOST_MUSTS:GC K mg "MOST_MUSTS" g_MOST_MUSTS
 g_MOST_PIECES:GC K mg "MOST_PIECES" g_MOST_PIECES
 g_MOST_STANDS:GC K mg "MOST_STANDS" g_MOST_STANDS
 g_MOST_DIGITS:GC K mg "MOST_DIGITS" g_MOST_DIGITS
 g_DIGITS:GC K mg "DIGITS" g_DIGITS
section
variable {P:bq}{w:cq}{K:ae}{mg:Str->Option Value}{base:Heap}
theorem BU {k:Nat}(T:FN K mg 48 mC eY jU bV lD)(IH:∀ i,i<48->i≠47->cM P w K mg base gH (2*k) (T.a i) (T.fd i) (jU i) (jO K (aI G k) i)){X:Cx}(e1:X.prog=P)(e2:X.w=w)(e3:X.K=K)(e4:X.mg=mg)(e5:X.base=base)(hr:dC (2*k+1) X.A)(i:Nat)(h:lj i 47=true)(ha:lD i=.top):oR X (aI G k) (mC i) i:=by
 subst e1 e2 e3 e4 e5
 have h0:i<47:=Nat.ble_eq.mp h
 have h:i<48:=p8 h0 (by decide)
 have q:=T.mg i h
 rw[ha]at q
 exact⟨2*k,T.a i,T.fd i,jU i,IH i h (bj h0),hr.mono (by omega),q,(T.fn i h).kp,T.bi i h⟩
theorem BY {k:Nat}(T:FN K mg 48 mC eY jU bV lD)(IH:∀ i,i<48->i≠47->cM P w K mg base gH (2*k) (T.a i) (T.fd i) (jU i) (jO K (aI G k) i)){X:Cx}(e1:X.prog=P)(e2:X.w=w)(e3:X.K=K)(e4:X.mg=mg)(e5:X.base=base)(hr:dC (2*k+1) X.A)(i:Nat)(c:List Nat)(h:lj i 47=true)(ha:lD i=.bX c):GQ X (aI G k) c (mC i) i:=by
 subst e1 e2 e3 e4 e5
 have h0:i<47:=Nat.ble_eq.mp h
 have h:i<48:=p8 h0 (by decide)
 have q:=T.mg i h
 rw[ha]at q
 obtain⟨C0,q1,q2,q3⟩:=q
 exact⟨2*k,T.a i,T.fd i,jU i,C0,IH i h (bj h0),hr.mono (by omega),T.bi i h,q1,q2,q3⟩
theorem B2 {k:Nat}(T:FN K mg 48 mC eY jU bV lD)(IH:∀ i,i<48->i≠47->cM P w K mg base gH (2*k) (T.a i) (T.fd i) (jU i) (jO K (aI G k) i)){X:Cx}(e1:X.prog=P)(e2:X.w=w)(e3:X.K=K)(e4:X.mg=mg)(e5:X.base=base)(hr:dC (2*k+1) X.A)(i:Nat)(c:List Nat)(h:lj i 47=true)(ha:lD i=.init c){n:Str}(hn:n=⟨c.toArray⟩:=by kernel_rfl):EZ X (aI G k) c n i:=by
 subst e1 e2 e3 e4 e5
 have h0:i<47:=Nat.ble_eq.mp h
 have h:i<48:=p8 h0 (by decide)
 have q:=T.mg i h
 rw[ha]at q
 obtain⟨C0,q1,q2,q3⟩:=q
 exact⟨2*k,T.a i,T.fd i,jU i,C0,IH i h (bj h0),hr,T.bi i h,q1,by rw[hn];exact q2,q3⟩
noncomputable abbrev TT (K:ae)(mg:Str->Option Value):=FN K mg 48 mC eY jU bV lD
abbrev IT (P:bq)(w:cq)(base:Heap)(T:TT K mg)(k:Nat):Prop:=∀ i,i<48->i≠47->cM P w K mg base gH (2*k) (T.a i) (T.fd i) (jU i) (jO K (aI G k) i)
abbrev OT (P:bq)(w:cq)(base:Heap)(T:TT K mg)(k i:Nat):Prop:=cM P w K mg base gH (2*k+1+1) (T.a i) (T.fd i) (jU i) (jO K (aI G (k+1)) i)
theorem dX (i:Nat){k:Nat}{fn:Fn}{N:List Str}(T:TT K mg)(IH:IT P w base T k)(hi:lj i 48=true)(S:kW N (jU i) (aH (bV i)))(hG:G.fns i=some fn)(hp:fn.np=(jU i).length)(hl:fn.nl=N.length)
 (hb:∀(aT:Value)(A:cg)(outer:List Env)(s:ah)(H:Hp)(E:L2.XK)(hr:dC (2*k+1) (A.deeper (gh (eY i) (aH (bV i)) s.heap.objs.size (T.a i) aT)))(m:bN (aI G k) (aI G k))(u:(A.deeper (gh (eY i) (aH (bV i)) s.heap.objs.size (T.a i) aT)).units+180<zd)
 (c:∀ j,lj j 47=true->lD j=.top->oR (cW gH P w K mg base N (eY i) (aH (bV i)) (T.a i) aT A outer s H E).mF (aI G k) (mC j) j)(cm:∀ j c,lj j 47=true->lD j=.bX c->GQ (cW gH P w K mg base N (eY i) (aH (bV i)) (T.a i) aT A outer s H E).mF (aI G k) c (mC j) j)(ck:∀ j c,lj j 47=true->lD j=.init c->∀{n:Str}(hn:n=⟨c.toArray⟩:=by kernel_rfl),EZ (cW gH P w K mg base N (eY i) (aH (bV i)) (T.a i) aT A outer s H E).mF (aI G k) c n j)(nd:N.Nodup),
 uA (cW gH P w K mg base N (eY i) (aH (bV i)) (T.a i) aT A outer s H E).mF (aI G k) G.sub EF (gI (bV i)) fn.body):OT P w base T k i :=
 Ag (fn:=fn) (T.fn i (Nat.ble_eq.mp hi)) S hG hp hl fun aT A outer s H E hr=>hb aT A outer s H E hr (kX G (bb k)) (LN hr) (BU (X:=(cW gH P w K mg base N (eY i) (aH (bV i)) (T.a i) aT A outer s H E).mF) T IH rfl rfl rfl rfl rfl hr) (BY (X:=(cW gH P w K mg base N (eY i) (aH (bV i)) (T.a i) aT A outer s H E).mF) T IH rfl rfl rfl rfl rfl hr) (@B2 P w K mg base k T IH (cW gH P w K mg base N (eY i) (aH (bV i)) (T.a i) aT A outer s H E).mF rfl rfl rfl rfl rfl hr) S.nd
abbrev XT (P:bq)(w:cq)(base:Heap)(T:TT K mg)(Cl:Addr)(k:Nat):Prop:=∀ i,FA i=true->cM P w K mg base (fG P w Cl) (2*k) (T.a i) (T.fd i) (jU i) (tR K (aI G k) i)
abbrev OX (P:bq)(w:cq)(base:Heap)(T:TT K mg)(Cl:Addr)(k i:Nat):Prop:=cM P w K mg base (fG P w Cl) (2*k+1+1) (T.a i) (T.fd i) (jU i) (tR K (aI G (k+1)) i)
theorem zO {k:Nat}{Cl:Addr}(T:TT K mg)(IX:XT P w base T Cl k){X:Cx}{EX:XK}(e1:X.prog=P)(e2:X.w=w)(e3:X.K=K)(e4:X.mg=mg)(e5:X.base=base)(hr:dC (2*k+1) X.A)(hx:iG (fG X.prog X.w Cl) X (EE X.K EX))(i:Nat)(h:lj i 48=true)(ha:lD i=.top)(hi:FA i=true):MH X (aI G k) EX (mC i) i:=by
 subst e1 e2 e3 e4 e5
 have h:i<48:=Nat.ble_eq.mp h
 have q:=T.mg i h
 rw[ha]at q
 exact⟨2*k,T.a i,T.fd i,jU i,Cl,IX i hi,hr.mono (by omega),q,(T.fn i h).kp,T.bi i h,hx⟩
theorem R9 {k:Nat}{Cl:Addr}(T:TT K mg)(IX:XT P w base T Cl k){X:Cx}{EX:XK}(e1:X.prog=P)(e2:X.w=w)(e3:X.K=K)(e4:X.mg=mg)(e5:X.base=base)(hr:dC (2*k+1) X.A)(hx:iG (fG X.prog X.w Cl) X (EE X.K EX))(i:Nat)(c:List Nat)(h:lj i 48=true)(ha:lD i=.bX c)(hi:FA i=true):UN X (aI G k) EX c (mC i) i:=by
 subst e1 e2 e3 e4 e5
 have h:i<48:=Nat.ble_eq.mp h
 have q:=T.mg i h
 rw[ha]at q
 obtain⟨C0,q1,q2,q3⟩:=q
 exact⟨2*k,T.a i,T.fd i,jU i,C0,Cl,IX i hi,hr.mono (by omega),T.bi i h,q1,q2,q3,hx⟩
theorem KU (i:Nat){k:Nat}{Cl:Addr}{fn:Fn}{N:List Str}(T:TT K mg)(IH:IT P w base T k)(IX:XT P w base T Cl k)(hi:lj i 48=true)(S:kW N (jU i) (aH (bV i)))(hG:G.fns i=some fn)(hp:fn.np=(jU i).length)(hl:fn.nl=N.length)
 (hb:∀(aT:Value)(A:cg)(outer:List Env)(s:ah)(H:Hp)(E:L2.XK)(EX:XK)(hr:dC (2*k+1) (A.deeper (gh (eY i) (aH (bV i)) s.heap.objs.size (T.a i) aT)))(hE:∀ cl a H',EE K EX cl a H'->E cl a H')(m:bN (aI G k) (aI G k))(u:(A.deeper (gh (eY i) (aH (bV i)) s.heap.objs.size (T.a i) aT)).units+180<zd)
 (c:∀ j,lj j 47=true->lD j=.top->oR (cW (fG P w Cl) P w K mg base N (eY i) (aH (bV i)) (T.a i) aT A outer s H E) (aI G k) (mC j) j)(cm:∀ j c,lj j 47=true->lD j=.bX c->GQ (cW (fG P w Cl) P w K mg base N (eY i) (aH (bV i)) (T.a i) aT A outer s H E) (aI G k) c (mC j) j)(ck:∀ j c,lj j 47=true->lD j=.init c->∀{n:Str}(hn:n=⟨c.toArray⟩:=by kernel_rfl),EZ (cW (fG P w Cl) P w K mg base N (eY i) (aH (bV i)) (T.a i) aT A outer s H E) (aI G k) c n j)
 (cx:∀ j,lj j 48=true->lD j=.top->FA j=true->MH (cW (fG P w Cl) P w K mg base N (eY i) (aH (bV i)) (T.a i) aT A outer s H E) (aI G k) EX (mC j) j)(cmx:∀ j c,lj j 48=true->lD j=.bX c->FA j=true->UN (cW (fG P w Cl) P w K mg base N (eY i) (aH (bV i)) (T.a i) aT A outer s H E) (aI G k) EX c (mC j) j)(nd:N.Nodup),
 uA (cW (fG P w Cl) P w K mg base N (eY i) (aH (bV i)) (T.a i) aT A outer s H E) (aI G k) G.sub EX (gI (bV i)) fn.body):OX P w base T Cl k i :=
 Az (fn:=fn) (T.fn i (Nat.ble_eq.mp hi)) S hG hp hl fun aT A outer s H E EX hr hE=>hb aT A outer s H E EX hr hE (kX G (bb k)) (LN hr) (BU (X:=(cW (fG P w Cl) P w K mg base N (eY i) (aH (bV i)) (T.a i) aT A outer s H E)) T IH rfl rfl rfl rfl rfl hr) (BY (X:=(cW (fG P w Cl) P w K mg base N (eY i) (aH (bV i)) (T.a i) aT A outer s H E)) T IH rfl rfl rfl rfl rfl hr) (@B2 P w K mg base k T IH (cW (fG P w Cl) P w K mg base N (eY i) (aH (bV i)) (T.a i) aT A outer s H E) rfl rfl rfl rfl rfl hr) (zO (X:=(cW (fG P w Cl) P w K mg base N (eY i) (aH (bV i)) (T.a i) aT A outer s H E)) T IX rfl rfl rfl rfl rfl hr (UW hE)) (R9 (X:=(cW (fG P w Cl) P w K mg base N (eY i) (aH (bV i)) (T.a i) aT A outer s H E)) T IX rfl rfl rfl rfl rfl hr (UW hE)) S.nd
theorem Ma {k:Nat}(T:TT K mg)(Z:Zt K mg)(IH:IT P w base T k):OT P w base T k 0 :=
 dX 0 (fn:=DL) (N:=["thing"]) T IH rfl ⟨rfl,rfl,rfl,by decide +kernel,rfl,by decide +kernel,by decide +kernel⟩ rfl rfl rfl fun aT A outer s H E hr m u c cm ck nd=>by
 exact(cc (fY m (nM (lU m (mD (tp (rG (t:=.str) nJ Z.b_isinstance Z.b_str (jv 0)))) (nN (eD (o:=.in_) u (jv 0) (jg Z.g_NO_NAMES))))) (cc (bR m jb)
 c0) c0)
 (cc (bR m (kK (UH (o:=.le) (o':=.le) u ji (cL bH cB Z.b_len (ja (jv 0) an)) (jg Z.g_LONGEST_NAME)) (oQ (cL (iF hr.hd) lI Z.b_all (ja (lM m (own:=["sign"]) (cn:=[]) (aV:=[]) (one:=true) (jA (on:=(aH (bV 0)).names) (N:=["thing"]) (by decide +kernel)) (iv (jv 0)) (fun _ _ _ _=>(b1 (gn (show(["sign"]:List Str).Nodup by decide +kernel)))) (fun _ _ _ _=>qn) (fun _ _ _ _=>(uU (o:=.in_) u (jv 0) (jg Z.g_LETTERS)))) an)))))
 c0))
theorem Lz {k:Nat}(T:TT K mg)(Z:Zt K mg)(IH:IT P w base T k):OT P w base T k 1 :=
 dX 1 (fn:=yA) (N:=["names","thing"]) T IH rfl ⟨rfl,rfl,rfl,by decide +kernel,rfl,by decide +kernel,by decide +kernel⟩ rfl rfl rfl fun aT A outer s H E hr m u c cm ck nd=>by
 exact(cc (bR m (bL (c 2 rfl rfl) (ja (jv 0) (ja (jv 1) (ja (jg Z.g_DEEPEST) an)))))
 c0)
noncomputable abbrev N2:List Str:=["names","thing","deepest"]
theorem Lw {k:Nat}(T:TT K mg)(Z:Zt K mg)(IH:IT P w base T k):OT P w base T k 2 :=
 dX 2 (fn:=nA) (N:=N2) T IH rfl ⟨rfl,rfl,rfl,by decide +kernel,rfl,by decide +kernel,by decide +kernel⟩ rfl rfl rfl fun aT A outer s H E hr m u c cm ck nd=>by
 exact(cc (fY m (nM (lU m (eD (o:=.lt) u (cX 2) ji) (lU m (mD (tp (rG (t:=.tuple) dI Z.b_isinstance Z.b_tuple (jv 1)))) (lU m (eD (o:=.lt) u (cL bH cB Z.b_len (ja (jv 1) an)) ji) (nN (mD (tp (rG (t:=.str) nJ Z.b_isinstance Z.b_str (cG (jv 1) ji))))))))) (cc (bR m jb)
 c0) c0)
 (cc (fY m (eD (o:=.eq) u (cG (jv 1) ji) js) (cc (bR m (kK (uU (o:=.eq) u (cL bH cB Z.b_len (ja (jv 1) an)) ji) (kK (bL (c 0 rfl rfl) (ja (cG (jv 1) ji) an)) (oQ (uU (o:=.in_) u (cG (jv 1) ji) (cX 0))))))
 c0) c0)
 (cc (fY m (nM (lU m (eD (o:=.gS) u (cG (jv 1) ji) (jg Z.g_SAYINGS_WITHIN)) (nN (eD (o:=.ne) u (cL bH cB Z.b_len (ja (jv 1) an)) (bI (op:=.add) ji (cG (jg Z.g_SAYINGS_WITHIN) (cG (jv 1) ji))))))) (cc (bR m jb)
 c0) c0)
 (cc (bR m (cL (iF hr.hd) lI Z.b_all (ja (lM m (own:=["part"]) (cn:=["names","deepest"]) (aV:=[0,2]) (one:=true) (jA (on:=(aH (bV 2)).names) (N:=N2) (by decide +kernel)) (iv (kL (jv 1) (os ji) on)) (fun _ _ _ _=>(b1 (gn (show(["part","names","deepest"]:List Str).Nodup by decide +kernel)))) (fun _ _ _ _=>qn) (fun _ _ _ _=>(bL ((c 2 rfl rfl).rL) (ja (cX 1) (ja (jv 0) (ja (bI (op:=.sub) (cX 2) ji) an)))))) an)))
 c0))))
theorem Ki {k:Nat}(T:TT K mg)(Z:Zt K mg)(IH:IT P w base T k):OT P w base T k 3 :=
 dX 3 (fn:=pG) (N:=["saying"]) T IH rfl ⟨rfl,rfl,rfl,by decide +kernel,rfl,by decide +kernel,by decide +kernel⟩ rfl rfl rfl fun aT A outer s H E hr m u c cm ck nd=>by
 exact(cc (fY m (eD (o:=.eq) u (cG (jv 0) ji) js) (cc (bR m (jt m an))
 c0) c0)
 (cc (bR m (kL (jv 0) (os ji) on))
 c0))
theorem Lq {k:Nat}(T:TT K mg)(Z:Zt K mg)(IH:IT P w base T k):OT P w base T k 4 :=
 dX 4 (fn:=yS) (N:=["sayings","pieces","ahead","saying"]) T IH rfl ⟨rfl,rfl,rfl,by decide +kernel,rfl,by decide +kernel,by decide +kernel⟩ rfl rfl rfl fun aT A outer s H E hr m u c cm ck nd=>by
 exact(cc (sn (i:=1) m nd (jl an))
 (cc (sn (i:=2) m nd (Jq Z.b_list Z.b_reversed (ja (jv 0) an)))
 (cc (sw m (tp (jv 2)) (cc (sn (i:=3) m nd (Mp (jv 2) ))
 (cc (fY m (nM (YQ m (eD (o:=.in_) u (cG (jv 3) ji) (jg Z.g_PAST_WORDS)) (nN (eD (o:=.gS) u (jv 3) (jv 1))))) (cc (sx m (A5 (jv 1) (ja (jv 3) an)))
 c0) c0)
 (cc (sx m (Jv (jv 2) (ja (Jq Z.b_list Z.b_reversed (ja (bL (c 3 rfl rfl) (ja (jv 3) an)) an)) an)))
 c0))))
 (cc (bR m (jv 1))
 c0))))
theorem Ly {k:Nat}(T:TT K mg)(Z:Zt K mg)(IH:IT P w base T k):OT P w base T k 5 :=
 dX 5 (fn:=GA) (N:=["thing","fewest","most"]) T IH rfl ⟨rfl,rfl,rfl,by decide +kernel,rfl,by decide +kernel,by decide +kernel⟩ rfl rfl rfl fun aT A outer s H E hr m u c cm ck nd=>by
 exact(cc (bR m (kK (rG (t:=.tuple) dI Z.b_isinstance Z.b_tuple (jv 0)) (oQ (UH (o:=.le) (o':=.le) u (jv 1) (cL bH cB Z.b_len (ja (jv 0) an)) (jv 2)))))
 c0)
noncomputable abbrev N6:List Str:=["foe","friend","names"]
theorem Lx {k:Nat}(T:TT K mg)(Z:Zt K mg)(IH:IT P w base T k):OT P w base T k 6 :=
 dX 6 (fn:=xV) (N:=N6) T IH rfl ⟨rfl,rfl,rfl,by decide +kernel,rfl,by decide +kernel,by decide +kernel⟩ rfl rfl rfl fun aT A outer s H E hr m u c cm ck nd=>by
 exact(cc (fY m (nM (lU m (mD (tp (bL (c 5 rfl rfl) (ja (jv 0) (ja ji (ja (jg Z.g_MOST_LAMPS) an)))))) (nN (mD (tp (bL (c 5 rfl rfl) (ja (jv 1) (ja ji (ja (jg Z.g_MOST_LAMPS) an))))))))) (cc (bR m jb)
 c0) c0)
 (cc (sn (i:=2) m nd (bI (op:=.add) (jv 0) (jv 1)))
 (cc (bR m (kK (cL (iF hr.hd) lI Z.b_all (ja (lM m (own:=["name"]) (cn:=[]) (aV:=[]) (one:=true) (jA (on:=(aH (bV 6)).names) (N:=N6) (by decide +kernel)) (iv (jv 2)) (fun _ _ _ _=>(b1 (gn (show(["name"]:List Str).Nodup by decide +kernel)))) (fun _ _ _ _=>qn) (fun _ _ _ _=>(bL ((c 0 rfl rfl).rL) (ja (jv 0) an)))) an)) (oQ (uU (o:=.eq) u (Mw Z.b_len Z.b_set (ja (jv 2) an)) (cL bH cB Z.b_len (ja (jv 2) an))))))
 c0)))
noncomputable abbrev N7:List Str:=["names","things","most"]
theorem Mm {k:Nat}(T:TT K mg)(Z:Zt K mg)(IH:IT P w base T k):OT P w base T k 7 :=
 dX 7 (fn:=uE) (N:=N7) T IH rfl ⟨rfl,rfl,rfl,by decide +kernel,rfl,by decide +kernel,by decide +kernel⟩ rfl rfl rfl fun aT A outer s H E hr m u c cm ck nd=>by
 exact(cc (bR m (kK (bL (c 5 rfl rfl) (ja (jv 1) (ja ji (ja (jv 2) an)))) (oQ (cL (iF hr.hd) lI Z.b_all (ja (lM m (own:=["thing"]) (cn:=["names"]) (aV:=[0]) (one:=true) (jA (on:=(aH (bV 7)).names) (N:=N7) (by decide +kernel)) (iv (jv 1)) (fun _ _ _ _=>(b1 (gn (show(["thing","names"]:List Str).Nodup by decide +kernel)))) (fun _ _ _ _=>qn) (fun _ _ _ _=>(bL ((c 1 rfl rfl).rL) (ja (cX 1) (ja (jv 0) an))))) an)))))
 c0)
theorem Kd {k:Nat}(T:TT K mg)(Z:Zt K mg)(IH:IT P w base T k):OT P w base T k 8 :=
 dX 8 (fn:=tQ) (N:=["names","saying"]) T IH rfl ⟨rfl,rfl,rfl,by decide +kernel,rfl,by decide +kernel,by decide +kernel⟩ rfl rfl rfl fun aT A outer s H E hr m u c cm ck nd=>by
 exact(cc (fY m (eD (o:=.eq) u (cG (jv 1) ji) js) (cc (bR m jb)
 c0) c0)
 (cc (fY m (eD (o:=.eq) u (cG (jv 1) ji) js) (cc (bR m (uU (o:=.in_) u (cG (jv 1) ji) (cX 0)))
 c0) c0)
 (cc (bR m (cL (DZ hr.hd) M5 Z.b_any (ja (lM m (own:=["part"]) (cn:=["names"]) (aV:=[0]) (one:=true) (jA (on:=(aH (bV 8)).names) (N:=["names","saying"]) (by decide +kernel)) (iv (bL (c 3 rfl rfl) (ja (jv 1) an))) (fun _ _ _ _=>(b1 (gn (show(["part","names"]:List Str).Nodup by decide +kernel)))) (fun _ _ _ _=>qn) (fun _ _ _ _=>(bL ((c 8 rfl rfl).rL) (ja (cX 1) (ja (jv 0) an))))) an)))
 c0)))
noncomputable abbrev N9:List Str:=["names","friend","things"]
theorem Ko {k:Nat}(T:TT K mg)(Z:Zt K mg)(IH:IT P w base T k):OT P w base T k 9 :=
 dX 9 (fn:=qW) (N:=N9) T IH rfl ⟨rfl,rfl,rfl,by decide +kernel,rfl,by decide +kernel,by decide +kernel⟩ rfl rfl rfl fun aT A outer s H E hr m u c cm ck nd=>by
 exact(cc (bR m (kK (bL (c 7 rfl rfl) (ja (jv 0) (ja (jv 2) (ja (jg Z.g_MOST_PROMISES) an)))) (oQ (ZY (cL (DZ hr.hd) M5 Z.b_any (ja (lM m (own:=["thing"]) (cn:=["friend"]) (aV:=[1]) (one:=true) (jA (on:=(aH (bV 9)).names) (N:=N9) (by decide +kernel)) (iv (jv 2)) (fun _ _ _ _=>(b1 (gn (show(["thing","friend"]:List Str).Nodup by decide +kernel)))) (fun _ _ _ _=>qn) (fun _ _ _ _=>(bL ((c 8 rfl rfl).rL) (ja (cX 1) (ja (jv 0) an))))) an))))))
 c0)
theorem Hr {k:Nat}(T:TT K mg)(Z:Zt K mg)(IH:IT P w base T k):OT P w base T k 10 :=
 dX 10 (fn:=BH) (N:=["thing"]) T IH rfl ⟨rfl,rfl,rfl,by decide +kernel,rfl,by decide +kernel,by decide +kernel⟩ rfl rfl rfl fun aT A outer s H E hr m u c cm ck nd=>by
 exact(cc (bR m (kK (rG (t:=.int) uZ Z.b_isinstance Z.b_int (jv 0)) (kK (ZY (rG (t:=.bool) BZ Z.b_isinstance Z.b_bool (jv 0))) (oQ (UH (o:=.le) (o':=.le) u ji (jv 0) (jg Z.g_HIGHEST_PRICE))))))
 c0)
theorem Ff {k:Nat}(T:TT K mg)(Z:Zt K mg)(IH:IT P w base T k):OT P w base T k 11 :=
 dX 11 (fn:=DM) (N:=["names","thing"]) T IH rfl ⟨rfl,rfl,rfl,by decide +kernel,rfl,by decide +kernel,by decide +kernel⟩ rfl rfl rfl fun aT A outer s H E hr m u c cm ck nd=>by
 exact(cc (bR m (kK (bL (c 5 rfl rfl) (ja (jv 1) (ja ji (ja ji an)))) (kK (bL (c 10 rfl rfl) (ja (cG (jv 1) ji) an)) (oQ (bL (c 1 rfl rfl) (ja (jv 0) (ja (cG (jv 1) ji) an)))))))
 c0)
theorem Ii {k:Nat}(T:TT K mg)(Z:Zt K mg)(IH:IT P w base T k):OT P w base T k 12 :=
 dX 12 (fn:=vQ) (N:=["names","things"]) T IH rfl ⟨rfl,rfl,rfl,by decide +kernel,rfl,by decide +kernel,by decide +kernel⟩ rfl rfl rfl fun aT A outer s H E hr m u c cm ck nd=>by
 exact(cc (bR m (kK (bL (c 5 rfl rfl) (ja (jv 1) (ja ji (ja (jg Z.g_MOST_WISHES) an)))) (oQ (cL (iF hr.hd) lI Z.b_all (ja (lM m (own:=["thing"]) (cn:=["names"]) (aV:=[0]) (one:=true) (jA (on:=(aH (bV 12)).names) (N:=["names","things"]) (by decide +kernel)) (iv (jv 1)) (fun _ _ _ _=>(b1 (gn (show(["thing","names"]:List Str).Nodup by decide +kernel)))) (fun _ _ _ _=>qn) (fun _ _ _ _=>(bL ((c 11 rfl rfl).rL) (ja (cX 1) (ja (jv 0) an))))) an)))))
 c0)
noncomputable abbrev Jx:List Str:=["promises","musts","wishes"]
theorem Fg {k:Nat}(T:TT K mg)(Z:Zt K mg)(IH:IT P w base T k):OT P w base T k 13 :=
 dX 13 (fn:=vG) (N:=Jx) T IH rfl ⟨rfl,rfl,rfl,by decide +kernel,rfl,by decide +kernel,by decide +kernel⟩ rfl rfl rfl fun aT A outer s H E hr m u c cm ck nd=>by
 exact(cc (bR m (bI (op:=.add) (bI (op:=.add) (iL zR CA Z.b_list (ja (jv 0) an)) (iL zR CA Z.b_list (ja (jv 1) an))) (lM m (own:=["wish"]) (cn:=[]) (aV:=[]) (one:=true) (jA (on:=(aH (bV 13)).names) (N:=Jx) (by decide +kernel)) (iv (jv 2)) (fun _ _ _ _=>(b1 (gn (show(["wish"]:List Str).Nodup by decide +kernel)))) (fun _ _ _ _=>qn) (fun _ _ _ _=>(cG (jv 0) ji)))))
 c0)
theorem Gq {k:Nat}(T:TT K mg)(Z:Zt K mg)(IH:IT P w base T k):OT P w base T k 14 :=
 dX 14 (fn:=DP) (N:=["thing","friend","names","promises","musts","wishes"]) T IH rfl ⟨rfl,rfl,rfl,by decide +kernel,rfl,by decide +kernel,by decide +kernel⟩ rfl rfl rfl fun aT A outer s H E hr m u c cm ck nd=>by
 exact(cc (fY m (nM (lU m (mD (tp (bL (c 5 rfl rfl) (ja (jv 0) (ja ji (ja ji an)))))) (nN (mD (tp (bL (c 6 rfl rfl) (ja (cG (jv 0) ji) (ja (cG (jv 0) ji) an)))))))) (cc (bR m jb)
 c0) c0)
 (cc (sn (i:=1) m nd (cG (jv 0) ji))
 (cc (sn (i:=2) m nd (bI (op:=.add) (cG (jv 0) ji) (jv 1)))
 (cc (sn (i:=3) m nd (cG (jv 0) ji))
 (cc (sn (i:=4) m nd (cG (jv 0) ji))
 (cc (sn (i:=5) m nd (cG (jv 0) ji))
 (cc (fY m (nM (lU m (mD (tp (bL (c 9 rfl rfl) (ja (jv 2) (ja (jv 1) (ja (jv 3) an)))))) (nN (mD (tp (bL (c 7 rfl rfl) (ja (jv 2) (ja (jv 4) (ja (jg Z.g_MOST_MUSTS) an))))))))) (cc (bR m jb)
 c0) c0)
 (cc (bR m (kK (bL (c 12 rfl rfl) (ja (jv 2) (ja (jv 5) an))) (oQ (uU (o:=.le) u (cL bH cB Z.b_len (ja (bL (c 4 rfl rfl) (ja (bL (c 13 rfl rfl) (ja (jv 3) (ja (jv 4) (ja (jv 5) an)))) an)) an)) (jg Z.g_MOST_PIECES)))))
 c0))))))))
theorem Gw {k:Nat}(T:TT K mg)(Z:Zt K mg)(IH:IT P w base T k):OT P w base T k 15 :=
 dX 15 (fn:=DQ) (N:=["book"]) T IH rfl ⟨rfl,rfl,rfl,by decide +kernel,rfl,by decide +kernel,by decide +kernel⟩ rfl rfl rfl fun aT A outer s H E hr m u c cm ck nd=>by
 exact(cc (fY m (mD (tp (bL (c 14 rfl rfl) (ja (jv 0) an)))) (cc (Ju m)
 c0) c0)
 (cc (bR m (jv 0))
 c0))
theorem Fp {k:Nat}(T:TT K mg)(Z:Zt K mg)(IH:IT P w base T k):OT P w base T k 16 :=
 dX 16 (fn:=uS) (N:=["thing","lamps"]) T IH rfl ⟨rfl,rfl,rfl,by decide +kernel,rfl,by decide +kernel,by decide +kernel⟩ rfl rfl rfl fun aT A outer s H E hr m u c cm ck nd=>by
 exact(cc (bR m (kK (rG (t:=.tuple) dI Z.b_isinstance Z.b_tuple (jv 0)) (kK (uU (o:=.eq) u (cL bH cB Z.b_len (ja (jv 0) an)) (jv 1)) (oQ (cL (iF hr.hd) lI Z.b_all (ja (lM m (own:=["part"]) (cn:=[]) (aV:=[]) (one:=true) (jA (on:=(aH (bV 16)).names) (N:=["thing","lamps"]) (by decide +kernel)) (iv (jv 0)) (fun _ _ _ _=>(b1 (gn (show(["part"]:List Str).Nodup by decide +kernel)))) (fun _ _ _ _=>qn) (fun _ _ _ _=>(rG (t:=.bool) BZ Z.b_isinstance Z.b_bool (jv 0)))) an))))))
 c0)
theorem Hn {k:Nat}(T:TT K mg)(Z:Zt K mg)(IH:IT P w base T k):OT P w base T k 17 :=
 dX 17 (fn:=tU) (N:=["lamps","settings","place","longer","setting"]) T IH rfl ⟨rfl,rfl,rfl,by decide +kernel,rfl,by decide +kernel,by decide +kernel⟩ rfl rfl rfl fun aT A outer s H E hr m u c cm ck nd=>by
 exact(cc (sn (i:=1) m nd (jl (ja (jt m an) an)))
 (cc (A8 (i:=2) m nd (DJ m Z.b_range (ja (cL bH cB Z.b_len (ja (jv 0) an)) an)) (cc (sn (i:=3) m nd (jl an))
 (cc (A8 (i:=4) m nd (iv (jv 1)) (cc (sx m (A5 (jv 3) (ja (bI (op:=.add) (jv 4) (jt m (ja jb an))) an)))
 (cc (sx m (A5 (jv 3) (ja (bI (op:=.add) (jv 4) (jt m (ja jb an))) an)))
 c0)))
 (cc (sn (i:=1) m nd (jv 3))
 c0))))
 (cc (bR m (jv 1))
 c0)))
theorem Fx {k:Nat}(T:TT K mg)(Z:Zt K mg)(IH:IT P w base T k):OT P w base T k 18 :=
 dX 18 (fn:=A1) (N:=["thing","places"]) T IH rfl ⟨rfl,rfl,rfl,by decide +kernel,rfl,by decide +kernel,by decide +kernel⟩ rfl rfl rfl fun aT A outer s H E hr m u c cm ck nd=>by
 exact(cc (bR m (kK (rG (t:=.int) uZ Z.b_isinstance Z.b_int (jv 0)) (kK (ZY (rG (t:=.bool) BZ Z.b_isinstance Z.b_bool (jv 0))) (oQ (UH (o:=.le) (o':=.lt) u ji (jv 0) (jv 1))))))
 c0)
theorem Ir {k:Nat}(T:TT K mg)(Z:Zt K mg)(IH:IT P w base T k):OT P w base T k 19 :=
 dX 19 (fn:=ID) (N:=["book","stands","thing"]) T IH rfl ⟨rfl,rfl,rfl,by decide +kernel,rfl,by decide +kernel,by decide +kernel⟩ rfl rfl rfl fun aT A outer s H E hr m u c cm ck nd=>by
 exact(cc (bR m (kK (bL (c 5 rfl rfl) (ja (jv 2) (ja ji (ja ji an)))) (kK (bL (c 16 rfl rfl) (ja (cG (jv 2) ji) (ja (cL bH cB Z.b_len (ja (cG (jv 0) ji) an)) an))) (oQ (bL (c 18 rfl rfl) (ja (cG (jv 2) ji) (ja (jv 1) an)))))))
 c0)
noncomputable abbrev Jo:List Str:=["book","stands","thing","ways"]
theorem Ho {k:Nat}(T:TT K mg)(Z:Zt K mg)(IH:IT P w base T k):OT P w base T k 20 :=
 dX 20 (fn:=BD) (N:=Jo) T IH rfl ⟨rfl,rfl,rfl,by decide +kernel,rfl,by decide +kernel,by decide +kernel⟩ rfl rfl rfl fun aT A outer s H E hr m u c cm ck nd=>by
 exact(cc (sn (i:=3) m nd (cL bH cB Z.b_len (ja (bL (c 17 rfl rfl) (ja (cG (cX 0) ji) an)) an)))
 (cc (bR m (kK (bL (c 5 rfl rfl) (ja (jv 2) (ja (jv 3) (ja (jv 3) an)))) (oQ (cL (iF hr.hd) lI Z.b_all (ja (lM m (own:=["way"]) (cn:=["book","stands"]) (aV:=[0,1]) (one:=true) (jA (on:=(aH (bV 20)).names) (N:=Jo) (by decide +kernel)) (iv (jv 2)) (fun _ _ _ _=>(b1 (gn (show(["way","book","stands"]:List Str).Nodup by decide +kernel)))) (fun _ _ _ _=>qn) (fun _ _ _ _=>(bL ((c 19 rfl rfl).rL) (ja (cX 1) (ja (cX 2) (ja (jv 0) an)))))) an)))))
 c0))
theorem Es {k:Nat}(T:TT K mg)(Z:Zt K mg)(IH:IT P w base T k):OT P w base T k 21 :=
 dX 21 (fn:=wD) (N:=["book","thing"]) T IH rfl ⟨rfl,rfl,rfl,by decide +kernel,rfl,by decide +kernel,by decide +kernel⟩ rfl rfl rfl fun aT A outer s H E hr m u c cm ck nd=>by
 exact(cc (bR m (kK (bL (c 5 rfl rfl) (ja (cX 1) (ja ji (ja (jg Z.g_MOST_STANDS) an)))) (oQ (cL (iF hr.hd) lI Z.b_all (ja (lM m (own:=["stand"]) (cn:=["book","thing"]) (aV:=[0,1]) (one:=true) (jA (on:=(aH (bV 21)).names) (N:=["book","thing"]) (by decide +kernel)) (iv (cX 1)) (fun _ _ _ _=>(b1 (gn (show(["stand","book","thing"]:List Str).Nodup by decide +kernel)))) (fun _ _ _ _=>qn) (fun _ _ _ _=>(bL ((c 20 rfl rfl).rL) (ja (cX 1) (ja (cL bH cB Z.b_len (ja (cX 2) an)) (ja (jv 0) an)))))) an)))))
 c0)
theorem Jf {k:Nat}(T:TT K mg)(Z:Zt K mg)(IH:IT P w base T k):OT P w base T k 22 :=
 dX 22 (fn:=nZ) (N:=["book","machine"]) T IH rfl ⟨rfl,rfl,rfl,by decide +kernel,rfl,by decide +kernel,by decide +kernel⟩ rfl rfl rfl fun aT A outer s H E hr m u c cm ck nd=>by
 exact(cc (sx m (bL (c 15 rfl rfl) (ja (jv 0) an)))
 (cc (fY m (mD (tp (bL (c 21 rfl rfl) (ja (jv 0) (ja (jv 1) an))))) (cc (Ju m)
 c0) c0)
 (cc (bR m (jv 1))
 c0)))
theorem O8 {k:Nat}{Cl:Addr}(T:TT K mg)(Z:Zt K mg)(Y:mE K "NoText" Cl)(IH:IT P w base T k)(IX:XT P w base T Cl k):OX P w base T Cl k 23 :=
 KU 23 (fn:=qP) (N:=["thing"]) T IH IX rfl ⟨rfl,rfl,rfl,by decide +kernel,rfl,by decide +kernel,by decide +kernel⟩ rfl rfl rfl fun aT A outer s H E EX hr hE m u c cm ck cx cmx nd=>by
 exact(cc (fY m (mD (tp (rG (t:=.str) nJ Z.b_isinstance Z.b_str (jv 0)))) (cc (T9 hE Y)
 c0) c0)
 (cc (bR m (jv 0))
 c0))
theorem Gf {k:Nat}(T:TT K mg)(Z:Zt K mg)(IH:IT P w base T k):OT P w base T k 24 :=
 dX 24 (fn:=vH) (N:=["lines"]) T IH rfl ⟨rfl,rfl,rfl,by decide +kernel,rfl,by decide +kernel,by decide +kernel⟩ rfl rfl rfl fun aT A outer s H E hr m u c cm ck nd=>by
 exact(cc (bR m (JV js (ja (lM m (own:=["line"]) (cn:=[]) (aV:=[]) (one:=true) (jA (on:=(aH (bV 24)).names) (N:=["lines"]) (by decide +kernel)) (iv (jv 0)) (fun _ _ _ _=>(b1 (gn (show(["line"]:List Str).Nodup by decide +kernel)))) (fun _ _ _ _=>qn) (fun _ _ _ _=>(bI (op:=.add) (jv 0) js))) an)))
 c0)
theorem PU {k:Nat}{Cl:Addr}(T:TT K mg)(Z:Zt K mg)(Y:mE K "NoText" Cl)(IH:IT P w base T k)(IX:XT P w base T Cl k):OX P w base T Cl k 25 :=
 KU 25 (fn:=AJ) (N:=["thing"]) T IH IX rfl ⟨rfl,rfl,rfl,by decide +kernel,rfl,by decide +kernel,by decide +kernel⟩ rfl rfl rfl fun aT A outer s H E EX hr hE m u c cm ck cx cmx nd=>by
 exact(cc (fY m (mD (tp (Ni (II (cx 23 rfl rfl rfl) (ja (jv 0) an)) (ja js an)))) (cc (T9 hE Y)
 c0) c0)
 (cc (bR m (M7 (kL (jv 0) on (os (UC ji))) (ja js an)))
 c0))
theorem P7 {k:Nat}{Cl:Addr}(T:TT K mg)(Z:Zt K mg)(Y:mE K "NoText" Cl)(IH:IT P w base T k)(IX:XT P w base T Cl k):OX P w base T Cl k 26 :=
 KU 26 (fn:=yQ) (N:=["text"]) T IH IX rfl ⟨rfl,rfl,rfl,by decide +kernel,rfl,by decide +kernel,by decide +kernel⟩ rfl rfl rfl fun aT A outer s H E EX hr hE m u c cm ck cx cmx nd=>by
 exact(cc (fY m (nM (lU m (mD (Nr (o:=.le) (o':=.le) u ji (cL bH cB Z.b_len (ja (jv 0) an)) (jg Z.g_MOST_DIGITS))) (nN (mD (tp (cL (iF hr.hd) lI Z.b_all (ja (TL m (EL hE) (own:=["sign"]) (cn:=[]) (aV:=[]) (one:=true) (jA (on:=(aH (bV 26)).names) (N:=["text"]) (by decide +kernel)) (iv (jv 0)) (fun _ _ _ _ _=>(b1 (gn (show(["sign"]:List Str).Nodup by decide +kernel)))) (fun _ _ _ _ _=>qn) (fun _ _ _ _ _ hx=>(uU (o:=.in_) u (jv 0) (jg Z.g_DIGITS)))) an))))))) (cc (T9 hE Y)
 c0) c0)
 (cc (bR m (iL uK uZ Z.b_int (ja (jv 0) an)))
 c0))
theorem Hv {k:Nat}(T:TT K mg)(Z:Zt K mg)(IH:IT P w base T k):OT P w base T k 27 :=
 dX 27 (fn:=uN) (N:=["setting"]) T IH rfl ⟨rfl,rfl,rfl,by decide +kernel,rfl,by decide +kernel,by decide +kernel⟩ rfl rfl rfl fun aT A outer s H E hr m u c cm ck nd=>by
 exact(cc (bR m (JV js (ja (lM m (own:=["lamp"]) (cn:=[]) (aV:=[]) (one:=true) (jA (on:=(aH (bV 27)).names) (N:=["setting"]) (by decide +kernel)) (iv (jv 0)) (fun _ _ _ _=>(b1 (gn (show(["lamp"]:List Str).Nodup by decide +kernel)))) (fun _ _ _ _=>qn) (fun _ _ _ _=>(Mt (tp (jv 0)) js js))) an)))
 c0)
theorem Gg {k:Nat}(T:TT K mg)(Z:Zt K mg)(IH:IT P w base T k):OT P w base T k 28 :=
 dX 28 (fn:=vW) (N:=["stand"]) T IH rfl ⟨rfl,rfl,rfl,by decide +kernel,rfl,by decide +kernel,by decide +kernel⟩ rfl rfl rfl fun aT A outer s H E hr m u c cm ck nd=>by
 exact(cc (bR m (JV js (ja (lM m (own:=["friend","number"]) (cn:=[]) (aV:=[]) (one:=false) (jA (on:=(aH (bV 28)).names) (N:=["stand"]) (by decide +kernel)) (iv (jv 0)) (fun _ _ _ _=>(bt (gc (gn (i:=0) (show(["friend","number"]:List Str).Nodup by decide +kernel)) (gc (gn (i:=1) (show(["friend","number"]:List Str).Nodup by decide +kernel)) nn)))) (fun _ _ _ _=>qn) (fun _ _ _ _=>(bI (op:=.add) (bI (op:=.add) (bL ((c 27 rfl rfl).rL) (ja (jv 0) an)) js) (iL vO nJ Z.b_str (ja (jv 1) an))))) an)))
 c0)
theorem Hy {k:Nat}(T:TT K mg)(Z:Zt K mg)(IH:IT P w base T k):OT P w base T k 29 :=
 dX 29 (fn:=oA) (N:=["machine"]) T IH rfl ⟨rfl,rfl,rfl,by decide +kernel,rfl,by decide +kernel,by decide +kernel⟩ rfl rfl rfl fun aT A outer s H E hr m u c cm ck nd=>by
 exact(cc (bR m (bL (c 24 rfl rfl) (ja (lM m (own:=["stand"]) (cn:=[]) (aV:=[]) (one:=true) (jA (on:=(aH (bV 29)).names) (N:=["machine"]) (by decide +kernel)) (iv (jv 0)) (fun _ _ _ _=>(b1 (gn (show(["stand"]:List Str).Nodup by decide +kernel)))) (fun _ _ _ _=>qn) (fun _ _ _ _=>(bL ((c 28 rfl rfl).rL) (ja (jv 0) an)))) an)))
 c0)
theorem Fm {k:Nat}(T:TT K mg)(Z:Zt K mg)(IH:IT P w base T k):OT P w base T k 30 :=
 dX 30 (fn:=qR) (N:=["book","machine"]) T IH rfl ⟨rfl,rfl,rfl,by decide +kernel,rfl,by decide +kernel,by decide +kernel⟩ rfl rfl rfl fun aT A outer s H E hr m u c cm ck nd=>by
 exact(cc (bR m (bL (c 29 rfl rfl) (ja (bL (c 22 rfl rfl) (ja (jv 0) (ja (jv 1) an))) an)))
 c0)
theorem N5 {k:Nat}{Cl:Addr}(T:TT K mg)(Z:Zt K mg)(Y:mE K "NoText" Cl)(IH:IT P w base T k)(IX:XT P w base T Cl k):OX P w base T Cl k 31 :=
 KU 31 (fn:=HR) (N:=["text","parts"]) T IH IX rfl ⟨rfl,rfl,rfl,by decide +kernel,rfl,by decide +kernel,by decide +kernel⟩ rfl rfl rfl fun aT A outer s H E EX hr hE m u c cm ck cx cmx nd=>by
 exact(cc (sn (i:=1) m nd (Na (jv 0) (ja js an)))
 (cc (bR m (jt m (ja (iL cU dI Z.b_tuple (ja (TL m (EL hE) (own:=["sign"]) (cn:=[]) (aV:=[]) (one:=true) (jA (on:=(aH (bV 31)).names) (N:=["text","parts"]) (by decide +kernel)) (iv (cG (jv 1) ji)) (fun _ _ _ _ _=>(b1 (gn (show(["sign"]:List Str).Nodup by decide +kernel)))) (fun _ _ _ _ _=>qn) (fun _ _ _ _ _ hx=>(uU (o:=.eq) u (jv 0) js))) an)) (ja (II (cx 26 rfl rfl rfl) (ja (cG (jv 1) ji) an)) an))))
 c0))
theorem OV {k:Nat}{Cl:Addr}(T:TT K mg)(Z:Zt K mg)(Y:mE K "NoText" Cl)(IH:IT P w base T k)(IX:XT P w base T Cl k):OX P w base T Cl k 32 :=
 KU 32 (fn:=BK) (N:=["line"]) T IH IX rfl ⟨rfl,rfl,rfl,by decide +kernel,rfl,by decide +kernel,by decide +kernel⟩ rfl rfl rfl fun aT A outer s H E EX hr hE m u c cm ck cx cmx nd=>by
 exact(cc (bR m (iL cU dI Z.b_tuple (ja (TL m (EL hE) (own:=["part"]) (cn:=[]) (aV:=[]) (one:=true) (jA (on:=(aH (bV 32)).names) (N:=["line"]) (by decide +kernel)) (iv (M7 (jv 0) (ja js an))) (fun _ _ _ _ _=>(b1 (gn (show(["part"]:List Str).Nodup by decide +kernel)))) (fun _ _ _ _ _=>qn) (fun _ _ _ _ _ hx=>(II (zO T IX rfl rfl rfl rfl rfl hr hx 31 rfl rfl rfl) (ja (jv 0) an)))) an)))
 c0)
noncomputable abbrev Jr:List Str:=["book","text","machine"]
theorem OE {k:Nat}{Cl:Addr}(T:TT K mg)(Z:Zt K mg)(Y:mE K "NoText" Cl)(IH:IT P w base T k)(IX:XT P w base T Cl k):OX P w base T Cl k 33 :=
 KU 33 (fn:=qO) (N:=Jr) T IH IX rfl ⟨rfl,rfl,rfl,by decide +kernel,rfl,by decide +kernel,by decide +kernel⟩ rfl rfl rfl fun aT A outer s H E EX hr hE m u c cm ck cx cmx nd=>by
 exact(cc (sx m (bL (c 15 rfl rfl) (ja (jv 0) an)))
 (cc (sn (i:=2) m nd (iL cU dI Z.b_tuple (ja (TL m (EL hE) (own:=["line"]) (cn:=[]) (aV:=[]) (one:=true) (jA (on:=(aH (bV 33)).names) (N:=Jr) (by decide +kernel)) (iv (II (cx 25 rfl rfl rfl) (ja (jv 1) an))) (fun _ _ _ _ _=>(b1 (gn (show(["line"]:List Str).Nodup by decide +kernel)))) (fun _ _ _ _ _=>qn) (fun _ _ _ _ _ hx=>(II (zO T IX rfl rfl rfl rfl rfl hr hx 32 rfl rfl rfl) (ja (jv 0) an)))) an)))
 (cc (fY m (nM (lU m (mD (tp (bL (c 21 rfl rfl) (ja (jv 0) (ja (jv 2) an))))) (nN (eD (o:=.ne) u (bL (c 29 rfl rfl) (ja (jv 2) an)) (jv 1))))) (cc (T9 hE Y)
 c0) c0)
 (cc (bR m (jv 2))
 c0))))
theorem Hf {k:Nat}(T:TT K mg)(Z:Zt K mg)(IH:IT P w base T k):OT P w base T k 34 :=
 dX 34 (fn:=rY) (N:=["_law_script","_law_k"]) T IH rfl ⟨rfl,rfl,rfl,by decide +kernel,rfl,by decide +kernel,by decide +kernel⟩ rfl rfl rfl fun aT A outer s H E hr m u c cm ck nd=>by
 exact(cc (fY m (eD (o:=.lt) u (jv 1) (cL bH cB Z.b_len (ja (jv 0) an))) (cc (bR m (cG (jv 0) (jv 1)))
 c0) c0)
 (cc (fY m (eD (o:=.eq) u (jv 0) (jl an)) (cc (bR m ji)
 c0) c0)
 (cc (bR m (bI (op:=.add) (bI (op:=.mul) (cG (jv 0) (bI (op:=.mod) (jv 1) (cL bH cB Z.b_len (ja (jv 0) an)))) ji) (jv 1)))
 c0)))
theorem Gi {k:Nat}(T:TT K mg)(Z:Zt K mg)(IH:IT P w base T k):OT P w base T k 35 :=
 dX 35 (fn:=uJ) (N:=["_law_script","_law_k","_law_many","_law_drawn"]) T IH rfl ⟨rfl,rfl,rfl,by decide +kernel,rfl,by decide +kernel,by decide +kernel⟩ rfl rfl rfl fun aT A outer s H E hr m u c cm ck nd=>by
 exact(cc (sn (i:=3) m nd (bI (op:=.mod) (bI (op:=.mul) (bI (op:=.add) (bI (op:=.add) (bL (c 34 rfl rfl) (ja (jv 0) (ja (jv 1) an))) (bI (op:=.mul) ji (jv 1))) ji) ji) ji))
 (cc (bR m (bI (op:=.mod) (bI (op:=.mod) (bI (op:=.add) (bI (op:=.add) (bI (op:=.mul) (jv 3) (jv 3)) (bI (op:=.mul) ji (jv 3))) (jv 1)) ji) (jv 2)))
 c0))
theorem Jc {k:Nat}(T:TT K mg)(Z:Zt K mg)(IH:IT P w base T k):OT P w base T k 36 :=
 dX 36 (fn:=yI) (N:=["_law_script","_law_m","_law_many"]) T IH rfl ⟨rfl,rfl,rfl,by decide +kernel,rfl,by decide +kernel,by decide +kernel⟩ rfl rfl rfl fun aT A outer s H E hr m u c cm ck nd=>by
 exact(cc (sg m (bI (op:=.add) (cG (jv 1) ji) ji) (gi (jv 1) ji))
 (cc (bR m (bL (c 35 rfl rfl) (ja (jv 0) (ja (cG (jv 1) ji) (ja (jv 2) an)))))
 c0))
theorem Im {k:Nat}(T:TT K mg)(Z:Zt K mg)(IH:IT P w base T k):OT P w base T k 37 :=
 dX 37 (fn:=vA) (N:=["_law_script","_law_m","_law_some","_law_turn","_law_row","_law_foe","_law_friend"]) T IH rfl ⟨rfl,rfl,rfl,by decide +kernel,rfl,by decide +kernel,by decide +kernel⟩ rfl rfl rfl fun aT A outer s H E hr m u c cm ck nd=>by
 exact(cc (sn (i:=2) m nd (jl (ja js (ja js (ja js (ja js (ja js (ja js (ja js (ja js an))))))))))
 (cc (sn (i:=3) m nd (bL (c 36 rfl rfl) (ja (jv 0) (ja (jv 1) (ja ji an)))))
 (cc (sn (i:=4) m nd (bI (op:=.add) (kL (jv 2) (os (jv 3)) on) (kL (jv 2) on (os (jv 3)))))
 (cc (sn (i:=5) m nd (bI (op:=.add) ji (bL (c 36 rfl rfl) (ja (jv 0) (ja (jv 1) (ja ji an))))))
 (cc (sn (i:=6) m nd (bI (op:=.add) ji (bL (c 36 rfl rfl) (ja (jv 0) (ja (jv 1) (ja ji an))))))
 (cc (bR m (jt m (ja (iL cU dI Z.b_tuple (ja (kL (jv 4) on (os (jv 5))) an)) (ja (iL cU dI Z.b_tuple (ja (kL (jv 4) (os (jv 5)) (os (bI (op:=.add) (jv 5) (jv 6)))) an)) an))))
 c0))))))
theorem Fj {k:Nat}(T:TT K mg)(Z:Zt K mg)(IH:IT P w base T k):OT P w base T k 38 :=
 dX 38 (fn:=uD) (N:=["_law_script","_law_m","_law_names_here","_law_deep","_law_left","_law_way","_law_one"]) T IH rfl ⟨rfl,rfl,rfl,by decide +kernel,rfl,by decide +kernel,by decide +kernel⟩ rfl rfl rfl fun aT A outer s H E hr m u c cm ck nd=>by
 exact(cc (sn (i:=5) m nd (bL (c 36 rfl rfl) (ja (jv 0) (ja (jv 1) (ja ji an)))))
 (cc (fY m (nM (lU m (eD (o:=.eq) u (jv 3) ji) (nN (eD (o:=.lt) u (jv 5) ji)))) (cc (bR m (jt m (ja js (ja (cG (jv 2) (bL (c 36 rfl rfl) (ja (jv 0) (ja (jv 1) (ja (cL bH cB Z.b_len (ja (jv 2) an)) an))))) an))))
 c0) c0)
 (cc (fY m (eD (o:=.eq) u (jv 5) ji) (cc (bR m (jt m (ja (cG (jl (ja js (ja js an))) (bL (c 36 rfl rfl) (ja (jv 0) (ja (jv 1) (ja ji an))))) an)))
 c0) c0)
 (cc (fY m (nM (YQ m (eD (o:=.gt) u (jv 5) ji) (nN (eD (o:=.gt) u (cG (jv 4) ji) ji)))) (cc (sg m (bI (op:=.sub) (cG (jv 4) ji) ji) (gi (jv 4) ji))
 (cc (sn (i:=6) m nd (bL (c 38 rfl rfl) (ja (jv 0) (ja (jv 1) (ja (jv 2) (ja (bI (op:=.sub) (jv 3) ji) (ja (jv 4) an)))))))
 (cc (fY m (eD (o:=.eq) u (jv 5) ji) (cc (bR m (jt m (ja js (ja (jv 6) (ja (bL (c 38 rfl rfl) (ja (jv 0) (ja (jv 1) (ja (jv 2) (ja (bI (op:=.sub) (jv 3) ji) (ja (jv 4) an)))))) an)))))
 c0) c0)
 (cc (bR m (jt m (ja (cG (jl (ja js (ja js (ja js an)))) (bI (op:=.sub) (jv 5) ji)) (ja (jv 6) an))))
 c0)))) c0)
 (cc (sn (i:=6) m nd (bL (c 38 rfl rfl) (ja (jv 0) (ja (jv 1) (ja (jv 2) (ja (bI (op:=.sub) (jv 3) ji) (ja (jv 4) an)))))))
 (cc (fY m (nM (lU m (eD (o:=.eq) u (jv 5) ji) (nN (eD (o:=.gt) u (jv 5) ji)))) (cc (bR m (jt m (ja js (ja (jv 6) an))))
 c0) c0)
 (cc (bR m (jt m (ja (cG (jl (ja js (ja js (ja js (ja js an))))) (bI (op:=.sub) (jv 5) ji)) (ja (jv 6) (ja (bL (c 38 rfl rfl) (ja (jv 0) (ja (jv 1) (ja (jv 2) (ja (bI (op:=.sub) (jv 3) ji) (ja (jv 4) an)))))) an)))))
 c0)))))))
theorem Ha {k:Nat}(T:TT K mg)(Z:Zt K mg)(IH:IT P w base T k):OT P w base T k 39 :=
 dX 39 (fn:=rM) (N:=["_law_script","_law_m","_law_foe","_law_names_here","_law_left","_law_one","_law_other"]) T IH rfl ⟨rfl,rfl,rfl,by decide +kernel,rfl,by decide +kernel,by decide +kernel⟩ rfl rfl rfl fun aT A outer s H E hr m u c cm ck nd=>by
 exact(cc (sn (i:=5) m nd (bL (c 38 rfl rfl) (ja (jv 0) (ja (jv 1) (ja (jv 2) (ja ji (ja (jl (ja ji an)) an)))))))
 (cc (fY m (nM (YQ m (eD (o:=.gt) u (cG (jv 4) ji) ji) (nN (eD (o:=.eq) u (bL (c 36 rfl rfl) (ja (jv 0) (ja (jv 1) (ja ji an)))) ji)))) (cc (sg m (bI (op:=.sub) (cG (jv 4) ji) ji) (gi (jv 4) ji))
 (cc (sn (i:=6) m nd (bL (c 38 rfl rfl) (ja (jv 0) (ja (jv 1) (ja (jv 3) (ja ji (ja (jl (ja ji an)) an)))))))
 (cc (bR m (jt m (ja (cG (jl (ja js (ja js (ja js an)))) (bL (c 36 rfl rfl) (ja (jv 0) (ja (jv 1) (ja ji an))))) (ja (jt m (ja js (ja (jv 6) an))) (ja (jv 5) an)))))
 c0))) c0)
 (cc (bR m (jv 5))
 c0)))
noncomputable abbrev Au:List Str:=["_law_script","_law_at","_law_pieces","_law_musts","_law_m","_law_foe","_law_friend","_law_names_here","_law_left","_law_wishes","_law_k","_law_price","_law_some","_law_known"]
theorem Hi {k:Nat}(T:TT K mg)(Z:Zt K mg)(IH:IT P w base T k):OT P w base T k 40 :=
 dX 40 (fn:=yD) (N:=Au) T IH rfl ⟨rfl,rfl,rfl,by decide +kernel,rfl,by decide +kernel,by decide +kernel⟩ rfl rfl rfl fun aT A outer s H E hr m u c cm ck nd=>by
 exact(cc (TK (i:=4) m nd (jl (ja (jv 1) an)))
 (cc (sg m (bL (c 37 rfl rfl) (ja (cX 0) (ja (cX 4) an))) (gt (gc (Mr (i:=5) nd) (gc (gn (i:=6) nd) nn))))
 (cc (TK (i:=7) m nd (bI (op:=.add) (cX 5) (jv 6)))
 (cc (TK (i:=8) m nd (jl (ja (bL (c 36 rfl rfl) (ja (cX 0) (ja (cX 4) (ja (bI (op:=.add) (jv 2) ji) an)))) an)))
 (cc (sn (i:=9) m nd (jl an))
 (cc (A8 (i:=10) m nd (DJ m Z.b_range (ja (bI (op:=.add) ji (bL (c 36 rfl rfl) (ja (cX 0) (ja (cX 4) (ja ji an))))) an)) (cc (sn (i:=11) m nd (bI (op:=.add) ji (bL (c 36 rfl rfl) (ja (cX 0) (ja (cX 4) (ja (cG (jl (ja ji (ja ji (ja ji an)))) (bL (c 36 rfl rfl) (ja (cX 0) (ja (cX 4) (ja ji an))))) an))))))
 (cc (sx m (A5 (jv 9) (ja (jt m (ja (jv 11) (ja (bL (c 38 rfl rfl) (ja (cX 0) (ja (cX 4) (ja (cX 7) (ja ji (ja (cX 8) an)))))) an))) an)))
 c0)))
 (cc (Ef (i:=12) m nd (own:=["_law_k"]) (cn:=["_law_script","_law_m","_law_names_here","_law_left"]) (aV:=[0,4,7,8]) (one:=true) (jA (on:=(aH (bV 40)).names) (N:=Au) (by decide +kernel)) (DJ m Z.b_range (ja (bL (c 36 rfl rfl) (ja (cX 0) (ja (cX 4) (ja (bI (op:=.add) (jv 3) ji) an)))) an)) (fun _ _ _ _=>(b1 (gn (show(["_law_k","_law_script","_law_m","_law_names_here","_law_left"]:List Str).Nodup by decide +kernel)))) (fun _ _ _ _=>qn) (fun _ _ _ _=>(bL ((c 38 rfl rfl).rL) (ja (cX 1) (ja (cX 2) (ja (cX 3) (ja ji (ja (cX 4) an))))))))
 (cc (Ef (i:=13) m nd (own:=["_law_k"]) (cn:=["_law_script","_law_m","_law_foe","_law_names_here","_law_left"]) (aV:=[0,4,5,7,8]) (one:=true) (jA (on:=(aH (bV 40)).names) (N:=Au) (by decide +kernel)) (DJ m Z.b_range (ja (bL (c 36 rfl rfl) (ja (cX 0) (ja (cX 4) (ja ji an)))) an)) (fun _ _ _ _=>(b1 (gn (show(["_law_k","_law_script","_law_m","_law_foe","_law_names_here","_law_left"]:List Str).Nodup by decide +kernel)))) (fun _ _ _ _=>qn) (fun _ _ _ _=>(bL ((c 39 rfl rfl).rL) (ja (cX 1) (ja (cX 2) (ja (cX 3) (ja (cX 4) (ja (cX 5) an))))))))
 (cc (bR m (jt m (ja (cX 5) (ja (jv 6) (ja (iL cU dI Z.b_tuple (ja (jv 13) an)) (ja (iL cU dI Z.b_tuple (ja (jv 12) an)) (ja (iL cU dI Z.b_tuple (ja (jv 9) an)) an)))))))
 c0)))))))))
theorem Hb {k:Nat}(T:TT K mg)(Z:Zt K mg)(IH:IT P w base T k):OT P w base T k 41 :=
 dX 41 (fn:=pY) (N:=["_law_many","_law_rows","_law_turn","_law_more","_law_row"]) T IH rfl ⟨rfl,rfl,rfl,by decide +kernel,rfl,by decide +kernel,by decide +kernel⟩ rfl rfl rfl fun aT A outer s H E hr m u c cm ck nd=>by
 exact(cc (sn (i:=1) m nd (jl (ja (jt m an) an)))
 (cc (A8 (i:=2) m nd (DJ m Z.b_range (ja (jv 0) an)) (cc (sn (i:=3) m nd (jl an))
 (cc (A8 (i:=4) m nd (iv (jv 1)) (cc (sx m (Jv (jv 3) (ja (jl (ja (bI (op:=.add) (jv 4) (jt m (ja jb an))) (ja (bI (op:=.add) (jv 4) (jt m (ja jb an))) an))) an)))
 c0))
 (cc (sn (i:=1) m nd (jv 3))
 c0))))
 (cc (bR m (jv 1))
 c0)))
theorem Fe {k:Nat}(T:TT K mg)(Z:Zt K mg)(IH:IT P w base T k):OT P w base T k 42 :=
 dX 42 (fn:=rR) (N:=["_law_script","_law_at","_law_foe","_law_friend","_law_most","_law_many","_law_some","_law_stands","_law_k","_law_row","_law_j","_law_cell"]) T IH rfl ⟨rfl,rfl,rfl,by decide +kernel,rfl,by decide +kernel,by decide +kernel⟩ rfl rfl rfl fun aT A outer s H E hr m u c cm ck nd=>by
 exact(cc (sn (i:=5) m nd (bI (op:=.add) ji (bL (c 35 rfl rfl) (ja (jv 0) (ja (jv 1) (ja (jv 4) an))))))
 (cc (sn (i:=6) m nd (bL (c 41 rfl rfl) (ja (jv 3) an)))
 (cc (sn (i:=7) m nd (jl an))
 (cc (A8 (i:=8) m nd (DJ m Z.b_range (ja (jv 5) an)) (cc (sn (i:=9) m nd (jl an))
 (cc (A8 (i:=10) m nd (DJ m Z.b_range (ja (cL bH cB Z.b_len (ja (bL (c 41 rfl rfl) (ja (jv 2) an)) an)) an)) (cc (sn (i:=11) m nd (bL (c 35 rfl rfl) (ja (jv 0) (ja (bI (op:=.add) (bI (op:=.add) (bI (op:=.add) (jv 1) ji) (bI (op:=.mul) ji (jv 8))) (jv 10)) (ja (bI (op:=.mul) ji (jv 5)) an)))))
 (cc (sx m (A5 (jv 9) (ja (jt m (ja (cG (jv 6) (bI (op:=.mod) (bI (op:=.mod) (jv 11) ji) (cL bH cB Z.b_len (ja (jv 6) an)))) (ja (bI (op:=.fdiv) (jv 11) ji) an))) an)))
 c0)))
 (cc (sx m (A5 (jv 7) (ja (iL cU dI Z.b_tuple (ja (jv 9) an)) an)))
 c0))))
 (cc (bR m (iL cU dI Z.b_tuple (ja (jv 7) an)))
 c0)))))
theorem Iw {k:Nat}(T:TT K mg)(Z:Zt K mg)(IH:IT P w base T k):OT P w base T k 43 :=
 dX 43 (fn:=tT) (N:=["_law_text","_law_cell","_law_more","_law_at","_law_sign","_law_way","_law_end"]) T IH rfl ⟨rfl,rfl,rfl,by decide +kernel,rfl,by decide +kernel,by decide +kernel⟩ rfl rfl rfl fun aT A outer s H E hr m u c cm ck nd=>by
 exact(cc (sn (i:=3) m nd (bI (op:=.mod) (jv 1) (bI (op:=.add) (cL bH cB Z.b_len (ja (jv 0) an)) ji)))
 (cc (sn (i:=4) m nd (cG js (bI (op:=.mod) (bI (op:=.fdiv) (jv 1) ji) ji)))
 (cc (sn (i:=5) m nd (bI (op:=.mod) (bI (op:=.fdiv) (jv 1) ji) ji))
 (cc (fY m (eD (o:=.eq) u (jv 5) ji) (cc (bR m (bI (op:=.add) (bI (op:=.add) (kL (jv 0) on (os (jv 3))) (jv 4)) (kL (jv 0) (os (jv 3)) on)))
 c0) c0)
 (cc (fY m (eD (o:=.eq) u (jv 5) ji) (cc (bR m (bI (op:=.add) (kL (jv 0) on (os (jv 3))) (kL (jv 0) (os (bI (op:=.add) (jv 3) ji)) on)))
 c0) c0)
 (cc (fY m (eD (o:=.eq) u (jv 5) ji) (cc (bR m (bI (op:=.add) (bI (op:=.add) (kL (jv 0) on (os (jv 3))) (jv 4)) (kL (jv 0) (os (bI (op:=.add) (jv 3) ji)) on)))
 c0) c0)
 (cc (fY m (eD (o:=.eq) u (jv 5) ji) (cc (sn (i:=6) m nd (bI (op:=.add) (jv 3) (bI (op:=.mod) (bI (op:=.fdiv) (jv 1) ji) ji)))
 (cc (bR m (bI (op:=.add) (kL (jv 0) on (os (jv 3))) (kL (jv 0) (os (jv 6)) on)))
 c0)) c0)
 (cc (fY m (eD (o:=.eq) u (jv 5) ji) (cc (bR m (cG (jl (ja (bI (op:=.add) (jv 0) (jv 0)) (ja (bI (op:=.add) (kL (jv 0) (os (jv 3)) on) (kL (jv 0) on (os (jv 3)))) (ja (bI (op:=.add) js (jv 0)) (ja (bI (op:=.add) (jv 0) js) an))))) (bI (op:=.mod) (jv 1) ji)))
 c0) c0)
 (cc (bR m (cG (bI (op:=.add) (jv 2) (jl (ja jn (ja ji (ja (jl (ja (jv 0) an)) (ja js an)))))) (bI (op:=.mod) (jv 1) (bI (op:=.add) (cL bH cB Z.b_len (ja (jv 2) an)) ji))))
 c0)))))))))
noncomputable abbrev Jh:List Str:=["_law_machine_here","_law_lines","_law_stand","_law_parts","_law_friend","_law_to"]
theorem Hs {k:Nat}(T:TT K mg)(Z:Zt K mg)(IH:IT P w base T k):OT P w base T k 44 :=
 dX 44 (fn:=qM) (N:=Jh) T IH rfl ⟨rfl,rfl,rfl,by decide +kernel,rfl,by decide +kernel,by decide +kernel⟩ rfl rfl rfl fun aT A outer s H E hr m u c cm ck nd=>by
 exact(cc (sn (i:=1) m nd (jl an))
 (cc (A8 (i:=2) m nd (iv (jv 0)) (cc (sn (i:=3) m nd (jl an))
 (cc (sf m (iv (jv 2)) (gt (gc (gn (i:=4) nd) (gc (gn (i:=5) nd) nn))) (cc (sx m (A5 (jv 3) (ja (bI (op:=.add) (bI (op:=.add) (JV js (ja (lM m (own:=["_law_lamp"]) (cn:=[]) (aV:=[]) (one:=true) (jA (on:=(aH (bV 44)).names) (N:=Jh) (by decide +kernel)) (iv (jv 4)) (fun _ _ _ _=>(b1 (gn (show(["_law_lamp"]:List Str).Nodup by decide +kernel)))) (fun _ _ _ _=>qn) (fun _ _ _ _=>(cG (jl (ja js (ja js an))) (iL uK uZ Z.b_int (ja (jv 0) an))))) an)) js) (iL vO nJ Z.b_str (ja (jv 5) an))) an)))
 c0))
 (cc (sx m (A5 (jv 1) (ja (bI (op:=.add) (JV js (ja (jv 3) an)) js) an)))
 c0))))
 (cc (bR m (JV js (ja (jv 1) an)))
 c0)))
noncomputable abbrev UP:List Str:=["_law_part","_law_friend","_law_many","_law_pieces"]
theorem Hm {k:Nat}(T:TT K mg)(Z:Zt K mg)(IH:IT P w base T k):OT P w base T k 45 :=
 dX 45 (fn:=yJ) (N:=UP) T IH rfl ⟨rfl,rfl,rfl,by decide +kernel,rfl,by decide +kernel,by decide +kernel⟩ rfl rfl rfl fun aT A outer s H E hr m u c cm ck nd=>by
 exact(cc (sn (i:=3) m nd (M7 (jv 0) (ja js an)))
 (cc (fY m (nM (lU m (eD (o:=.ne) u (cL bH cB Z.b_len (ja (jv 3) an)) ji) (lU m (eD (o:=.ne) u (cL bH cB Z.b_len (ja (cG (jv 3) ji) an)) (jv 1)) (nN (eD (o:=.ne) u (lM m (own:=["_law_sign"]) (cn:=[]) (aV:=[]) (one:=true) (jA (on:=(aH (bV 45)).names) (N:=UP) (by decide +kernel)) (iv (cG (jv 3) ji)) (fun _ _ _ _=>(b1 (gn (show(["_law_sign"]:List Str).Nodup by decide +kernel)))) (fun _ _ _ _=>(qc (eD (o:=.gS) u (jv 0) js) qn)) (fun _ _ _ _=>(jv 0))) (jl an)))))) (cc (bR m jn)
 c0) c0)
 (cc (fY m (eD (o:=.gS) u (cG (jv 3) ji) (lM m (own:=["_law_k"]) (cn:=[]) (aV:=[]) (one:=true) (jA (on:=(aH (bV 45)).names) (N:=UP) (by decide +kernel)) (DJ m Z.b_range (ja (jv 2) an)) (fun _ _ _ _=>(b1 (gn (show(["_law_k"]:List Str).Nodup by decide +kernel)))) (fun _ _ _ _=>qn) (fun _ _ _ _=>(iL vO nJ Z.b_str (ja (jv 0) an))))) (cc (bR m jn)
 c0) c0)
 (cc (bR m (jt m (ja (iL cU dI Z.b_tuple (ja (lM m (own:=["_law_sign"]) (cn:=[]) (aV:=[]) (one:=true) (jA (on:=(aH (bV 45)).names) (N:=UP) (by decide +kernel)) (iv (cG (jv 3) ji)) (fun _ _ _ _=>(b1 (gn (show(["_law_sign"]:List Str).Nodup by decide +kernel)))) (fun _ _ _ _=>qn) (fun _ _ _ _=>(uU (o:=.eq) u (jv 0) js))) an)) (ja (iL uK uZ Z.b_int (ja (cG (jv 3) ji) an)) an))))
 c0))))
noncomputable abbrev Jk:List Str:=["_law_text","_law_foe","_law_friend","_law_lines","_law_stands","_law_line","_law_row"]
theorem Io {k:Nat}(T:TT K mg)(Z:Zt K mg)(IH:IT P w base T k):OT P w base T k 46 :=
 dX 46 (fn:=A6) (N:=Jk) T IH rfl ⟨rfl,rfl,rfl,by decide +kernel,rfl,by decide +kernel,by decide +kernel⟩ rfl rfl rfl fun aT A outer s H E hr m u c cm ck nd=>by
 exact(cc (fY m (nM (lU m (mD (tp (rG (t:=.str) nJ Z.b_isinstance Z.b_str (jv 0)))) (nN (eD (o:=.ne) u (kL (jv 0) (os (UC ji)) on) js)))) (cc (bR m jn)
 c0) c0)
 (cc (TK (i:=3) m nd (M7 (kL (jv 0) on (os (UC ji))) (ja js an)))
 (cc (sn (i:=4) m nd (jl an))
 (cc (A8 (i:=5) m nd (iv (cX 3)) (cc (Ef (i:=6) m nd (own:=["_law_part"]) (cn:=["_law_friend","_law_lines"]) (aV:=[2,3]) (one:=true) (jA (on:=(aH (bV 46)).names) (N:=Jk) (by decide +kernel)) (iv (M7 (jv 5) (ja js an))) (fun _ _ _ _=>(b1 (gn (show(["_law_part","_law_friend","_law_lines"]:List Str).Nodup by decide +kernel)))) (fun _ _ _ _=>qn) (fun _ _ _ _=>(bL ((c 45 rfl rfl).rL) (ja (jv 0) (ja (cX 1) (ja (cL bH cB Z.b_len (ja (cX 2) an)) an))))))
 (cc (fY m (nM (lU m (eD (o:=.in_) u jn (jv 6)) (lU m (eD (o:=.ne) u (cL bH cB Z.b_len (ja (jv 6) an)) (cG (jl (ja ji (ja ji an))) (bI (op:=.sub) (jv 1) ji))) (nN (eD (o:=.gt) u (cL bH cB Z.b_len (ja (cX 3) an)) ji))))) (cc (bR m jn)
 c0) c0)
 (cc (sx m (A5 (jv 4) (ja (iL cU dI Z.b_tuple (ja (jv 6) an)) an)))
 c0))))
 (cc (bR m (iL cU dI Z.b_tuple (ja (jv 4) an)))
 c0)))))
theorem Ku (P:eB)(σ:St)(st:aB)(hl:6<σ.length)(h:bU nD G.sub [.iff (.or_ (.not_ (.isi (.v 6) [.err 1])) (.or_ (.not_ (.isi (.v 6) [.err 0])) (.isi (.v 6) [.err 3]))) [.ret (.c (.bl false))] []] P (σ.set 6 (some (.exc xN))) st):P.nx (σ.set 6 (some (.exc xN))) st:=by
 have e:(σ.set 6 (some (.exc xN)))[6]? = some (some (.exc xN)):=fe hl
 simp only[bU,wpS,aF,fK,e,qK,fS,dJ]at h
 exact h
noncomputable abbrev GU:List Str:=["_law_script","_law_book_here","_law_machine_here","_law_text","_law_more","_law_answer","e"]
theorem Jg {k:Nat}{Cl:Addr}(T:TT K mg)(Z:Zt K mg)(Y:mE K "NoText" Cl)(W1:∃ a,mg "LossError" = some (.ref a)/\yG K Cl (.ref a) true)(W2:mg "ValueError" = none/\yG K Cl (.type "ValueError") true)(W3:∃ a,mg "NoMachine" = some (.ref a)/\yG K Cl (.ref a) false)(yc:(mn K Cl).isSome=true)(IH:IT P w base T k)(IX:XT P w base T Cl k):cM P w K mg base gH (2*k+1+1) (T.a 47) (T.fd 47) (jU 47) (HM K (aI G (k+1)) 47) :=
 Am (fn:=UO) (N:=GU) (T.fn 47 (by decide)) ⟨rfl,rfl,rfl,by decide +kernel,rfl,by decide +kernel,by decide +kernel⟩ rfl rfl rfl fun aT A outer s H E hr=>by
 obtain⟨a1,m1,q1⟩:=W1
 obtain⟨m2,q2⟩:=W2
 obtain⟨a3,m3,q3⟩:=W3
 have m:=kX G (bb k)
 have u:=LN hr
 have c:=BU (X:=(cW gH P w K mg base GU (eY 47) (aH (bV 47)) (T.a 47) aT A outer s H E).mF) T IH rfl rfl rfl rfl rfl hr
 have cm:=BY (X:=(cW gH P w K mg base GU (eY 47) (aH (bV 47)) (T.a 47) aT A outer s H E).mF) T IH rfl rfl rfl rfl rfl hr
 have ck:=@B2 P w K mg base k T IH (cW gH P w K mg base GU (eY 47) (aH (bV 47)) (T.a 47) aT A outer s H E).mF rfl rfl rfl rfl rfl hr
 have nd:GU.Nodup:=by decide +kernel
 have isi:∀(a:Addr){n:Str}{u:Value}{v:V}{b:Bool}{p p1 p2 pos:Pos},yG K Cl u b->RelV v u->(∀ u',RelV v u'->u'=u)->PE (mk (cW gH P w K mg base GU (eY 47) (aH (bV 47)) (T.a 47) aT A outer s H E).mF a) (.Name n p2) (tC v) ->
  ar [.Name "e" p1,.Name n p2] (gh (eY 47) (aH (bV 47)) s.heap.objs.size (T.a 47) aT)=(false,eval (.Name "e" p1) (gh (eY 47) (aH (bV 47)) s.heap.objs.size (T.a 47) aT))::ar [.Name n p2] (gh (eY 47) (aH (bV 47)) s.heap.objs.size (T.a 47) aT) ->
  PE (mk (cW gH P w K mg base GU (eY 47) (aH (bV 47)) (T.a 47) aT A outer s H E).mF a) (.Call (.Name "isinstance" p) [.Name "e" p1,.Name n p2] [] pos) (OG 6 v Cl b):=fun a n u v b p p1 p2 pos q r ru hn dA =>
 zE (VO Y.xc yc q r ru) (xE (by kernel_rfl)) Z.b_isinstance tP (oJ (pv 6 (by kernel_rfl) (.inl (by kernel_rfl))) (oJ hn AO) dA)
 exact(zc (JS.z (sn (i:=1) m nd (bL (c 40 rfl rfl) (ja (jv 0) (ja ji (ja ji (ja ji an)))))))
 (zc (JS.z (sn (i:=2) m nd (bL (c 42 rfl rfl) (ja (jv 0) (ja ji (ja (cL bH cB Z.b_len (ja (cG (jv 1) ji) an)) (ja (cL bH cB Z.b_len (ja (cG (jv 1) ji) an)) (ja ji an))))))))
 (zc (JS.z (sn (i:=3) m nd (bL (c 30 rfl rfl) (ja (jv 1) (ja (jv 2) an)))))
 (zc (JS.z (fY m (nM (lU m (mD (tp (rG (t:=.str) nJ Z.b_isinstance Z.b_str (jv 3)))) (lU m (eD (o:=.ne) u (jv 3) (bL (c 44 rfl rfl) (ja (jv 2) an))) (nN (eD (o:=.ne) u (bL (c 33 rfl rfl) (ja (jv 1) (ja (jv 3) an))) (jv 2)))))) (cc (bR m jb)
 c0) c0))
 (zc (JS.z (sn (i:=4) m nd (jl (ja (bI (op:=.add) (jv 3) (kL (jv 3) on (os ji))) (ja (kL (jv 3) on (os (UC ji))) (ja (bI (op:=.mul) (jv 3) ji) (ja (bI (op:=.add) (jv 3) js) an)))))))
 (zc (JS.z (sn (i:=3) m nd (bL (c 43 rfl rfl) (ja (jv 3) (ja (bL (c 35 rfl rfl) (ja (jv 0) (ja ji (ja (bI (op:=.pow) ji ji) an)))) (ja (jv 4) an))))))
 (zc (JS.z (sn (i:=5) m nd jn))
 (zc ⟨Dc (fun _ _ z=>z) rfl rfl nd (IX 33 rfl) (hr.mono (by omega)) (xE (by kernel_rfl)) (T.mg 33 (by decide)) (T.fn 33 (by decide)).kp (T.bi 33 (by decide)) (fun _=>((ja (jv 1) (ja (jv 3) an))).h) Y (xE (by kernel_rfl)) rfl (by kernel_rfl) rfl (by kernel_rfl) (fun a=>ZS (isi a (v:=.ref a1) q1 rfl (fun _ z=>z) (B8 (xE (by kernel_rfl)) m1 rfl) rfl) (isi a (v:=.ty "ValueError") q2 rfl (fun _ z=>z) (J2 (xE (by kernel_rfl)) m2 EI rfl) rfl) (isi a (v:=.ref a3) q3 rfl (fun _ z=>z) (B8 (xE (by kernel_rfl)) m3 rfl) rfl)) rfl Ku (by decide) (by decide) rfl rfl (by kernel_rfl)⟩
 (zc (JS.z (bR m (uU (o:=.eq) u (jv 5) (bL (c 46 rfl rfl) (ja (jv 3) (ja (cL bH cB Z.b_len (ja (cG (jv 1) ji) an)) (ja (cL bH cB Z.b_len (ja (cG (jv 1) ji) an)) an)))))))
 z0)))))))))
theorem Nq {k:Nat}{Cl:Addr}(T:TT K mg)(Z:Zt K mg)(Y:mE K "NoText" Cl)(IH:IT P w base T k)(IX:XT P w base T Cl k):∀ i,i<48->i≠47->OT P w base T k i
 |0,_,_=>Ma T Z IH
 |1,_,_=>Lz T Z IH
 |2,_,_=>Lw T Z IH
 |3,_,_=>Ki T Z IH
 |4,_,_=>Lq T Z IH
 |5,_,_=>Ly T Z IH
 |6,_,_=>Lx T Z IH
 |7,_,_=>Mm T Z IH
 |8,_,_=>Kd T Z IH
 |9,_,_=>Ko T Z IH
 |10,_,_=>Hr T Z IH
 |11,_,_=>Ff T Z IH
 |12,_,_=>Ii T Z IH
 |13,_,_=>Fg T Z IH
 |14,_,_=>Gq T Z IH
 |15,_,_=>Gw T Z IH
 |16,_,_=>Fp T Z IH
 |17,_,_=>Hn T Z IH
 |18,_,_=>Fx T Z IH
 |19,_,_=>Ir T Z IH
 |20,_,_=>Ho T Z IH
 |21,_,_=>Es T Z IH
 |22,_,_=>Jf T Z IH
 |23,_,_=>cM.calm (O8 T Z Y IH IX)
 |24,_,_=>Gf T Z IH
 |25,_,_=>cM.calm (PU T Z Y IH IX)
 |26,_,_=>cM.calm (P7 T Z Y IH IX)
 |27,_,_=>Hv T Z IH
 |28,_,_=>Gg T Z IH
 |29,_,_=>Hy T Z IH
 |30,_,_=>Fm T Z IH
 |31,_,_=>cM.calm (N5 T Z Y IH IX)
 |32,_,_=>cM.calm (OV T Z Y IH IX)
 |33,_,_=>cM.calm (OE T Z Y IH IX)
 |34,_,_=>Hf T Z IH
 |35,_,_=>Gi T Z IH
 |36,_,_=>Jc T Z IH
 |37,_,_=>Im T Z IH
 |38,_,_=>Fj T Z IH
 |39,_,_=>Ha T Z IH
 |40,_,_=>Hi T Z IH
 |41,_,_=>Hb T Z IH
 |42,_,_=>Fe T Z IH
 |43,_,_=>Iw T Z IH
 |44,_,_=>Hs T Z IH
 |45,_,_=>Hm T Z IH
 |46,_,_=>Io T Z IH
 |47,_,h=>absurd rfl h
 |n+48,h,_=>absurd h (by omega)
theorem Lp {k:Nat}{Cl:Addr}(T:TT K mg)(Z:Zt K mg)(Y:mE K "NoText" Cl)(IH:IT P w base T k)(IX:XT P w base T Cl k):∀ i,FA i=true->OX P w base T Cl k i:=by
 intro i h
 unfold FA at h
 split at h
 ·exact O8 T Z Y IH IX
 ·exact PU T Z Y IH IX
 ·exact P7 T Z Y IH IX
 ·exact N5 T Z Y IH IX
 ·exact OV T Z Y IH IX
 ·exact OE T Z Y IH IX
 ·cases h
theorem MM {Cl:Addr}(T:TT K mg)(Z:Zt K mg)(Y:mE K "NoText" Cl):∀ k,(∀ i,i<48->i≠47->cM P w K mg base gH (2*k) (T.a i) (T.fd i) (jU i) (jO K (aI G k) i))/\XT P w base T Cl k
 |0=>⟨fun _ _ _=>WK,fun _ _=>SQ⟩
 |k+1=>let h:=MM T Z Y k;⟨Nq T Z Y h.1 h.2,Lp T Z Y h.1 h.2⟩
end
theorem SV:∀ ns:List Int,ns.length<=63->aI G 100 S9 [.bD (ns.map .int)] (fun _=>none) (fun d _=>d=.bl true) fun _ _=>False:=fun ns _ =>
 Ie (G:=G) (ila:=S9) (ibo:=xX) (ilm:=rA) (imt:=rV) (ilw:=rE) (irm:=qX) (isp:=uF) (im:=lO) (ide:=BE) (inm:=uH) (dB:=fR) (is:=gJ) (ipr:=qL) (ic:=qY) (is8:=qB) (ich:=vR) (ibk:=wB) (ili:=AS) (ict:=qV) (isi:=A3) (iwi:=IF) (ini:=xY) (ima:=oO) (isd:=AD) (ise:=tV) (ir:=gZ) (iwy:=HI) (ist:=vP) (ipl:=AB) (iw:=kH) (ilt:=vS) (isl:=vN) (il:=uQ) (icm:=oC) (ip:=yC)
 rfl rfl rfl rfl rfl rfl rfl rfl rfl rfl ⟨rfl,rfl,rfl,rfl,rfl,rfl,rfl,rfl,rfl,rfl,rfl,rfl,rfl,rfl,rfl,rfl,rfl,rfl⟩ rfl rfl
 (fun b B hs hd hc k st Q E hQ=>LW (G:=G) (ir:=gZ) (hU:=vV) (fA:=jS) (iy:=qH) (ia:=nS) (iap:=rD) (io:=vB) (il:=yF) (iaw:=vL) (ipi:=yH) (ip:=AL) (iw:=D1) (ibk:=wB) (ih:=kQ) (ib:=nW) rfl rfl rfl rfl rfl rfl rfl rfl rfl rfl rfl rfl rfl rfl rfl B hs hd hc hQ)
 rfl rfl rfl rfl rfl rfl rfl rfl ns (fun _=>rfl)
theorem lS {α:Type}{P:List α->Prop}(h:∀ a0,P [a0]):∀ us:List α,us.length=1->P us
 |[a0],_=>h a0
theorem ln2 {α:Type}{P:List α->Prop}(h:∀ a0 a1,P [a0,a1]):∀ us:List α,us.length=2->P us
 |[a0,a1],_=>h a0 a1
theorem uC {α:Type}{P:List α->Prop}(h:∀ a0 a1 a2,P [a0,a1,a2]):∀ us:List α,us.length=3->P us
 |[a0,a1,a2],_=>h a0 a1 a2
theorem Mx {α:Type}{P:List α->Prop}(h:∀ a0 a1 a2 a3,P [a0,a1,a2,a3]):∀ us:List α,us.length=4->P us
 |[a0,a1,a2,a3],_=>h a0 a1 a2 a3
theorem ZI {α:Type}{P:List α->Prop}(h:∀ a0 a1 a2 a3 a4,P [a0,a1,a2,a3,a4]):∀ us:List α,us.length=5->P us
 |[a0,a1,a2,a3,a4],_=>h a0 a1 a2 a3 a4
theorem Jy:∀ i,i<48->B7 (mC i) (eY i) (jU i) (bV i)
 |0,_=>fun _ _ _ _ _ _=>lS fun _=>rfl
 |1,_=>fun _ _ _ _ _ _=>ln2 fun _ _=>rfl
 |2,_=>fun _ _ _ _ _ _=>uC fun _ _ _=>rfl
 |3,_=>fun _ _ _ _ _ _=>lS fun _=>rfl
 |4,_=>fun _ _ _ _ _ _=>lS fun _=>rfl
 |5,_=>fun _ _ _ _ _ _=>uC fun _ _ _=>rfl
 |6,_=>fun _ _ _ _ _ _=>ln2 fun _ _=>rfl
 |7,_=>fun _ _ _ _ _ _=>uC fun _ _ _=>rfl
 |8,_=>fun _ _ _ _ _ _=>ln2 fun _ _=>rfl
 |9,_=>fun _ _ _ _ _ _=>uC fun _ _ _=>rfl
 |10,_=>fun _ _ _ _ _ _=>lS fun _=>rfl
 |11,_=>fun _ _ _ _ _ _=>ln2 fun _ _=>rfl
 |12,_=>fun _ _ _ _ _ _=>ln2 fun _ _=>rfl
 |13,_=>fun _ _ _ _ _ _=>uC fun _ _ _=>rfl
 |14,_=>fun _ _ _ _ _ _=>lS fun _=>rfl
 |15,_=>fun _ _ _ _ _ _=>lS fun _=>rfl
 |16,_=>fun _ _ _ _ _ _=>ln2 fun _ _=>rfl
 |17,_=>fun _ _ _ _ _ _=>lS fun _=>rfl
 |18,_=>fun _ _ _ _ _ _=>ln2 fun _ _=>rfl
 |19,_=>fun _ _ _ _ _ _=>uC fun _ _ _=>rfl
 |20,_=>fun _ _ _ _ _ _=>uC fun _ _ _=>rfl
 |21,_=>fun _ _ _ _ _ _=>ln2 fun _ _=>rfl
 |22,_=>fun _ _ _ _ _ _=>ln2 fun _ _=>rfl
 |23,_=>fun _ _ _ _ _ _=>lS fun _=>rfl
 |24,_=>fun _ _ _ _ _ _=>lS fun _=>rfl
 |25,_=>fun _ _ _ _ _ _=>lS fun _=>rfl
 |26,_=>fun _ _ _ _ _ _=>lS fun _=>rfl
 |27,_=>fun _ _ _ _ _ _=>lS fun _=>rfl
 |28,_=>fun _ _ _ _ _ _=>lS fun _=>rfl
 |29,_=>fun _ _ _ _ _ _=>lS fun _=>rfl
 |30,_=>fun _ _ _ _ _ _=>ln2 fun _ _=>rfl
 |31,_=>fun _ _ _ _ _ _=>lS fun _=>rfl
 |32,_=>fun _ _ _ _ _ _=>lS fun _=>rfl
 |33,_=>fun _ _ _ _ _ _=>ln2 fun _ _=>rfl
 |34,_=>fun _ _ _ _ _ _=>ln2 fun _ _=>rfl
 |35,_=>fun _ _ _ _ _ _=>uC fun _ _ _=>rfl
 |36,_=>fun _ _ _ _ _ _=>uC fun _ _ _=>rfl
 |37,_=>fun _ _ _ _ _ _=>ln2 fun _ _=>rfl
 |38,_=>fun _ _ _ _ _ _=>ZI fun _ _ _ _ _=>rfl
 |39,_=>fun _ _ _ _ _ _=>ZI fun _ _ _ _ _=>rfl
 |40,_=>fun _ _ _ _ _ _=>Mx fun _ _ _ _=>rfl
 |41,_=>fun _ _ _ _ _ _=>lS fun _=>rfl
 |42,_=>fun _ _ _ _ _ _=>ZI fun _ _ _ _ _=>rfl
 |43,_=>fun _ _ _ _ _ _=>uC fun _ _ _=>rfl
 |44,_=>fun _ _ _ _ _ _=>lS fun _=>rfl
 |45,_=>fun _ _ _ _ _ _=>uC fun _ _ _=>rfl
 |46,_=>fun _ _ _ _ _ _=>uC fun _ _ _=>rfl
 |47,_=>fun _ _ _ _ _ _=>lS fun _=>rfl
 |n+48,h=>absurd h (by omega)
noncomputable abbrev FF (K:ae)(mg:Str->Option Value)(i:Nat):=tJ K mg (mC i) (eY i) (bV i) (lD i)
theorem Nc {K:ae}{mg:Str->Option Value}(F0:FF K mg 0)(F1:FF K mg 1)(F2:FF K mg 2)(F3:FF K mg 3)(F4:FF K mg 4)(F5:FF K mg 5)(F6:FF K mg 6)(F7:FF K mg 7)(F8:FF K mg 8)(F9:FF K mg 9)(F10:FF K mg 10)(F11:FF K mg 11)(F12:FF K mg 12)(F13:FF K mg 13)(F14:FF K mg 14)(F15:FF K mg 15)(F16:FF K mg 16)(F17:FF K mg 17)(F18:FF K mg 18)(F19:FF K mg 19)(F20:FF K mg 20)(F21:FF K mg 21)(F22:FF K mg 22)(F23:FF K mg 23)(F24:FF K mg 24)(F25:FF K mg 25)(F26:FF K mg 26)(F27:FF K mg 27)(F28:FF K mg 28)(F29:FF K mg 29)(F30:FF K mg 30)(F31:FF K mg 31)(F32:FF K mg 32)(F33:FF K mg 33)(F34:FF K mg 34)(F35:FF K mg 35)(F36:FF K mg 36)(F37:FF K mg 37)(F38:FF K mg 38)(F39:FF K mg 39)(F40:FF K mg 40)(F41:FF K mg 41)(F42:FF K mg 42)(F43:FF K mg 43)(F44:FF K mg 44)(F45:FF K mg 45)(F46:FF K mg 46)(F47:FF K mg 47):∀ i,i<48->tJ K mg (mC i) (eY i) (bV i) (lD i)
 |0,_=>F0
 |1,_=>F1
 |2,_=>F2
 |3,_=>F3
 |4,_=>F4
 |5,_=>F5
 |6,_=>F6
 |7,_=>F7
 |8,_=>F8
 |9,_=>F9
 |10,_=>F10
 |11,_=>F11
 |12,_=>F12
 |13,_=>F13
 |14,_=>F14
 |15,_=>F15
 |16,_=>F16
 |17,_=>F17
 |18,_=>F18
 |19,_=>F19
 |20,_=>F20
 |21,_=>F21
 |22,_=>F22
 |23,_=>F23
 |24,_=>F24
 |25,_=>F25
 |26,_=>F26
 |27,_=>F27
 |28,_=>F28
 |29,_=>F29
 |30,_=>F30
 |31,_=>F31
 |32,_=>F32
 |33,_=>F33
 |34,_=>F34
 |35,_=>F35
 |36,_=>F36
 |37,_=>F37
 |38,_=>F38
 |39,_=>F39
 |40,_=>F40
 |41,_=>F41
 |42,_=>F42
 |43,_=>F43
 |44,_=>F44
 |45,_=>F45
 |46,_=>F46
 |47,_=>F47
 |n+48,h=>absurd h (by omega)
theorem Hh {K:ae}{h:Heap}{mg:Str->Option Value}(X:K.In h)(G:h.Ns br mg){C L B:Addr}(ns:fv K br "NoText" = some (some (.ref C)))(ex:xb K C As "ValueError.__new__" = true)
 (ga:du K (.ref C) "__getattribute__" = some (some (.builtin "BaseException.__getattribute__")))(gt:du K (.ref C) "__getattr__" = some none)(cl:du K (.ref C) "__class__" = some (some (.builtin "object.__class__")))
 (ob:jm K C (.type "object")=some true)(be:jm K C (.type "BaseException")=some true)(yc:ve K C=true)
 (nl:fv K br "LossError" = some (some (.ref L)))(l1:ve K L=true)(l2:vz K (.ref L)=some (.type "type"))(l3:jm K C (.ref L)=some true)(l4:Qv C L=false)
 (nv:fv K br "ValueError" = some none)(v1:jm K C (.type "ValueError")=some true)
 (nb:fv K br "NoMachine" = some (some (.ref B)))(b1:ve K B=true)(b2:vz K (.ref B)=some (.type "type"))(b3:jm K C (.ref B)=some false)(b4:Qv C B=false):XN K mg :=
 ⟨C,⟨ns,ex,ga,gt,cl,ob,be⟩,⟨L,j8 X G nl,J4 l1 l2 l3 l4⟩,⟨PySem.W.mg_none_of X G nv,W8 v1⟩,⟨B,j8 X G nb,J4 b1 b2 b3 b4⟩,yc⟩
theorem all_mk {P:bq}{w:cq}{K:ae}{mg:Str->Option Value}{fa:Addr}(hfa:mg "law" = some (.ref fa))(Z:Zt K mg)(F:∀ i,i<48->tJ K mg (mC i) (eY i) (bV i) (lD i)):
 ∃ fd:fx,(∀(s:ah)(u:Value),we s fd ⟨[u],[]⟩ [("_law_script", u)])/\∀ base:Heap,K.In base->base.Ns br mg->cM P w K mg base gH (2*100) fa fd ["_law_script"] (HM K (aI G 100) 47):=by
 obtain⟨_,d,_⟩:=F 0 (by decide)
 obtain⟨Cl,Y,W1,W2,W3,yc⟩:=Z.x_exc
 obtain⟨T⟩:=J7 48 Jy F d
 have e:=hfa.symm.trans (show mg "law" = some (.ref (T.a 47))from T.mg 47 (by decide))
 cases e
 exact⟨T.fd 47,ME (T.fn 47 (by decide)) (Jy 47 (by decide)),fun base _ _=>Jg (k:=99) T Z Y W1 W2 W3 yc (MM T Z Y 99).1 (MM T Z Y 99).2⟩
end L3
open PySem PySem.W PyProof.Rows
local macro_rules|`(tactic| walk_at"ft")=>`(tactic| (refine' L3.Gv (by assumption) (by assumption) ?a ?l ?c ?k;(case a=>k_is);(case l=>k_is);(case c=>k_is);(case k=>k_is)))
local macro_rules|`(tactic| walk_at"fi")=>`(tactic| (refine' L3.Gp (by assumption) (by assumption) ?cl ?mk ?kp ?a ?fn ?l ?cc ?k;(case cl=>k_is);(case mk=>k_is);(case kp=>k_is);(case a=>k_is);(case fn=>k_is);(case l=>k_is);(case cc=>k_is);(case k=>k_is)))
local macro_rules|`(tactic| walk_at"fm")=>`(tactic| (refine' L3.Gz (by assumption) (by assumption) ?cl ?pg ?hd ?po ?sa ?a ?fn ?l ?cc ?k;(case cl=>k_is);(case pg=>k_is);(case hd=>k_is);(case po=>k_is);(case sa=>k_is);(case a=>k_is);(case fn=>k_is);(case l=>k_is);(case cc=>k_is);(case k=>k_is)))
local macro_rules|`(tactic| walk_at"fc")=>`(tactic| (refine' L3.Dh ?cl ?pg ?hd ?po ?sa;(case cl=>k_is);(case pg=>k_is);(case hd=>k_is);(case po=>k_is);(case sa=>k_is)))
local macro_rules|`(tactic| walk_at"fa")=>`(tactic| (refine' L3.Eb ?cl ?na;(case cl=>k_is);(case na=>k_is)))
local macro_rules|`(tactic| walk_at"fn")=>`(tactic| (refine' PySem.W.mg_none_of (by assumption) (by assumption) ?x;(case x=>k_is)))
local macro_rules|`(tactic| walk_at"fg")=>`(tactic| (refine' L3.Ao (by assumption) (by assumption) ?a;(case a=>k_is)))
namespace PySem.W.Fast
def tw10054967019776968075:Unit:=()
def tw15396119049162752083:Unit:=()
def tw10725359602090202182:Unit:=()
def tw5171974642632948784:Unit:=()
def tw10029397122240111400:Unit:=()
def tw2926792533520747302:Unit:=()
def tw15133449674004442967:Unit:=()
def tw14967098328083231322:Unit:=()
def tw12917188420954429410:Unit:=()
def tw10618641652481992002:Unit:=()
def tw3052236352171274388:Unit:=()
def tw14805028394184727715:Unit:=()
def tw15833376427491397136:Unit:=()
def tw15230773230903114365:Unit:=()
def tw10408140903163646434:Unit:=()
def tw8924664940354463961:Unit:=()
def tw6421898980153899616:Unit:=()
def tw10340216599315041715:Unit:=()
def tw18338123569304872557:Unit:=()
def tw5757004994057094776:Unit:=()
def tw13015590329012356678:Unit:=()
def tw15779269068419471257:Unit:=()
def tw4891200873861438756:Unit:=()
def tw5559226462129573261:Unit:=()
def tw18066526723772419455:Unit:=()
def tw11888969452434060736:Unit:=()
def tw10484471308102504834:Unit:=()
def tw10536188093883358078:Unit:=()
def tw16696119293968436426:Unit:=()
def tw5827017380086445490:Unit:=()
def tw13783091718572692659:Unit:=()
def tw17954740580231829744:Unit:=()
def tw9457604900395612453:Unit:=()
def tw8962452690853927977:Unit:=()
def tw11709760195611435661:Unit:=()
def tw10374200725087022231:Unit:=()
def tw16576888429965165604:Unit:=()
def tw7544134558002623830:Unit:=()
def tw12361687308578603335:Unit:=()
def tw13885775955954402969:Unit:=()
def tw13441631669370579111:Unit:=()
def tw11573720655042560407:Unit:=()
def tw8607306574706994018:Unit:=()
def tw5461974715614866898:Unit:=()
def tw2406571261311057079:Unit:=()
def tw6669180794126690666:Unit:=()
def tw17439058668878691656:Unit:=()
def tw6316288300832414467:Unit:=()
def tw3767315119360441567:Unit:=()
def tw792131365154910447:Unit:=()
def tw16175914760590424244:Unit:=()
def tw17229808980707758909:Unit:=()
def tw17146322928992011726:Unit:=()
def tw11850560152336629591:Unit:=()
def tw17855043414092555235:Unit:=()
def tw16566227021931690275:Unit:=()
def tw8774242185389926242:Unit:=()
def tw850621394944482655:Unit:=()
def tw13064838787194173832:Unit:=()
def tw6711072853801379636:Unit:=()
def tw16057719471315607817:Unit:=()
def tw732242477160546566:Unit:=()
def tw8608712330033006351:Unit:=()
def tw11495052034017457777:Unit:=()
def tw3740076658649884800:Unit:=()
def tw10924727255882759100:Unit:=()
def tw6037776390462758321:Unit:=()
def tw12914931658777930666:Unit:=()
def tw15069555945207397163:Unit:=()
def tw8691651204177628961:Unit:=()
def tw16466775812328235520:Unit:=()
def tw3164732936399832705:Unit:=()
def tw10330251024225146129:Unit:=()
def tw7338946068015913718:Unit:=()
def tw17089614107097092221:Unit:=()
def tw13990773499631614157:Unit:=()
def tw15303332367384121821:Unit:=()
def tw9934226455173655778:Unit:=()
def tw6392097900046915935:Unit:=()
def tw6543204842316837649:Unit:=()
def tw11883786806951993314:Unit:=()
def tw3290143248013821891:Unit:=()
def tw17704966599906253928:Unit:=()
def tw14935665941178263598:Unit:=()
def tw10942584212123652502:Unit:=()
def tw3311523279036321456:Unit:=()
def tw8161463733636365270:Unit:=()
def tw8912848911588794600:Unit:=()
def tw15611070722522939042:Unit:=()
end PySem.W.Fast
set_option maxRecDepth 100000 in
set_option maxHeartbeats 0 in
theorem PySem.Challenge.cw_leastloss_k33_machine_texts_holds : PySem.Challenge.rw_leastloss_k33_machine_texts.Holds := by
 w_on;o_law;k_head;(case hw=>w_witness2)
 k_fill
 refine L3.Bi (l:=PySem.Challenge.rw_leastloss_k33_machine_texts) (x :="_law_script") (r:=2*100) (k:=100) (f:=47) (G:=L3.G) ⟨rfl,by decide,by decide⟩ L3.SV rfl rfl (fun w h Y=>PySem.W.kIn_of Y) ?F
 case F =>
 intro w mg fa h KX G hmg
 refine L3.all_mk hmg ?Z (L3.Nc ?F0 ?F1 ?F2 ?F3 ?F4 ?F5 ?F6 ?F7 ?F8 ?F9 ?F10 ?F11 ?F12 ?F13 ?F14 ?F15 ?F16 ?F17 ?F18 ?F19 ?F20 ?F21 ?F22 ?F23 ?F24 ?F25 ?F26 ?F27 ?F28 ?F29 ?F30 ?F31 ?F32 ?F33 ?F34 ?F35 ?F36 ?F37 ?F38 ?F39 ?F40 ?F41 ?F42 ?F43 ?F44 ?F45 ?F46 ?F47)
 case Z =>
  refine⟨?x_exc,?b_isinstance,?b_str,?b_len,?b_all,?b_tuple,?b_list,?b_reversed,?b_set,?b_any,?b_int,?b_bool,?b_range,?g_NO_NAMES,?g_LONGEST_NAME,?g_LETTERS,?g_DEEPEST,?g_SAYINGS_WITHIN,?g_PAST_WORDS,?g_MOST_LAMPS,?g_MOST_PROMISES,?g_HIGHEST_PRICE,?g_MOST_WISHES,?g_MOST_MUSTS,?g_MOST_PIECES,?g_MOST_STANDS,?g_MOST_DIGITS,?g_DIGITS⟩
  case x_exc=>refine' L3.Hh KX G ?xxns ?xxex ?xxga ?xxgt ?xxcl ?xxob ?xxbe ?xxyc ?xxnl ?xxl1 ?xxl2 ?xxl3 ?xxl4 ?xxnv ?xxv1 ?xxnb ?xxb1 ?xxb2 ?xxb3 ?xxb4;(case xxns=>k_is);(case xxex=>k_exc);(case xxga=>k_is);(case xxgt=>k_is);(case xxcl=>k_is);(case xxob=>k_is);(case xxbe=>k_is);(case xxyc=>k_is);(case xxnl=>k_is);(case xxl1=>k_is);(case xxl2=>k_is);(case xxl3=>k_is);(case xxl4=>rfl);(case xxnv=>k_is);(case xxv1=>k_is);(case xxnb=>k_is);(case xxb1=>k_is);(case xxb2=>k_is);(case xxb3=>k_is);(case xxb4=>rfl)
  case b_isinstance=>walk_at"fn"
  case b_str=>walk_at"fn"
  case b_len=>walk_at"fn"
  case b_all=>walk_at"fn"
  case b_tuple=>walk_at"fn"
  case b_list=>walk_at"fn"
  case b_reversed=>walk_at"fn"
  case b_set=>walk_at"fn"
  case b_any=>walk_at"fn"
  case b_int=>walk_at"fn"
  case b_bool=>walk_at"fn"
  case b_range=>walk_at"fn"
  case g_NO_NAMES=>refine' L3.NP KX G ?NO_NAMESa ?NO_NAMESl ?NO_NAMESf ?NO_NAMESz;(case NO_NAMESa=>k_is);(case NO_NAMESl=>k_is);(case NO_NAMESf=>kernel_rfl);(case NO_NAMESz=>kernel_rfl)
  case g_LONGEST_NAME=>walk_at"fg"
  case g_LETTERS=>refine' L3.OI KX G ?LETTERSa ?LETTERSe;(case LETTERSa=>k_is);(case LETTERSe=>rfl)
  case g_DEEPEST=>walk_at"fg"
  case g_SAYINGS_WITHIN=>refine' L3.Br KX G ?SAYINGS_WITHINa ?SAYINGS_WITHINl ?SAYINGS_WITHINf;(case SAYINGS_WITHINa=>k_is);(case SAYINGS_WITHINl=>k_is);(case SAYINGS_WITHINf=>kernel_rfl)
  case g_PAST_WORDS=>refine' L3.NP KX G ?PAST_WORDSa ?PAST_WORDSl ?PAST_WORDSf ?PAST_WORDSz;(case PAST_WORDSa=>k_is);(case PAST_WORDSl=>k_is);(case PAST_WORDSf=>kernel_rfl);(case PAST_WORDSz=>kernel_rfl)
  case g_MOST_LAMPS=>walk_at"fg"
  case g_MOST_PROMISES=>walk_at"fg"
  case g_HIGHEST_PRICE=>walk_at"fg"
  case g_MOST_WISHES=>walk_at"fg"
  case g_MOST_MUSTS=>walk_at"fg"
  case g_MOST_PIECES=>walk_at"fg"
  case g_MOST_STANDS=>walk_at"fg"
  case g_MOST_DIGITS=>walk_at"fg"
  case g_DIGITS=>refine' L3.OI KX G ?DIGITSa ?DIGITSe;(case DIGITSa=>k_is);(case DIGITSe=>rfl)
 case F0=>walk_at"ft"
 case F1=>walk_at"ft"
 case F2=>walk_at"ft"
 case F3=>walk_at"ft"
 case F4=>walk_at"ft"
 case F5=>walk_at"ft"
 case F6=>walk_at"ft"
 case F7=>walk_at"ft"
 case F8=>walk_at"ft"
 case F9=>walk_at"ft"
 case F10=>walk_at"ft"
 case F11=>walk_at"ft"
 case F12=>walk_at"ft"
 case F13=>walk_at"ft"
 case F14=>walk_at"ft"
 case F15=>walk_at"ft"
 case F16=>walk_at"ft"
 case F17=>walk_at"ft"
 case F18=>walk_at"ft"
 case F19=>walk_at"ft"
 case F20=>walk_at"ft"
 case F21=>walk_at"ft"
 case F22=>walk_at"ft"
 case F23=>walk_at"ft"
 case F24=>walk_at"ft"
 case F25=>walk_at"ft"
 case F26=>walk_at"ft"
 case F27=>walk_at"ft"
 case F28=>walk_at"ft"
 case F29=>walk_at"ft"
 case F30=>walk_at"ft"
 case F31=>walk_at"ft"
 case F32=>walk_at"ft"
 case F33=>walk_at"ft"
 case F34=>walk_at"ft"
 case F35=>walk_at"ft"
 case F36=>walk_at"ft"
 case F37=>walk_at"ft"
 case F38=>walk_at"ft"
 case F39=>walk_at"ft"
 case F40=>walk_at"ft"
 case F41=>walk_at"ft"
 case F42=>walk_at"ft"
 case F43=>walk_at"ft"
 case F44=>walk_at"ft"
 case F45=>walk_at"ft"
 case F46=>walk_at"ft"
 case F47=>walk_at"ft"
