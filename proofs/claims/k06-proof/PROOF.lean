import PyProof.Rows.All
import Wide.All
import OpenK.AllK
import Wide.FinOn
import Lean
import PyProof.EqAt
import PyProof.EqKinds
import PyProof.TupleCall
import PySem.Challenge.RW_leastloss_k06_losses
open PySem.W renaming Frag→aa, findIn→d7, keepIn→ek, kia_one→f7, emptyDict→gh, fnOf→gy, nsIn→gV, instObj→iu, plainGet→j5, codeIn→j6, mg_of→kq, hasDictIn→ku, kla_obj→mf, callWith_K→mi, plainOver→nh, codeHdIn→og, plainGet_of→px, isFn→qb, envX→qf, lookIn→qi, methodObj→qx, kitx_bool→rg, cellsFrom_some→tz, takerIn→ur, makesIn→uu, methodCall_KW→vb, codeHd_of_K→wq, handedIn→yp, kitx_int→yx, kitx_str→yz, kitOne→Pt, tabObj→Qa, OpenLaw→Ry
open List renaming length_map→ab, range→ai, getElem?_eq_getElem→aj, size_toArray→ar, nil_append→av, map_cons→aw, mem_singleton→ay, replicate→a9, getElem?_map→bb, length_nil→bc, mem_of_getElem?→bf, length_cons→bj, length_append→bq, getElem?_append_left→bu, length_range→bw, drop_eq_getElem_cons→bz, mem_cons_of_mem→cb, getElem?_append_right→cq, lookup_cons→cu, cons_append→cw, mem_cons_self→cy, set_cons_zero→dg, getElem?_eq_none→dq, set_cons_succ→dy, map_append→d5, not_mem_nil→ee, append_nil→el, mem_append_right→e9, drop_eq_nil_of_le→fj, filterMap_cons→fu, mem_cons→fz, filter_cons→gb, lookup→gr, map_nil→gz, getElem?_set_ne→g5, getElem?_replicate→g7, reverse_cons→ig, replicate_succ→i7, range_succ_eq_map→jd, length_filter_le→jr, map_map→j1, any_cons→j3, getElem?_set_self→ke, any_map→ki, zip_cons_cons→kj, idxOf_cons→km, flatten_cons→kx, getElem?_eq_some_iff→lq, of_mem_zip→me, range_succ→mh, contains_cons→mn, getElem?_cons_zero→mx, getElem?_cons_succ→my, range'→ng, append_assoc→nq, length_replicate→ny, length_take→n5, foldl→oe, all_eq_true→oh, all_cons→om, mem_append_left→oq, map→ow, getElem?_of_mem→oy, foldl_cons→pf, mem_append→pw, length_reverse→p0, all_map→qe, drop_zero→qo, extract_eq_take_drop→qv, any_eq_false→qz, nodup_append→rh, length_filterMap_le→r0, length_drop→sj, mem_map→uk, forIn_cons→ux, length_zip→va, dropLast_eq_take→vc, mem_of_mem_take→v7, drop_succ_cons→wk, lookup_append→xr, getElem_range→xt, isEmpty_cons→yg, ext_getElem?→ym, isEmpty_iff→yv, take_length→yw, range'_succ→ze, isEmpty_nil→zf, length→zi, length_set→zj, nodup_nil→Py, map_take→Qj, sum_nil→Qy, any→Rp
open PySem renaming wpAny_bind→ae, Shared→af, starEach→ah, wpAny_pure→ao, Spec→be, Program→br, Around→b7, mainGlobals→cj, bootBuiltins→cp, wpAny_ite_split→cx, backTo→dh, wpAny_Call_Name_kw→dm, builtinLookup_eq_fast→dz, assignEach→eh, wpAny_call_entry→fe, foldedSetIterable→fv, attributeBase→fw, wpAny_specialOf→f6, rawInt→gf, FuncData→gj, wpAny_newObj_type→gm, mem_of_lookup→gq, typeLookup_type→gu, binaryOp→g6, wpAny_callSpecial?_slot→h9, wpAny_isNot_other→ij, wpAny_holding→jf, sizeLine_eq→jh, wpAny_mono→jk, isSubtype_type→jq, wpAny_passesOwn→jw, keywordEach→jx, wpAny_field→jy, holding→j4, wpAny_is_other→j8, wpAny_of_eq→j9, codeAny→kf, codeAny_mono→kg, wpAny_truthy_bool→kr, swapsWith→lb, wpAny_isInstance→lh, assign→lx, behindInMarks→l5, call_meets→mj, sliceBounds→mv, backToKw→ni, eqIsQuiet_byValue→nv, sysModules→nz, PassesOwn→n4, swapsWithSole→oi, swappedStores→oj, letOwnedTupleGo→pe, wpAny_updateSeq→pj, codeAny_builtin→pq, standAt→p9, Keyword→qd, typeLookup→qk, wpAny_pyIter_tuple→qr, wpAny_binaryOp_repeat_ref→qt, wpAny_sequenceKey→rb, wpAny_mkInt→rf, wpAny_comprehension_free→rl, wpAny_attempt→rq, compareOp→sd, getMethod→se, NameKind→sh, noFill_tuple_add→si, wpAny_forIn_list→su, scanBound→td, pyNext→tm, pyIter→tq, wpAny_pyNext_range_end→tu, wpAny_pyIter_rangeiter→tw, wpAny_call→tx, IsPart→ua, getItem→ub, wpAny_typeOf→uc, wpAny_Call_method_late→ud, wpAny_rule→uf, wpAny_execs_nil→uq, wpAny_isTrue_Compare1→vf, IsRangeIter→vh, callWith→vj, seqIndex_of→vm, wpAny_newFunctionEnv→vx, cLine→vy, wpAny_setField→v5, spliced→wb, callerA→we, wpAny_standAt→wt, seq_tuple_add→wu, signature?_of→w6, builtinsNs→xf, wpAny_pyIter_range→xg, typeIs_int→xk, wpAny_tupleItemsOf→xm, strKind_is→xo, closureFor→xq, Within→xv, wpAny_assign_Name→xx, BindsTo→yd, concat_meets→ye, seqIndex_neg→yf, slot_dict_getitem→yk, wpAny_pyIter_list→yl, isTrue→yo, beq_builtin_none→yu, entryFor_of_tree→zc, codeAny_of_tree→zm, ItemsOf→zo, GenState→zp, wpAny_Name→zq, bindArgs→zr, fitsIndex_both→zu, reduceHash→zv, PyData→zw, wpAny_seqItems→Pr, callType_codes→Pu, argsOk→Pw, firstArgMember→Px, defaultsOf→Pz, rangeSize_one→Qc, intBits_le_64→Qd, evalPart_none→Qe, call_list_seq→Qh, cellsFrom→Qp, updateSeq→Qq, Paired→Qr, setItem→Qs, Result→Qt, compPost→Rl, entryFor→Rm, truthy→Rr, typeOf→Rt, newExc→Ru, BoolOp→Rv, release→Rw, getAttr→Rx
open PySem.Heap renaming get?_push_of_some→ag, lt_size→bg, get?_push_size→bh, get?_update_other→ff, get?_update_self→gw, size_push→jm, SameBut→kc, ExtBut→Rn
open Bool renaming false_eq_true→ak, and_eq_true→aq, and_false→cg, and_self→dt, false_ne_true→ei, not_true→fb, true_and→fy, false_and→gg, not_false→j7, or_eq_true→ph, or_false→wy, and_true→w9, and_assoc→zy, false_or→Ql, or_self→Qz
open Nat renaming le_refl→az, lt_of_lt_of_le→bp, ne_of_lt→b9, le_trans→c7, zero_le→df, lt_irrefl→ey, lt_succ_self→f9, lt_succ_of_lt→j0, blt→kz, add_assoc→oo, pow_le_pow_right→oz, le_of_lt→p8, ne_of_gt→qa, lt_of_le_of_lt→ql, add_sub_cancel_left→sv, le_max_right→tj, zero_add→uj, le_max_left→u0, add_min_add_right→ve, le_of_not_lt→yr, le_succ→zh, mul_le_mul→zx, le_of_eq→Qu, add_comm→Qv, lt_trans→Qw, pow_succ→Qx
open Option.some renaming inj→cz
open Option renaming map_eq_some_iff→c9, getD_some→jj, map_some→kn, getD_none→yq
open True renaming intro→de
open PyProof.Rows renaming callWith_type1→di, slot_tuple_getitem→gv, envOfC→ly, subscriptTail_builtinR→nk, AllBare→qy, IntsAre→ue, foldl_rep→wc, entry_tuple_getitem→wg, tupleItemsOf_→wx, args_tuple_getitem→xi, slicePart_none→zt, subscriptTail→Qg, len_tuple→Qn
open False renaming elim→dv
open PySem.Builtin.List renaming listTooLong→dw, listExtendWith→je, listLengthHint→ky, listSameRef→rm, listItems→uh
open PySem.Around renaming in1_units→fh, under_plainId→ox, frames_deeper→vk, under→xy
open PySem.Builtin.Tuple renaming tupleHashOf→fk, tupleExact→fx, tupleItemsOf→gk, tupleTooMany→qm, tupleIsExact→qp
open PySem.Value renaming type→fq, ref→gp, none→iq, bool→qg, str→yn, int→Qm, bytes→Ra, float→Rb
open PySem.Calls renaming spliced_cons→gx, callWith_builtin→kh, spliced_nil→kv, evalArgs_plain→ot, Name_function_global→qh
open Array renaming length_toList→i5, getElem?_eq_getElem→qw, toList_extract→vw, forIn_toList→xp, toList→xw
open PyProof.Rows.F renaming plain_set_update_loop→i9, entry_set_update_loop→lz
open Ne renaming symm→jc
open PySem.Obj renaming mapSeq→jo, data_mapFields→mo, isFreed_of_fields→vg, mapFields→w8
open PySem.Builtin.Slice renaming slicePlaces→ju, sliceAdjust→ll, sliceApplied→qj
open PySem.Str renaming ofString→jz, length→j2, empty→Qo, cps→Sa
open ForInStep renaming yield→kl
open Int renaming natCast_zero→lj, toNat_of_nonneg→pz, emod_lt_of_pos→qs, emod_nonneg→uz, le_refl→Rq
open PySem.F renaming args_tuple_add_2→l0, entry_tuple_add→mr, plainAttrs_list→mz, slot_tuple_add→nj, slot_tuple_index→rz, slot_tuple_hash→sk, slot_list_index→sy, slot_int_rmul→vd, args_list_extend_2→vn, plain_reversed_new→vz, entry_list_extend→wj, plain_extend_loop→wm, slot_list_extend→xj, slot_int_rmul→zk
open PySem.NameKind renaming free→md, cell→w5
open PySem.Builtin.Str renaming occurrences→mq, subAt→yj
open Function renaming comp_def→nu, comp→Qk
open PyProof.Rows.KTD renaming datumAt→ou, flatLooks→rj, tabLook→vp
open PySem.PassesOwn renaming never→pk
open PySem.AutoSeq1 renaming wpAny_loadPart'→rk
open PySem.Builtin.Range renaming rangeSize→r8
open PyProof.Rows.KTD.Dat renaming flat→ug
open PySem.SeqAt.EqAt renaming bool_tuple→uw, bool_bool→vq, str_tuple→vt, bool_str→wz, str_bool→w4, str_str→yh, of_refs→yi, same→yt, tuple_bool→zl, tuple_str→z9
open List.cons renaming injEq→uy
open Sum renaming inl→v8, inr→wa
open PySem.Heap.SameBut renaming update→wo
open PySem.Code renaming isFrame→yc, frames→Rh
open Std.Legacy renaming Range→zd
open PySem.IsRange renaming new→zg
open PySem.Paired renaming length→Qb
open PySem.Shared renaming TypeIs→Qi
open PySem.Data renaming fields→Rf
open PySem.Walks renaming range→Rg, tuple→Rk
open PySem.SeqAt.RcAt renaming tuples→Rj
open PySem.SeqAt renaming str_beq→Rz
set_option Elab.async false
set_option genSizeOf false
set_option bootstrap.genMatcherCode false
set_option compiler.extract_closed false
set_option linter.all false
set_option maxRecDepth 100000
set_option maxHeartbeats 4000000
section
namespace L2
open PySem PySem.Spec PyProof.Rows
noncomputable abbrev Key:=Sum Int Str
noncomputable def VJ:Key->Value->Bool
 |.inl k,v=>Value.isInt k v
 |.inr x,v=>Value.isStrOf x v
noncomputable def My (w:World):Key->Int
 |.inl k=>hashInt k
 |.inr x=>hashStr w x
theorem fU:∀{k:Key}{v:Value},VJ k v=true->(∃ i t,k=v8 i/\v=Qm i t)∨(∃ x t,k=wa x/\v=yn x t)
 |.inl i,v,h=>by
  obtain⟨t,e⟩:=Value.isInt_shape (k:=i) (v:=v) h
  exact .inl ⟨i,t,rfl,e⟩
 |.inr x,v,h=>by
  obtain⟨t,e⟩:=Value.isStrOf_shape (x:=x) (v:=v) h
  exact .inr ⟨x,t,rfl,e⟩
theorem Ah (a b:Int):decide ((v8 a:Key)=v8 b)=(a==b):=by
 by_cases e:a=b
 ·subst e;simp
 ·have h:¬(v8 a:Key)=v8 b:=fun q=>e (Sum.inl.inj q)
  rw[decide_eq_false h]
  exact(beq_eq_false_iff_ne.mpr e).symm
theorem Fu (a b:Str):decide ((wa a:Key)=wa b)=decide (a=b):=by
 by_cases e:a=b
 ·subst e;simp
 ·have h:¬(wa a:Key)=wa b:=fun q=>e (Sum.inr.inj q)
  rw[decide_eq_false h,decide_eq_false e]
theorem Fj (a:Int)(b:Str):decide ((v8 a:Key)=wa b)=false:=decide_eq_false (fun q=>nomatch q)
theorem ZZ (a:Str)(b:Int):decide ((wa a:Key)=v8 b)=false:=decide_eq_false (fun q=>nomatch q)
noncomputable def DZ (prog:br)(w:World):PySem.KeyKind prog w Key where
 is:=VJ
 hash:=My w
 inj:=fun v a b ha hb=>by
  rcases fU ha with⟨i,t,rfl,rfl⟩|⟨x,t,rfl,rfl⟩
  ·rcases fU hb with⟨j,u,rfl,e⟩|⟨y,u,rfl,e⟩
   ·injection e with e1 _;rw[e1]
   ·exact nomatch e
  ·rcases fU hb with⟨j,u,rfl,e⟩|⟨y,u,rfl,e⟩
   ·exact nomatch e
   ·injection e with e1 _;rw[e1]
 byValue:=fun k v h=>by
  rcases fU h with⟨i,t,rfl,rfl⟩|⟨x,t,rfl,rfl⟩<;>rfl
 pyHash:=fun hv h=>by
  rcases fU hv with⟨i,t,rfl,rfl⟩|⟨x,t,rfl,rfl⟩
  ·exact wpAny_pyHash_int h
  ·exact wpAny_pyHash_str h
 eqBool:=fun hu hv h=>by
  rcases fU hu with⟨i,t,rfl,rfl⟩|⟨x,t,rfl,rfl⟩
  ·rcases fU hv with⟨j,u,rfl,rfl⟩|⟨y,u,rfl,rfl⟩
   ·rw[Ah]at h;exact wpAny_eqBool_int h
   ·rw[Fj]at h;exact SeqAt.EqAt.int_str i t y u _ _ _ _ h
  ·rcases fU hv with⟨j,u,rfl,rfl⟩|⟨y,u,rfl,rfl⟩
   ·rw[ZZ]at h;exact SeqAt.EqAt.str_int x t j u _ _ _ _ h
   ·rw[Fu]at h;exact wpAny_eqBool_str h
 «strs»:=fun k x t v h=>by
  rcases fU h with⟨i,u,rfl,e⟩|⟨y,u,rfl,e⟩
  ·exact nomatch e
  ·injection e with e1 _
   subst e1
   cases v<;>rfl
end L2
namespace L2
open PySem PySem.Spec PyProof.Rows
inductive V where
 |non|bl (b:Bool)|int (i:Int)|str (x:Str)|byt (b:Array UInt8)|flt (b:UInt64)|ref (a:Addr)|ty (n:String)
 deriving DecidableEq
noncomputable def RelV:V->Value->Prop
 |.non,u=>u=iq
 |.bl b,u=>u=qg b
 |.int i,u=>∃ t,u=Qm i t
 |.str x,u=>∃ t,u=yn x t
 |.byt b,u=>∃ t,u=Ra b t
 |.flt b,u=>∃ t,u=Rb b t
 |.ref a,u=>u=gp a
 |.ty n,u=>u=fq n
noncomputable abbrev aQ:List V->List Value->Prop:=Qr RelV
theorem aQ.length {xs:List V}{us:List Value}(r:aQ xs us):xs.length=us.length:=Qb r
theorem aQ.get:∀{xs:List V}{us:List Value}{i:Nat}{x:V},aQ xs us->xs[i]? = some x->∃ u,us[i]? = some u/\RelV x u
 |_,_,_,_,.nil,e=>by simp at e
 |_,_,0,_,.cons r _,e=>by simp at e;subst e;exact⟨_,rfl,r⟩
 |_,_,i+1,x,.cons _ t,e=>by
  obtain⟨u,h1,h2⟩:=aQ.get (i:=i) (x:=x) t (by simpa using e)
  exact⟨u,by simpa using h1,h2⟩
theorem aQ.set {x:V}{u:Value}(r:RelV x u):∀{xs:List V}{us:List Value}(i:Nat),aQ xs us->aQ (xs.set i x) (us.set i u)
 |_,_,_,.nil=>.nil
 |_,_,0,.cons _ t=>.cons r t
 |_,_,i+1,.cons q t=>.cons q (aQ.set r i t)
theorem aQ.append:∀{xs ys:List V}{us ws:List Value},aQ xs us->aQ ys ws->aQ (xs++ys) (us++ws)
 |_,_,_,_,.nil,s=>s
 |_,_,_,_,.cons r t,s=>.cons r (aQ.append t s)
theorem aQ.take:∀{xs:List V}{us:List Value}(n:Nat),aQ xs us->aQ (xs.take n) (us.take n)
 |_,_,0,_=>.nil
 |_,_,_+1,.nil=>.nil
 |_,_,n+1,.cons r t=>.cons r (aQ.take n t)
theorem aQ.drop:∀{xs:List V}{us:List Value}(n:Nat),aQ xs us->aQ (xs.drop n) (us.drop n)
 |_,_,0,r=>r
 |_,_,_+1,.nil=>.nil
 |_,_,n+1,.cons _ t=>aQ.drop n t
noncomputable def sW:Option V->Option Value->Prop
 |some v,some u=>RelV v u
 |none,none=>True
 |_,_=>False
noncomputable def KV {κ:Type}:List (κ×V)->List (κ×Value)->Prop:=Qr fun(p:κ×V)(q:κ×Value)=>p.1=q.1/\RelV p.2 q.2
noncomputable def kV:Key->V
 |.inl i=>.int i
 |.inr x=>.str x
inductive HO where
 /-- a list -/
 |lst (xs:List V)
 /-- a tuple (never changes) -/
 |tup (xs:List V)
 /-- a dict whose keys are ints and texts; one whose keys are tuples of ints and texts (the empty one is both) -/
 |dK (iB:List (Key×V))|dT (iB:List (List Key×V))
 /-- a set of ints: aD members, aD size -/
 |set (S:Int->Bool)(n:Nat)
 /-- an instance of the class at C, aD dict at dx, aD attributes -/
 |ins (C dx:Addr)(fs:List (Str×V))
 /-- the dict of the instance at x -/
 |own (x:Addr)
 /-- the dict of an exception -/
 |xd (fs:List (Str×V))
 /-- a bound method, f of x -/
 |met (f x:Addr)
 /-- a range object lo, lo + 1, .. below hi -/
 |rng (lo hi:Int)
 /-- a thing that is known to the object (the script; a dict while a loop walks it): read, never written while it is so -/
 |frz (o:Obj)(u:HO)
 /-- a code object's table -/
 |tbl (ps:Array Value)
 /-- any other thing, by what is true of aD one object (a def of one's own: SetO a S n := HO.ext fun h => ..) -/
 |ext (φ:br->World->Heap->Prop)
noncomputable abbrev Hp:=Addr->Option HO
noncomputable def upd (H:Hp)(a:Addr)(o:HO):Hp:=fun b=>if b=a then some o else H b
theorem dF {H:Hp}{a:Addr}{o:HO}:upd H a o a=some o:=by unfold upd;rw[if_pos rfl]
theorem bG {H:Hp}{a b:Addr}{o:HO}(h:b≠a):upd H a o b=H b:=by unfold upd;rw[if_neg h]
theorem M2 {H:Hp}{a b:Addr}{o u:HO}(h:H a=some o)(h':H b=some u)(d:o≠u):a≠b:=by
 intro e;subst e;rw[h]at h';exact d (cz h')
theorem iF {H:Hp}{a b:Addr}{o:HO}(h:H a=some o)(h':H b=none):a≠b:=by
 intro e;subst e;rw[h]at h';cases h'
noncomputable def pR (h:Heap)(a:Addr)(aD:Array Value):Prop:=∃ o,h.get? a=some o/\o.cls=.type "tuple" /\ (∃ n,o.data=.seq aD n)/\o.dict=none
theorem pR.tup {h:Heap}{a:Addr}{aD:Array Value}:pR h a aD->IsTup h a aD:=fun⟨o,e,c,d,_⟩=>⟨o,e,c,d⟩
theorem pR.lt {h:Heap}{a:Addr}{aD:Array Value}(x:pR h a aD):a<h.objs.size:=x.tup.lt
theorem pR.new (h:Heap)(items:Array Value):pR (h.push { cls:=.type "tuple", data:=.seq items }) h.objs.size items:=⟨_,bh _ rfl,rfl,⟨_,rfl⟩,rfl⟩
section
variable (P:br)(w:World)
noncomputable def jK (H:Hp)(h:Heap)(a:Addr):HO->Prop
 |.lst xs=>xs.length<=sizeLine/\∃(aD:List Value)(n:Nat),aQ xs aD/\h.get? a=some { cls:=.type "list", data:=.seq aD.toArray n }
 |.tup xs=>xs.length<=sizeLine/\∃ aD:List Value,aQ xs aD/\pR h a aD.toArray
 |.dK iB=>iB.length<=sizeLine/\(a==nz)=false/\∃ vs,KV iB vs/\h.DictOf (DZ P w) a vs
 |.dT iB=>iB.length<=sizeLine/\(a==nz)=false/\∃ xs:List (List Key×Addr×Value),
  Qr (fun(p:List Key×V)(q:List Key×Addr×Value)=>p.1=q.1/\H q.2.1=some (.tup (p.1.map kV))/\RelV p.2 q.2.2) iB xs /\
  ∃ o es ep,h.get? a=some o/\o.ExactDict/\o.data=.dict es ep/\es.toList=xs.map (entryOfKey (tupleKind (DZ P w)))/\(xs.map (·.1)).Nodup
 |.set S n=>h.SetOf (intKind P w) a S n
 |.ins C dx fs=>H dx=some (.own a)/\fs.length<=1000/\dx≠a/\h.get? a=some (iu C dx) /\
  ∃ mA,h.Ns1 dx mA/\(∀ f,sW (fs.lookup f) (mA f))/\xv mA (fs.map (·.1))
 |.own _=>∃ o,h.get? a=some o
 |.xd fs=>∃ mA,h.Ns1 a mA/\∀ f,sW (fs.lookup f) (mA f)
 |.rng lo hi=>∃ t u v,h.get? a=some { cls:=.type "range", data:=.fields #[.int lo t,.int hi u,.int 1 v] }
 |.frz o u=>h.get? a=some o/\jK H h a u
 |.tbl ps=>h.get? a=some { cls:=.none,data:=.fields ps }
 |.met f x=>h.get? a=some (qx (.ref f) (.ref x))
 |.ext φ=>φ P w h/\(∃ o,h.get? a=some o)/\∀ h1 h2:Heap,φ P w h1->(∀ o,h1.get? a=some o->h2.get? a=some o)->φ P w h2
noncomputable def gS (H:Hp)(h:Heap):Prop:=∀ a o,H a=some o->jK P w H h a o
end
section
variable {P:br}{w:World}{H H':Hp}{h h':Heap}{a:Addr}{o:HO}
theorem jK.lt (x:jK P w H h a o):a<h.objs.size:=by
 cases o with
 |lst xs=>obtain⟨_,_,_,_,e⟩:=x;exact bg e
 |tup xs=>obtain⟨_,_,_,p⟩:=x;exact p.lt
 |dK iB=>obtain⟨_,_,_,_,o,_,_,e,_⟩:=x;exact bg e
 |dT iB=>obtain⟨_,_,_,_,o,_,_,e,_⟩:=x;exact bg e
 |set S n=>obtain⟨o,_,_,_,e,_⟩:=x;exact bg e
 |ins C dx fs=>obtain⟨_,_,_,e,_⟩:=x;exact bg e
 |own y=>obtain⟨_,e⟩:=x;exact bg e
 |xd fs=>obtain⟨_,⟨_,_,_,e,_⟩,_⟩:=x;exact bg e
 |rng lo hi=>obtain⟨_,_,_,e⟩:=x;exact bg e
 |frz ob u=>obtain⟨e,_⟩:=x;exact bg e
 |tbl ps=>exact bg (show h.get? a=some _ from x)
 |met f y=>exact bg (show h.get? a=some _ from x)
 |ext φ=>obtain⟨_,⟨_,e⟩,_⟩:=x;exact bg e
theorem Paired.Z2 {α β:Type}{F G:α->β->Prop}:∀{l₁:List α}{l₂:List β},Qr F l₁ l₂->(∀ a b,F a b->G a b)->Qr G l₁ l₂
 |_,_,.nil,_=>.nil
 |_,_,.cons r t,f=>.cons (f _ _ r) (Paired.Z2 t f)
theorem jK.pO (x:jK P w H h a o)(k:∀ b u,(b=a∨H b=some (.own a))->h.get? b=some u->h'.get? b=some u)
 (ho:∀ b,H b=some (.own a)->H' b=some (.own a))(ht:∀ b xs,H b=some (.tup xs)->H' b=some (.tup xs)):jK P w H' h' a o:=by
 induction o with
 |lst xs=>obtain⟨z,aD,n,r,e⟩:=x;exact⟨z,aD,n,r,k _ _ (.inl rfl) e⟩
 |tup xs=>obtain⟨z,aD,r,ob,e,c⟩:=x;exact⟨z,aD,r,ob,k _ _ (.inl rfl) e,c⟩
 |dK iB=>obtain⟨z,y,vs,r,ob,es,ep,e,c⟩:=x;exact⟨z,y,vs,r,ob,es,ep,k _ _ (.inl rfl) e,c⟩
 |dT iB =>
 obtain⟨z,y,xs,r,ob,es,ep,e,c⟩:=x
 exact⟨z,y,xs,Paired.Z2 r fun p q z=>⟨z.1,ht _ _ z.2.1,z.2.2⟩,ob,es,ep,k _ _ (.inl rfl) e,c⟩
 |set S n=>obtain⟨ob,es,ep,t,e,c⟩:=x;exact⟨ob,es,ep,t,k _ _ (.inl rfl) e,c⟩
 |ins C dx fs =>
 obtain⟨d,z,ne,e,mA,⟨od,es,ep,e2,c⟩,r⟩:=x
 exact⟨ho _ d,z,ne,k _ _ (.inl rfl) e,mA,⟨od,es,ep,k _ _ (.inr d) e2,c⟩,r⟩
 |own y=>obtain⟨ob,e⟩:=x;exact⟨ob,k _ _ (.inl rfl) e⟩
 |xd fs=>obtain⟨mA,⟨od,es,ep,e,c⟩,r⟩:=x;exact⟨mA,⟨od,es,ep,k _ _ (.inl rfl) e,c⟩,r⟩
 |rng lo hi=>obtain⟨t,u,v,e⟩:=x;exact⟨t,u,v,k _ _ (.inl rfl) e⟩
 |frz ob u ih=>obtain⟨e,q⟩:=x;exact⟨k _ _ (.inl rfl) e,ih q⟩
 |tbl ps =>
 have e:h.get? a=some { cls:=.none,data:=.fields ps }:=x
 show h'.get? a=some { cls:=.none,data:=.fields ps }
 exact k a _ (.inl rfl) e
 |met f y =>
 have e:h.get? a=some (qx (.ref f) (.ref y)):=x
 show h'.get? a=some (qx (.ref f) (.ref y))
 exact k a _ (.inl rfl) e
 |ext φ=>obtain⟨p,⟨o,e⟩,st⟩:=x;exact⟨st _ _ p fun o q=>k _ _ (.inl rfl) q,⟨o,k _ _ (.inl rfl) e⟩,st⟩
theorem gS.lt (x:gS P w H h)(e:H a=some o):a<h.objs.size:=(x a o e).lt
theorem gS.fresh (x:gS P w H h)(e:h.objs.size<=a):H a=none:=by
 cases q:H a with
 |none=>rfl
 |some u=>exact absurd (bp (x.lt q) e) (ey _)
theorem gS.kept (x:gS P w H h)(k:∀ b u,h.get? b=some u->h'.get? b=some u):gS P w H h':=fun a o e =>
 (x a o e).pO (fun b u _ q=>k b u q) (fun _ q=>q) fun _ _ q=>q
theorem gS.laid (x:gS P w H h)(k:∀ b u,h.get? b=some u->h'.get? b=some u)(hp:h.objs.size<=a)(new:jK P w (upd H a o) h' a o):gS P w (upd H a o) h':=fun b u e=>by
 have hn:=x.fresh hp
 by_cases hb:b=a
 ·subst hb;rw[dF]at e;cases e;exact new
 ·rw[bG hb]at e
  exact(x b u e).pO (fun c v _ q=>k c v q) (fun c q=>by rw[bG (iF q hn)];exact q) fun c xs q=>by rw[bG (iF q hn)];exact q
end
noncomputable def Rd (H:Hp)(a:Addr)(u:HO):Prop:=H a=some u∨∃ o,H a=some (.frz o u)
theorem Rd.ok {P:br}{w:World}{H:Hp}{h:Heap}{a:Addr}{u:HO}(r:Rd H a u)(x:gS P w H h):jK P w H h a u:=by
 rcases r with r|⟨o,r⟩
 ·exact x a u r
 ·obtain⟨_,q⟩:=x a _ r
  exact q
noncomputable def V6:Option HO->Prop
 |some (.lst _)=>True
 |some (.dK _)=>True
 |some (.dT _)=>True
 |some (.set _ _)=>True
 |some (.ins _ _ _)=>True
 |some (.ext _)=>True
 |_=>False
section
variable {P:br}{w:World}{H:Hp}{h h':Heap}{x e:Addr}{o':HO}
theorem gS.write (ok:gS P w H h)(mu:V6 (H x))(he:e=x∨H e=some (.own x))(k:∀ b u,b≠e->h.get? b=some u->h'.get? b=some u)(heo:∃ u,h'.get? e=some u)
  (new:jK P w (upd H x o') h' x o'):gS P w (upd H x o') h':=fun b u q=>by
 have nown:∀ c y,H c=some (.own y)->c≠x:=fun c y r z=>by subst z;rw[r]at mu;exact mu
 have ntup:∀ c xs,H c=some (.tup xs)->c≠x:=fun c xs r z=>by subst z;rw[r]at mu;exact mu
 by_cases hb:b=x
 ·subst hb;rw[dF]at q;cases q;exact new
 ·rw[bG hb]at q
  by_cases hbe:b=e
  ·have q':H b=some (.own x):=by
    rcases he with z|z
    ·exact absurd (hbe.trans z) hb
    ·rw[hbe];exact z
   rw[q]at q';cases q'
   obtain⟨v,hv⟩:=heo
   exact⟨v,by rw[hbe];exact hv⟩
  ·refine(ok b u q).pO (fun c v hc r=>k c v ?_ r) (fun c r=>by rw[bG (nown c b r)];exact r) fun c xs r=>by rw[bG (ntup c xs r)];exact r
   rcases hc with rfl|hc
   ·exact hbe
   ·rintro rfl
    rcases he with z|z
    ·exact nown c b hc z
    ·rw[hc]at z;cases z;exact hb rfl
end
structure Un (fs ex:List Addr)(H H':Hp)(h h':Heap):Prop where
 keep:∀ b o,h.get? b=some o->H b=none->b∉fs->b∉ex->h'.get? b=some o
 slot:∀ b o,h.get? b=some o->H b=none->b∈fs->b∉ex->∃ sl,h'.get? b=some { o with slots:=sl }
 free:∀ b o,h.get? b=some o->H b=none->b∉ex->H' b=none
 there:∀ b o,h.get? b=some o->b∉ex->∃ o',h'.get? b=some o'
 rQ:∀ b xs,H b=some (.tup xs)->H' b=some (.tup xs)
 nQ:∀ b o u,H b=some (.frz o u)->H' b=some (.frz o u)
 pY:∀ b ps,H b=some (.tbl ps)->∃ more,H' b=some (.tbl (ps++more))
section
variable {fs fs' ex ex':List Addr}{H H1 H2:Hp}{h h1 h2 h':Heap}{a x e:Addr}{o:HO}
theorem Un.any (u:Un fs ex H H1 h h1){b:Addr}{ob:Obj}(q:h.get? b=some ob)(n:H b=none)(hx:b∉ex):∃ sl,h1.get? b=some { ob with slots:=sl }:=by
 by_cases hb:b∈fs
 ·exact u.slot b ob q n hb hx
 ·exact⟨ob.slots,u.keep b ob q n hb hx⟩
theorem Un.kept (k:∀ b u,h.get? b=some u->h'.get? b=some u):Un fs ex H H h h' :=
 ⟨fun b ob q _ _ _=>k b ob q,fun b ob q _ _ _=>⟨ob.slots,k b ob q⟩,fun _ _ _ n _=>n,fun b ob q _=>⟨ob,k b ob q⟩,fun _ _ q=>q,fun _ _ _ q=>q,fun _ ps q=>⟨#[],by rw[q];simp⟩⟩
theorem Un.refl:Un fs ex H H h h:=Un.kept fun _ _ q=>q
theorem Un.laid (k:∀ b u,h.get? b=some u->h'.get? b=some u)(hp:h.objs.size<=a)(hn:H a=none):Un fs ex H (upd H a o) h h' where
 keep:=fun b u q _ _ _=>k b u q
 slot:=fun b u q _ _ _=>⟨u.slots,k b u q⟩
 free:=fun b u q n _=>by rw[bG (b9 (bp (bg q) hp))];exact n
 there:=fun b u q _=>⟨u,k b u q⟩
 rQ:=fun b xs q=>by rw[bG (iF q hn)];exact q
 nQ:=fun b u xs q=>by rw[bG (iF q hn)];exact q
 pY:=fun b ps q=>⟨#[],by rw[bG (iF q hn),q];simp⟩
theorem Un.write (mu:V6 (H x))(he:e=x∨H e=some (.own x))(k:∀ b u,b≠e->h.get? b=some u->h'.get? b=some u)(heo:∃ u,h'.get? e=some u):Un fs ex H (upd H x o) h h':=by
 have hx:∀ b,H b=none->b≠x:=fun b n z=>by subst z;rw[n]at mu;exact mu
 have hb:∀ b,H b=none->b≠e:=fun b n z=>by
  subst z
  rcases he with r|r
  ·exact hx b n r
  ·rw[n]at r;cases r
 have hm:∀ b u,H b=some u->¬V6 (some u)->b≠x:=fun b u q nm z=>by subst z;rw[q]at mu;exact nm mu
 refine⟨fun b u q n _ _=>k b u (hb b n) q,fun b u q n _ _=>⟨u.slots,k b u (hb b n) q⟩,fun b u q n _=>by rw[bG (hx b n)];exact n,fun b u q _=>?_,
  fun b xs q=>by rw[bG (hm b _ q fun z=>z)];exact q,fun b u xs q=>by rw[bG (hm b _ q fun z=>z)];exact q,fun b ps q=>⟨#[],by rw[bG (hm b _ q fun z=>z),q];simp⟩⟩
 by_cases hbe:b=e
 ·subst hbe;exact heo
 ·exact⟨u,k b u hbe q⟩
end
noncomputable def VQ (h:Heap)(H:Hp):List Addr:=(ai h.objs.size).filter fun a=>(H a).isSome
noncomputable def tD (h:Heap)(H:Hp):Heap:=PySem.W.hideAll h (VQ h H)
theorem R3 (h:Heap)(H:Hp):(tD h H).objs.size=h.objs.size:=PySem.W.hideAll_size _ _
theorem TK {h:Heap}{H:Hp}{b:Addr}{o:Obj}(e:h.get? b=some o)(n:H b=none):(tD h H).get? b=some o :=
 PySem.W.hideAll_get _ e fun hm=>by
 have q:(H b).isSome=true:=(List.mem_filter.mp hm).2
 rw[n]at q;simp at q
theorem YF {h:Heap}{H:Hp}{b:Addr}{o:Obj}(e:(tD h H).get? b=some o):h.get? b=some o/\H b=none:=by
 have e':h.get? b=some o:=PySem.W.of_hideAll (VQ h H) e
 refine⟨e',?_⟩
 cases q:H b with
 |none=>rfl
 |some x =>
 have hm:b∈VQ h H:=List.mem_filter.mpr ⟨List.mem_range.mpr (bg e'),by simp [q]⟩
 have z:(tD h H).get? b=none:=PySem.W.hideAll_none (VQ h H) hm
 rw[z]at e;cases e
noncomputable def XY (g h:Heap)(L:Addr):List (Addr×Obj):=(ai h.objs.size).filterMap fun a=>if a=L∨(g.get? a).isSome=true then none else(h.get? a).map fun o=>(a,o)
noncomputable def rest (g h:Heap)(L d:Addr):List (Addr×Obj):=(XY g h L).filter fun p=>decide (p.1≠d)
end L2
namespace L2
open PySem PySem.Spec PyProof.Rows
structure Mod (K:aa)(mg:Str->Option Value)(base:Heap):Prop where
 kin:K.In base
 glob:base.Ns cj mg
 blt:∃ mb,base.Ns xf mb/\∀ x:Str,x ≠"__name__" -> mb x=cp x
 nolimit:base.NoLimit
structure Cx where
 prog:br
 w:World
 K:aa
 mg:Str->Option Value
 base:Heap
 A:b7
 N:List Str
 s₀:af
 H₀:Hp
 env:Env
 outer:List Env
 stack:List Env
 ex:List Addr
 fn:Str->Bool
 calm:Bool
 pn:List (Addr×Obj)
 xe:Value->af->Prop
noncomputable def uA (l:List Env):List Addr:=l.filterMap (·.frame)
noncomputable abbrev Cx.fs (X:Cx):List Addr:=uA X.outer
noncomputable def VN (sc:Scope)(x:Str):Prop:=sc.names.lookup x=some .local∨sc.names.lookup x=some .cell∨sc.names.lookup x=some .free
noncomputable def Loc (sc:Scope)(x:Str):Prop:=sc.names.lookup x=some .local∨sc.names.lookup x=some .cell
noncomputable def Look (env:Env)(h:Heap)(m:Str->Option Value)(x:Str)(u:Value):Prop :=
 (env.kindOf x=some .local/\m x=some u)∨((env.kindOf x=some .cell∨env.kindOf x=some .free)/\∃ c,env.cells.lookup x=some c/\h.IsCell c (some u))
structure Cx.Ok (X:Cx):Prop where
 mod:Mod X.K X.mg X.base
 kind:X.env.scope.kind=.function
 glob:X.env.globals=cj
 blt:X.env.builtins=xf
 above:X.s₀.heap.objs.size<=X.env.locals
 inj:∀ x y c,X.env.cells.lookup x=some c->X.env.cells.lookup y=some c->x=y
 has:∀ x,(X.env.kindOf x=some .cell∨X.env.kindOf x=some .free)->∃ c,X.env.cells.lookup x=some c
 cab:∀ x c,X.fn x=true->X.env.cells.lookup x=some c->X.s₀.heap.objs.size<=c
 hd:X.calm=true->X.A.handled=none
 frames:X.A.frames=some X.stack
 stk:X.stack=X.outer∨(X.stack=X.env::X.outer/\X.env.frame=some X.env.locals)
 exf:∀ b∈X.ex,b≠X.env.locals/\∀ x c,X.env.cells.lookup x=some c->c≠b
 bs:∀ b o,X.base.get? b=some o->X.s₀.heap.get? b=some o/\X.H₀ b=none
 bsz:X.base.objs.size<=X.s₀.heap.objs.size
 noex:∀ b o,X.base.get? b=some o->b∉X.ex
 exfs:∀ b∈X.ex,b∉X.fs
 lF:X.s₀.heap.FunFrames X.base X.outer
 frf:∀ b∈X.fs,X.H₀ b=none
structure Inv (X:Cx)(pins:List (Addr×Obj))(σ:List (Option V))(H:Hp)(s:af):Prop where
 ok:X.Ok
 os:s.os=X.s₀.os
 bare:qy s.gens
 base:Un X.fs X.ex X.H₀ H X.s₀.heap s.heap
 loc:∃ m,s.heap.Ns X.env.locals m/\∀(i:Nat)(x:Str)(v:V),X.N[i]? = some x->σ[i]? = some (some v)->VN X.env.scope x->∃ u,RelV v u/\Look X.env s.heap m x u
 cell:∀ x c,X.env.cells.lookup x=some c->∃ v,s.heap.IsCell c v
 free:H X.env.locals=none
 kG:∀ x c,X.env.cells.lookup x=some c->H c=none
 pin:∀ p∈X.pn++pins,s.heap.get? p.1=some p.2/\H p.1=none/\p.1≠X.env.locals/\p.1∉X.fs/\∀ v,p.2.data≠.cell v
 bS:gS X.prog X.w H s.heap
 len:σ.length=X.N.length
section
variable {X:Cx}{pins:List (Addr×Obj)}{σ:List (Option V)}{H H':Hp}{s:af}{h':Heap}
theorem Cx.Ok.Oh (ok:X.Ok){b:Addr}{o:Obj}(e:X.base.get? b=some o):b∉X.fs:=fun hb=>by
 have:=(ok.lF.mem hb).1
 rw[e]at this;cases this
theorem Inv.bs (I:Inv X pins σ H s):∀ b o,X.base.get? b=some o->s.heap.get? b=some o/\H b=none:=fun b o e =>
 ⟨I.base.keep b o (I.ok.bs b o e).1 (I.ok.bs b o e).2 (I.ok.Oh e) (I.ok.noex b o e),I.base.free b o (I.ok.bs b o e).1 (I.ok.bs b o e).2 (I.ok.noex b o e)⟩
theorem Inv.bk (I:Inv X pins σ H s):∀ b o,X.base.get? b=some o->s.heap.get? b=some o:=fun b o e=>(I.bs b o e).1
theorem Inv.mod (I:Inv X pins σ H s):Mod X.K X.mg X.base:=I.ok.mod
theorem Inv.iU (I:Inv X pins σ H s):X.K.In s.heap:=I.ok.mod.kin.keeps I.bk
theorem Inv.fr (I:Inv X pins σ H s):∃ m,Fr X.base X.env.locals s.heap m :=
 let⟨m,hn,_⟩:=I.loc
 ⟨m,hn,I.bk,c7 I.ok.bsz I.ok.above⟩
theorem Inv.lt (I:Inv X pins σ H s):X.env.locals<s.heap.objs.size:=let⟨_,hn,_⟩:=I.loc;hn.lt
theorem Inv.sz (I:Inv X pins σ H s):X.s₀.heap.objs.size<=s.heap.objs.size:=c7 I.ok.above (p8 I.lt)
theorem Inv.Dv (I:Inv X pins σ H s){a:Addr}(h:s.heap.objs.size<=a):a∉X.fs:=fun hb=>by
 obtain⟨_,o,ho,_⟩:=I.ok.lF.mem hb
 exact absurd (bp (bg ho) (c7 I.sz h)) (ey _)
theorem Inv.FV (I:Inv X pins σ H s):∀ x c,X.env.cells.lookup x=some c->c≠X.env.locals:=fun x c e z=>by
 obtain⟨v,o,ho,hd⟩:=I.cell x c e
 obtain⟨m,⟨o',es,ep,ho',hd',_⟩,_⟩:=I.loc
 rw[z,ho']at ho;cases ho;rw[hd']at hd;cases hd
theorem Inv.lF (I:Inv X pins σ H s):s.heap.FunFrames X.base X.outer:=by
 have all:∀(l:List Env),(∀ b∈uA l,b∈X.fs)->X.s₀.heap.FunFrames X.base l->s.heap.FunFrames X.base l:=by
  intro l
  induction l with
  |nil=>intro _ _;trivial
  |cons env r ih =>
   intro hs hl
   obtain⟨hk,⟨L,o,hf,hn,ho,hd⟩,hr⟩:=hl
   have hL:L∈X.fs:=hs L (by unfold uA;rw[fu,hf];exact cy)
   obtain⟨sl,e⟩:=I.base.slot L o ho (I.ok.frf L hL) hL fun z=>I.ok.exfs L z hL
   exact⟨hk,⟨L,_,hf,hn,e,hd⟩,ih (fun b hb=>hs b (by unfold uA;rw[fu,hf];exact cb _ hb)) hr⟩
 exact all X.outer (fun _ hb=>hb) I.ok.lF
theorem Inv.stack (I:Inv X pins σ H s):s.heap.FunFrames X.base X.stack:=by
 rcases I.ok.stk with e|⟨e,hf⟩
 ·rw[e];exact I.lF
 ·rw[e]
  obtain⟨m,hn,_⟩:=I.loc
  refine .cons (by rw[I.ok.kind];decide) hf hn ?_ I.lF
  exact Heap.get?_none_of_le (c7 I.ok.bsz I.ok.above)
theorem Inv.C8 (I:Inv X pins σ H s):∀ b∈uA X.stack,b∈X.env.locals::X.fs:=fun b hb=>by
 rcases I.ok.stk with e|⟨e,hf⟩
 ·rw[e]at hb;exact cb _ hb
 ·rw[e]at hb
  unfold uA at hb
  rw[fu,hf]at hb
  exact hb
theorem Inv.MP (I:Inv X pins σ H s):∀ b∈uA X.stack,H b=none:=fun b hb=>by
 rcases List.mem_cons.mp (I.C8 b hb)with e|hb
 ·rw[e];exact I.free
 ·obtain⟨_,o,ho,_⟩:=I.ok.lF.mem hb
  exact I.base.free b o ho (I.ok.frf b hb) fun z=>I.ok.exfs b z hb
theorem Inv.step {g':Array zp}{t':Nat}{d':Drawn}{ch:List Addr}(I:Inv X pins σ H s)
  (hch:∀ b∈ch,(b∈X.ex∨X.s₀.heap.objs.size<=b)/\b≠X.env.locals/\(∀ x c,X.env.cells.lookup x=some c->c≠b)/\∀ p∈X.pn++pins,p.1≠b)
  (keep:∀ b o,b≠X.env.locals->b∉X.fs->b∉ch->s.heap.get? b=some o->H b=none->h'.get? b=some o)
  (slot:∀ b o,b≠X.env.locals->b∈X.fs->b∉ch->s.heap.get? b=some o->H b=none->∃ sl,h'.get? b=some { o with slots:=sl })(free:∀ b o,b∉ch->s.heap.get? b=some o->H b=none->H' b=none)
  (there:∀ b o,b∉ch->s.heap.get? b=some o->∃ o',h'.get? b=some o')
  (rQ:∀ b xs,H b=some (.tup xs)->H' b=some (.tup xs))(nQ:∀ b o u,H b=some (.frz o u)->H' b=some (.frz o u))(pY:∀ b ps,H b=some (.tbl ps)->∃ more,H' b=some (.tbl (ps++more)))
  (ns:∀ m,s.heap.Ns X.env.locals m->h'.Ns X.env.locals m)(bS:gS X.prog X.w H' h')(hg:qy g'):
  Inv X pins σ H' { s with heap:=h',gens:=g',drawn:=d',toks:=t' }:=by
 have neL:∀ b o,X.s₀.heap.get? b=some o->b≠X.env.locals:=fun b o e=>b9 (bp (bg e) I.ok.above)
 have neC:∀ b o,X.s₀.heap.get? b=some o->b∉X.ex->b∉ch:=fun b o e hx hb=>by
  rcases(hch b hb).1 with z|z
  ·exact hx z
  ·exact absurd (bp (bg e) z) (ey _)
 have cellK:∀ x c,X.env.cells.lookup x=some c->∀ v,s.heap.IsCell c v->h'.IsCell c v:=fun x c e v ⟨o,ho,hd⟩=>by
  have nch:c∉ch:=fun z=>(hch c z).2.2.1 x c e rfl
  by_cases hc:c∈X.fs
  ·obtain⟨sl,q⟩:=slot c o (I.FV x c e) hc nch ho (I.kG x c e)
   exact⟨_,q,hd⟩
  ·exact⟨o,keep c o (I.FV x c e) hc nch ho (I.kG x c e),hd⟩
 refine⟨I.ok,I.os,hg,⟨fun b o e n hb hx=>?_,fun b o e n hb hx=>?_,fun b o e n hx=>?_,fun b o e hx=>?_,fun b xs e=>rQ b xs (I.base.rQ b xs e),fun b o xs e=>nQ b o xs (I.base.nQ b o xs e),fun b ps e=>?_⟩,?_,fun x c e=>?_,?_,fun x c e=>?_,fun p hp=>?_,bS,I.len⟩
 ·exact keep b o (neL b o e) hb (neC b o e hx) (I.base.keep b o e n hb hx) (I.base.free b o e n hx)
 ·obtain⟨sl,e1⟩:=I.base.slot b o e n hb hx
  obtain⟨sl',e2⟩:=slot b _ (neL b o e) hb (neC b o e hx) e1 (I.base.free b o e n hx)
  exact⟨sl',e2⟩
 ·obtain⟨o',e1⟩:=I.base.there b o e hx
  exact free b o' (neC b o e hx) e1 (I.base.free b o e n hx)
 ·obtain⟨o',e1⟩:=I.base.there b o e hx
  exact there b o' (neC b o e hx) e1
 ·obtain⟨m1,e1⟩:=I.base.pY b ps e
  obtain⟨m2,e2⟩:=pY b _ e1
  exact⟨m1++m2,by rw[e2,Array.append_assoc]⟩
 ·obtain⟨m,hn,hl⟩:=I.loc
  refine⟨m,ns m hn,fun i x v e1 e2 e3=>?_⟩
  obtain⟨u,r,l⟩:=hl i x v e1 e2 e3
  refine⟨u,r,?_⟩
  rcases l with l|⟨k,c,e,z⟩
  ·exact .inl l
  ·exact .inr ⟨k,c,e,cellK x c e _ z⟩
 ·obtain⟨v,z⟩:=I.cell x c e
  exact⟨v,cellK x c e v z⟩
 ·obtain⟨m,⟨o,_,_,ho,_⟩,_⟩:=I.loc
  exact free _ o (fun z=>(hch _ z).2.1 rfl) ho I.free
 ·obtain⟨v,o,ho,hd⟩:=I.cell x c e
  exact free c o (fun z=>(hch c z).2.2.1 x c e rfl) ho (I.kG x c e)
 ·obtain⟨e,n,ne,nf,d⟩:=I.pin p hp
  have nch:p.1∉ch:=fun z=>(hch p.1 z).2.2.2 p hp rfl
  exact⟨keep p.1 p.2 ne nf nch e n,free p.1 p.2 nch e n,ne,nf,d⟩
theorem Inv.un {t':Nat}(I:Inv X pins σ H s)(u:Un X.fs [] H H' s.heap h')(bS:gS X.prog X.w H' h'):Inv X pins σ H' { s with heap:=h',toks:=t' }:=by
 obtain⟨m,⟨o,es,ep,ho,r⟩,_⟩:=id I.loc
 obtain⟨sl,hL⟩:=u.any ho I.free (by simp)
 exact I.step (g':=s.gens) (d':=s.drawn) (ch:=[]) (fun _ z=>nomatch z) (fun b o _ hb _ e n=>u.keep b o e n hb (by simp)) (fun b o _ hb _ e n=>u.slot b o e n hb (by simp)) (fun b o _ e n=>u.free b o e n (by simp)) (fun b o _ e=>u.there b o e (by simp)) u.rQ u.nQ u.pY (fun m' hm=>by
 obtain⟨o',es',ep',ho',r'⟩:=hm
 rw[ho]at ho';cases ho'
 exact⟨_,es',ep',hL,r'⟩) bS I.bare
theorem Inv.call {g':Array zp}{t':Nat}{d':Drawn}{ch:List Addr}(I:Inv X pins σ H s)(u:Un (uA X.stack) ch H H' s.heap h')(bS:gS X.prog X.w H' h')(hg:qy g')
 (hch:∀ b∈ch,(b∈X.ex∨X.s₀.heap.objs.size<=b)/\b≠X.env.locals/\(∀ x c,X.env.cells.lookup x=some c->c≠b)/\∀ p∈X.pn++pins,p.1≠b):
 Inv X pins σ H' { s with heap:=h',gens:=g',drawn:=d',toks:=t' }:=by
 obtain⟨m,⟨o,es,ep,ho,r⟩,_⟩:=id I.loc
 obtain⟨sl,hL⟩:=u.any ho I.free fun z=>(hch _ z).2.1 rfl
 exact I.step (ch:=ch) hch (fun b o hL hb hc e n=>u.keep b o e n (fun z=>(List.mem_cons.mp (I.C8 b z)).elim hL hb) hc) (fun b o _ _ hc e n=>u.any e n hc) (fun b o hc e n=>u.free b o e n hc) (fun b o hc e=>u.there b o e hc) u.rQ u.nQ u.pY (fun m' hm=>by
 obtain⟨o',es',ep',ho',r'⟩:=hm
 rw[ho]at ho';cases ho'
 exact⟨_,es',ep',hL,r'⟩) bS hg
theorem Inv.turned {t':Nat}{it:Addr}(I:Inv X pins σ H s)(k:∀ b o,b≠it->s.heap.get? b=some o->h'.get? b=some o)(hn:H it=none)(hL:it≠X.env.locals)
  (h1:it∈X.ex∨X.s₀.heap.objs.size<=it)(h2:∀ x c,X.env.cells.lookup x=some c->c≠it)(h3:∀ p∈X.pn++pins,p.1≠it):Inv X pins σ H { s with heap:=h',toks:=t' }:=by
 have nit:∀ b u,H b=some u->b≠it:=fun b u e z=>by rw[z,hn]at e;cases e
 refine I.step (g':=s.gens) (d':=s.drawn) (ch:=[it]) (fun b hb=>?_) (fun b o _ _ hc e _=>k b o (fun z=>hc (by simp [z])) e) (fun b o _ _ hc e _=>⟨o.slots,k b o (fun z=>hc (by simp [z])) e⟩) (fun _ _ _ _ n=>n)
  (fun b o hc e=>⟨o,k b o (fun z=>hc (by simp [z])) e⟩) (fun _ _ e=>e) (fun _ _ _ e=>e) (fun b ps e=>⟨#[],by rw[e];simp⟩) (fun m hm=>?_) (fun b u e=>?_) I.bare
 ·have e:b=it:=by simpa using hb
  subst e
  exact⟨h1,hL,h2,h3⟩
 ·obtain⟨o,es,ep,ho,r⟩:=hm
  exact⟨o,es,ep,k _ o (jc hL) ho,r⟩
 ·refine(I.bS b u e).pO (fun c v hc q=>k c v ?_ q) (fun _ q=>q) fun _ _ q=>q
  rcases hc with z|z
  ·rw[z];exact nit b u e
  ·exact nit c _ z
theorem Inv.tok (I:Inv X pins σ H s)(t:Nat):Inv X pins σ H { s with toks:=t }:=I.un (h':=s.heap) (t':=t) Un.refl I.bS
theorem Inv.kept {t':Nat}(I:Inv X pins σ H s)(k:∀ b u,s.heap.get? b=some u->h'.get? b=some u):Inv X pins σ H { s with heap:=h',toks:=t' }:=I.un (Un.kept k) (I.bS.kept k)
theorem Inv.laid {a:Addr}{o:HO}{t':Nat}(I:Inv X pins σ H s)(k:∀ b u,s.heap.get? b=some u->h'.get? b=some u)(hp:s.heap.objs.size<=a)(new:jK X.prog X.w (upd H a o) h' a o):
 Inv X pins σ (upd H a o) { s with heap:=h',toks:=t' }:=I.un (Un.laid k hp (I.bS.fresh hp)) (I.bS.laid k hp new)
theorem Inv.write {x e:Addr}{o:HO}{t':Nat}(I:Inv X pins σ H s)(mu:V6 (H x))(he:e=x∨H e=some (.own x))(k:∀ b u,b≠e->s.heap.get? b=some u->h'.get? b=some u)(heo:∃ u,h'.get? e=some u)
 (new:jK X.prog X.w (upd H x o) h' x o):Inv X pins σ (upd H x o) { s with heap:=h',toks:=t' }:=I.un (Un.write mu he k heo) (I.bS.write mu he k heo new)
theorem Inv.weak {σ':List (Option V)}(I:Inv X pins σ H s)(hl:σ'.length=σ.length)(w:∀(i:Nat) v,σ'[i]? = some (some v)->σ[i]? = some (some v)):Inv X pins σ' H s :=
 ⟨I.ok,I.os,I.bare,I.base,let⟨m,hn,hl'⟩:=I.loc;⟨m,hn,fun i x v e1 e2 e3=>hl' i x v e1 (w i v e2) e3⟩,I.cell,I.free,I.kG,I.pin,I.bS,hl.trans I.len⟩
theorem Inv.LJ {pins':List (Addr×Obj)}(I:Inv X pins σ H s)(h:∀ p∈pins',s.heap.get? p.1=some p.2/\H p.1=none/\p.1≠X.env.locals/\p.1∉X.fs/\∀ v,p.2.data≠.cell v):Inv X pins' σ H s :=
 ⟨I.ok,I.os,I.bare,I.base,I.loc,I.cell,I.free,I.kG,fun p hp=>(List.mem_append.mp hp).elim (fun z=>I.pin p (oq _ z)) (h p),I.bS,I.len⟩
theorem KA {N:List Str}(hN:N.Nodup){i j:Nat}{x:Str}(a:N[i]? = some x)(b:N[j]? = some x):i=j:=by
 obtain⟨h1,e1⟩:=List.getElem?_eq_some_iff.mp a
 obtain⟨h2,e2⟩:=List.getElem?_eq_some_iff.mp b
 exact(List.getElem_inj hN).mp (e1.trans e2.symm)
theorem EV {M:Model}{A:b7}{E:Value->af->Prop}{i:Nat}{x:Str}{v:V}{u:Value}{Q:Unit->af->Prop}(I:Inv X pins σ H s)(hN:X.N.Nodup)(hi:X.N[i]? = some x)(hx:Loc X.env.scope x)(r:RelV v u)
  (h:∀ s',Inv X pins (σ.set i (some v)) H s'->(∃ a,kc a s.heap s'.heap/\(a=X.env.locals∨X.env.cells.lookup x=some a))->Q () s')(hf:X.fn x=true∨X.env.scope.names.lookup x=some .local:=by first|exact .inl rfl|exact .inr rfl|assumption):wpAny M A (storeName X.env x u) Q E s:=by
 obtain⟨m,hn,hl⟩:=id I.loc
 have hcls:(X.env.scope.kind == .class||(X.env.scope.kind == .module&&X.env.locals != X.env.globals))=false:=by rw[I.ok.kind];rfl
 have hiσ:i<σ.length:=by rw[I.len];exact(List.getElem?_eq_some_iff.mp hi).1
 have FV:=I.FV
 have tracked:∀{a:Addr}{h':Heap},(∃ o,s.heap.get? a=some o/\H a=none)->kc a s.heap h'->gS X.prog X.w H h':=fun{a h'} ha hs b ob e=>by
  obtain⟨_,_,hfree⟩:=ha
  refine(I.bS b ob e).pO (fun c w' hc q=>(hs.2 c ?_).trans q) (fun _ q=>q) fun _ _ q=>q
  rintro rfl
  rcases hc with rfl|hc
  ·rw[hfree]at e;cases e
  ·rw[hfree]at hc;cases hc
 rcases hx with hk|hk
 ·refine wpAny_storeName_local hk hn (fun h' hn' hs=>?_) hcls
  obtain⟨oL,_,_,hoL,_⟩:=id hn
  refine h _ ⟨I.ok,I.os,I.bare,⟨fun b o e n hb hx=>?_,fun b o e n hb hx=>?_,I.base.free,fun b o e hx=>?_,I.base.rQ,I.base.nQ,I.base.pY⟩,⟨_,hn',fun j y v' e1 e2 e3=>?_⟩,fun y c e=>?_,I.free,I.kG,fun p hp=>?_,tracked ⟨oL,hoL,I.free⟩ hs,by simpa using I.len⟩ ⟨_,hs,.inl rfl⟩
  ·exact(hs.2 b (b9 (bp (bg e) I.ok.above))).trans (I.base.keep b o e n hb hx)
  ·obtain⟨sl,e1⟩:=I.base.slot b o e n hb hx
   exact⟨sl,(hs.2 b (b9 (bp (bg e) I.ok.above))).trans e1⟩
  ·obtain⟨o',e1⟩:=I.base.there b o e hx
   exact⟨o',(hs.2 b (b9 (bp (bg e) I.ok.above))).trans e1⟩
  ·by_cases hj:j=i
   ·subst hj
    rw[hi]at e1;cases e1
    rw[ke hiσ]at e2
    cases e2
    exact⟨u,r,.inl ⟨hk,by simp⟩⟩
   ·rw[g5 (jc hj)]at e2
    obtain⟨u',r',q⟩:=hl j y v' e1 e2 e3
    refine⟨u',r',?_⟩
    rcases q with⟨k,e⟩|⟨k,c,e,z⟩
    ·refine .inl ⟨k,?_⟩
     have:y≠x:=fun e=>hj (KA hN e1 (e▸hi))
     simp [this,e]
    ·exact .inr ⟨k,c,e,z.sameBut hs (FV y c e)⟩
  ·obtain⟨w',z⟩:=I.cell y c e
   exact⟨w',z.sameBut hs (FV y c e)⟩
  ·obtain⟨e,n,ne,nf,d⟩:=I.pin p hp
   exact⟨(hs.2 p.1 ne).trans e,n,ne,nf,d⟩
 ·have hfn:X.fn x=true:=by
   rcases hf with z|z
   ·exact z
   ·rw[z]at hk;cases hk
  obtain⟨c,hc⟩:=I.ok.has x (.inl hk)
  obtain⟨w',z⟩:=I.cell x c hc
  refine wpAny_storeName_cell I.ok.kind hk hc z (fun h' hc' hs=>?_)
  obtain⟨oc,hoc,hocd⟩:=id z
  refine h { s with heap:=h' } ⟨I.ok,I.os,I.bare,⟨fun b o e n hb hx=>?_,fun b o e n hb hx=>?_,I.base.free,fun b o e hx=>?_,I.base.rQ,I.base.nQ,I.base.pY⟩,⟨m,hn.sameBut hs (jc (FV x c hc)),fun j y v' e1 e2 e3=>?_⟩,fun y c' e=>?_,I.free,I.kG,fun p hp=>?_,tracked ⟨oc,hoc,I.kG x c hc⟩ hs,by simpa using I.len⟩ ⟨c,hs,.inr hc⟩
  ·exact(hs.2 b (b9 (bp (bg e) (I.ok.cab x c hfn hc)))).trans (I.base.keep b o e n hb hx)
  ·obtain⟨sl,e1⟩:=I.base.slot b o e n hb hx
   exact⟨sl,(hs.2 b (b9 (bp (bg e) (I.ok.cab x c hfn hc)))).trans e1⟩
  ·obtain⟨o',e1⟩:=I.base.there b o e hx
   exact⟨o',(hs.2 b (b9 (bp (bg e) (I.ok.cab x c hfn hc)))).trans e1⟩
  ·by_cases hj:j=i
   ·subst hj
    rw[hi]at e1;cases e1
    rw[ke hiσ]at e2
    cases e2
    exact⟨u,r,.inr ⟨.inl hk,c,hc,hc'⟩⟩
   ·rw[g5 (jc hj)]at e2
    obtain⟨u',r',q⟩:=hl j y v' e1 e2 e3
    refine⟨u',r',?_⟩
    rcases q with q|⟨k,c',e,z'⟩
    ·exact .inl q
    ·refine .inr ⟨k,c',e,z'.sameBut hs ?_⟩
     rintro rfl
     exact hj (KA hN e1 (I.ok.inj _ _ _ e hc▸hi))
  ·by_cases hcc:c'=c
   ·subst hcc;exact⟨_,hc'⟩
   ·obtain⟨w2,z2⟩:=I.cell y c' e
    exact⟨w2,z2.sameBut hs hcc⟩
  ·obtain⟨e,n,ne,nf,d⟩:=I.pin p hp
   refine⟨(hs.2 p.1 ?_).trans e,n,ne,nf,d⟩
   intro q
   rw[q,hoc]at e
   have q':oc=p.2:=cz e
   exact d w' (by rw[<-q'];exact hocd)
theorem SO {M:Model}{A:b7}{E:Value->af->Prop}{i:Nat}{x:Str}{v:V}{u:Value}{Q:Unit->af->Prop}(I:Inv X pins σ H s)(hN:X.N.Nodup)(hi:X.N[i]? = some x)(hx:Loc X.env.scope x)(r:RelV v u)
 (h:∀ s',Inv X pins (σ.set i (some v)) H s'->Q () s')(hf:X.fn x=true∨X.env.scope.names.lookup x=some .local:=by first|exact .inl rfl|exact .inr rfl|assumption):wpAny M A (storeName X.env x u) Q E s :=
 EV I hN hi hx r (fun s' I' _=>h s' I') hf
theorem Inv.VO {s':af}{ch:List Addr}(I:Inv X pins σ H s)(ho:s'.os=s.os)(u:Un (uA X.stack) ch H H' s.heap s'.heap)(bS:gS X.prog X.w H' s'.heap)(hg:qy s'.gens)
 (hch:∀ b∈ch,(b∈X.ex∨X.s₀.heap.objs.size<=b)/\b≠X.env.locals/\(∀ x c,X.env.cells.lookup x=some c->c≠b)/\∀ p∈X.pn++pins,p.1≠b):Inv X pins σ H' s':=by
 obtain⟨h',g',d',t',o'⟩:=s'
 have e:o'=s.os:=ho
 subst e
 exact I.call (g':=g') (t':=t') (d':=d') u bS hg hch
end
noncomputable abbrev XK:=Value->Option Addr->Hp->Prop
noncomputable abbrev St:=List (Option V)
noncomputable abbrev VK:=V->Hp->Prop
noncomputable abbrev TE:=St->Hp->VK->Prop
noncomputable abbrev TT:=St->Hp->(Bool->Hp->Prop)->Prop
noncomputable abbrev TA:=St->Hp->(List V->Hp->Prop)->Prop
structure Ends where
 nx:St->Hp->Prop
 rt:VK
 bk:St->Hp->Prop:=fun _ _=>False
 ct:St->Hp->Prop:=fun _ _=>False
noncomputable abbrev TS:=Ends->St->Hp->Prop
inductive EP (X:Cx)(pins:List (Addr×Obj))(σ:St)(Q:VK)(u:Value)(s':af):Prop
 |mk (v:V)(H':Hp)(i:Inv X pins σ H' s')(r:RelV v u)(q:Q v H')
inductive TP (X:Cx)(pins:List (Addr×Obj))(σ:St)(Q:Bool->Hp->Prop)(b:Bool)(s':af):Prop
 |mk (H':Hp)(i:Inv X pins σ H' s')(q:Q b H')
inductive AP (X:Cx)(pins:List (Addr×Obj))(σ:St)(Q:List V->Hp->Prop)(us:List Value)(s':af):Prop
 |mk (vs:List V)(H':Hp)(i:Inv X pins σ H' s')(r:aQ vs us)(q:Q vs H')
noncomputable def SP (X:Cx)(pins:List (Addr×Obj))(D:Ends)(f:Flow)(s':af):Prop :=
 match f with
 |.next=>∃ σ' H',Inv X pins σ' H' s'/\D.nx σ' H'
 |.brk=>∃ σ' H',Inv X pins σ' H' s'/\D.bk σ' H'
 |.cont=>∃ σ' H',Inv X pins σ' H' s'/\D.ct σ' H'
 |.ret u=>∃ v σ' H',Inv X pins σ' H' s'/\RelV v u/\D.rt v H'
noncomputable def PE (X:Cx)(e:Expr)(t:TE):Prop :=
 ∀(pins:List (Addr×Obj))(s:af)(σ:St)(H:Hp)(Q:VK),Inv X pins σ H s->t σ H Q->wpAny (model X.prog X.w) X.A (eval e X.env) (EP X pins σ Q) X.xe s
noncomputable def PT (X:Cx)(e:Expr)(t:TT):Prop :=
 ∀(pins:List (Addr×Obj))(s:af)(σ:St)(H:Hp)(Q:Bool->Hp->Prop),Inv X pins σ H s->t σ H Q->wpAny (model X.prog X.w) X.A (yo e X.env (eval e X.env)) (TP X pins σ Q) X.xe s
noncomputable def PW (X:Cx)(e:Expr)(t:TT):Prop :=
 ∀(whole:Sem Value)(pins:List (Addr×Obj))(s:af)(σ:St)(H:Hp)(Q:Bool->Hp->Prop),Inv X pins σ H s->t σ H Q->wpAny (model X.prog X.w) X.A (yo e X.env whole) (TP X pins σ Q) X.xe s
theorem PW.pt {X:Cx}{e:Expr}{t:TT}(h:PW X e t):PT X e t:=h _
noncomputable def PA (X:Cx)(es:List Expr)(t:TA):Prop :=
 ∀(pos:Pos)(pins:List (Addr×Obj))(s:af)(σ:St)(H:Hp)(Q:List V->Hp->Prop),Inv X pins σ H s->t σ H Q->wpAny (model X.prog X.w) X.A (wb (dh pos (ah es X.env))) (AP X pins σ Q) X.xe s
noncomputable def PS (X:Cx)(st:Stmt)(t:TS):Prop :=
 ∀(pins:List (Addr×Obj))(s:af)(σ:St)(H:Hp)(D:Ends),Inv X pins σ H s->t D σ H->wpAny (model X.prog X.w) X.A (exec st X.env) (SP X pins D) X.xe s
noncomputable def kL (X:Cx)(st:List Stmt)(t:TS):Prop :=
 ∀(pins:List (Addr×Obj))(s:af)(σ:St)(H:Hp)(D:Ends),Inv X pins σ H s->t D σ H->wpAny (model X.prog X.w) X.A (execs st X.env) (SP X pins D) X.xe s
theorem bB {α:Type}{t:Sem α}{Q Q':α->af->Prop}{M:Model}{A:b7}{E:Value->af->Prop}{s:af}(h:wpAny M A t Q E s)(hQ:∀ a s,Q a s->Q' a s):wpAny M A t Q' E s:=jk h hQ fun _ _ x=>x
end L2
namespace L2
open PySem PySem.Spec PyProof.Rows
section
variable {X:Cx}
theorem bin {a b:Expr}{ta tb:TE}(ha:PE X a ta)(hb:PE X b tb){pins:List (Addr×Obj)}{s:af}{σ:St}{H:Hp}{R:V->V->Hp->Prop}(I:Inv X pins σ H s)(h:ta σ H fun x H1=>tb σ H1 fun y H2=>R x y H2)
 {α:Type}{Q:α->af->Prop}{f:Value->Value->Sem α}
 (hf:∀ v u s2 x y H2,Inv X pins σ H2 s2->RelV x v->RelV y u->R x y H2->wpAny (model X.prog X.w) X.A (f v u) Q X.xe s2):
 wpAny (model X.prog X.w) X.A (eval a X.env) (fun v s₁=>wpAny (model X.prog X.w) X.A (eval b X.env) (fun u s₂=>wpAny (model X.prog X.w) X.A (f v u) Q X.xe s₂) X.xe s₁) X.xe s:=by
 refine bB (ha pins s σ H _ I h) fun v s1 ⟨x,H1,I1,r1,q1⟩=>?_
 refine bB (hb pins s1 σ H1 _ I1 q1) fun u s2 ⟨y,H2,I2,r2,q2⟩=>?_
 exact hf v u s2 x y H2 I2 r1 r2 q2
noncomputable def S5 (i:Nat):TE:=fun σ H Q=>∃ v,σ[i]? = some (some v)/\Q v H
noncomputable def tC (v:V):TE:=fun _ H Q=>Q v H
theorem O2 {i:Nat}{x:Str}{pos:Pos}(hN:X.N[i]? = some x)(hv:VN X.env.scope x)(hd:(x==("__debug__" : Str))=false:=by decide)(hcd:(x==("__classdict__" : Str))=false:=by decide):PE X (.Name x pos) (S5 i):=by
 intro pins s σ H Q I h
 obtain⟨v,e,h⟩:=h
 obtain⟨m,hn,hl⟩:=I.loc
 obtain⟨u,r,l⟩:=hl i x v hN e hv
 have fin:EP X pins σ Q u s:=⟨v,H,I,r,h⟩
 rcases l with⟨hk,hm⟩|⟨hk,c,hc,hcell⟩
 ·exact zq (wpAny_loadName_local I.ok.kind hk hn hm fin) hd
 ·rcases hk with hk|hk
  ·exact zq (wpAny_loadName_cell I.ok.kind hk hc hcell fin) hd
  ·exact zq (wpAny_loadName_free I.ok.kind hk hc hcell fin hcd) hd
theorem ZO {i j pos}:PE X (.Constant (.int i) j pos) (tC (.int i)):=fun _ _ _ H _ I h=>wpAny_Constant_int ⟨.int i,H,I.tok _,⟨_,rfl⟩,h⟩
theorem Ip {b j pos}:PE X (.Constant (.bool b) j pos) (tC (.bl b)):=fun _ _ _ H _ I h=>Constant_bool ⟨.bl b,H,I,rfl,h⟩
theorem Dl {j pos}:PE X (.Constant .none j pos) (tC .non):=fun _ _ _ H _ I h=>Constant_none ⟨.non,H,I,rfl,h⟩
theorem Fi {x j pos}:PE X (.Constant (.str x) j pos) (tC (.str x)):=fun _ _ _ H _ I h=>Calls.Constant_str ⟨.str x,H,I.tok _,⟨_,rfl⟩,h⟩
noncomputable def Gl (X:Cx)(x:Str):Prop:=X.env.kindOf x=some .globalImplicit
theorem yU {E:Value->af->Prop}{pins:List (Addr×Obj)}{s:af}{σ:St}{H:Hp}{x:Str}{u:Value}{pos:Pos}{Q:Value->af->Prop}(I:Inv X pins σ H s)(hg:Gl X x)(hm:X.mg x=some u)(h:Q u s)
 (hd:(x==("__debug__" : Str))=false:=by decide):wpAny (model X.prog X.w) X.A (eval (.Name x pos) X.env) Q E s :=
 qh I.ok.kind hg (Calls.loadGlobal_global (by rw[I.ok.glob];exact I.mod.glob.keeps I.bk) hm h) hd
theorem kQ {E:Value->af->Prop}{pins:List (Addr×Obj)}{s:af}{σ:St}{H:Hp}{x:Str}{u:Value}{pos:Pos}{Q:Value->af->Prop}(I:Inv X pins σ H s)(hg:Gl X x)(hm:X.mg x=none)(hv:cp x=some u)(h:Q u s)
 (hn:x ≠"__name__":=by decide)(hd:(x==("__debug__" : Str))=false:=by decide):wpAny (model X.prog X.w) X.A (eval (.Name x pos) X.env) Q E s:=by
 obtain⟨mb,h1,h2⟩:=I.mod.blt
 exact qh I.ok.kind hg (Calls.loadGlobal_builtin (by rw[I.ok.glob];exact I.mod.glob.keeps I.bk) hm (by rw[I.ok.blt];exact h1.keeps I.bk) ((h2 x hn).trans hv) h) hd
theorem ZE {x:Str}{v:V}{u:Value}{pos:Pos}(hg:Gl X x)(hm:X.mg x=some u)(r:RelV v u)(hd:(x==("__debug__" : Str))=false:=by decide):PE X (.Name x pos) (tC v) :=
 fun _ _ _ H _ I h=>yU I hg hm ⟨v,H,I,r,h⟩ hd
theorem XF {x:Str}{v:V}{u:Value}{pos:Pos}(hg:Gl X x)(hm:X.mg x=none)(hv:cp x=some u)(r:RelV v u)(hn:x ≠"__name__":=by decide)(hd:(x==("__debug__" : Str))=false:=by decide):PE X (.Name x pos) (tC v) :=
 fun _ _ _ H _ I h=>kQ I hg hm hv ⟨v,H,I,r,h⟩ hn hd
variable {a b:Expr}{ta tb:TE}{pos:Pos}
theorem RelV.UG {x:V}{v:Value}(r:RelV x v):(v==iq)=decide (x=.non):=by
 cases x with
 |non=>cases r;rfl
 |bl _=>cases r;rfl
 |int _=>obtain⟨t,rfl⟩:=r;rfl
 |str _=>obtain⟨t,rfl⟩:=r;rfl
 |byt _=>obtain⟨t,rfl⟩:=r;rfl
 |flt _=>obtain⟨t,rfl⟩:=r;rfl
 |ref _=>cases r;rfl
 |ty _=>cases r;rfl
variable {tA tB':TT}{rest:List Expr}
noncomputable def Og (t u:TT):TT:=fun σ H Q=>t σ H fun c H1=>if c=true then u σ H1 Q else Q false H1
noncomputable def Po (t u:TT):TT:=fun σ H Q=>t σ H fun c H1=>if c=true then Q true H1 else u σ H1 Q
noncomputable def Nt (t:TT):TT:=fun σ H Q=>t σ H fun c H1=>Q (!c) H1
theorem YZ (ha:PT X a tA):PW X (.BoolOp .And [a] pos) tA:=by
 intro wh pins s σ H Q I h
 refine isTrue_and (bB (ha pins s σ H Q I h) fun c s1 e=>?_)
 cases c with
 |true=>exact isTrue_and_nil e
 |false=>exact e
theorem Az (ha:PT X a tA):PW X (.BoolOp .Or [a] pos) tA:=by
 intro wh pins s σ H Q I h
 refine isTrue_or (bB (ha pins s σ H Q I h) fun c s1 e=>?_)
 cases c with
 |false=>exact isTrue_or_nil e
 |true=>exact e
theorem Bq (ha:PT X a tA)(hb:PW X (.BoolOp .And (b::rest) pos) tB'):PW X (.BoolOp .And (a::b::rest) pos) (Og tA tB'):=by
 intro wh pins s σ H Q I h
 refine isTrue_and (bB (ha pins s σ H _ I h) fun c s1 ⟨H1,I1,q1⟩=>?_)
 cases c with
 |true=>exact hb wh pins s1 σ H1 Q I1 q1
 |false=>exact⟨H1,I1,q1⟩
theorem Gv (ha:PT X a tA)(hb:PW X (.BoolOp .Or (b::rest) pos) tB'):PW X (.BoolOp .Or (a::b::rest) pos) (Po tA tB'):=by
 intro wh pins s σ H Q I h
 refine isTrue_or (bB (ha pins s σ H _ I h) fun c s1 ⟨H1,I1,q1⟩=>?_)
 cases c with
 |true=>exact⟨H1,I1,q1⟩
 |false=>exact hb wh pins s1 σ H1 Q I1 q1
theorem Dj (ha:PT X a tA):PT X (.UnaryOp .Not a pos) (Nt tA):=by
 intro pins s σ H Q I h
 exact isTrue_not (bB (ha pins s σ H (fun c H1=>Q (!c) H1) I h) fun c s1 ⟨H1,I1,q⟩=>⟨H1,I1,q⟩)
theorem Cp {op}{t:TE}(h:PE X a t):PE X (.BoolOp op [a] pos) t:=fun pins s σ H Q I hw=>BoolOp_one (h pins s σ H Q I hw)
end
end L2
namespace L2
open PySem PySem.Spec PyProof.Rows
noncomputable def eH (K:aa)(H:Hp)(a:Addr)(xs:List V):Prop :=
 Rd H a (.lst xs) ∨
 ∃(o:Obj)(aD:Array Value)(n:Nat),K.lookup a=some o/\o.cls=.type "list" /\ o.dict=none/\o.data=.seq aD n/\aD.size<=sizeLine/\aQ xs aD.toList
noncomputable def eI (K:aa)(H:Hp)(a:Addr)(xs:List V):Prop :=
 Rd H a (.tup xs) ∨
 ∃(o:Obj)(aD:Array Value)(n:Nat),K.lookup a=some o/\o.cls=.type "tuple" /\ o.dict=none/\o.data=.seq aD n/\aD.size<=sizeLine/\aQ xs aD.toList
noncomputable def Mr:Value->Option V
 |.none=>some .non
 |.bool b=>some (.bl b)
 |.int i _=>some (.int i)
 |.str x _=>some (.str x)
 |.bytes b _=>some (.byt b)
 |.float b _=>some (.flt b)
 |.ref a=>some (.ref a)
 |.type n=>some (.ty n)
 |_=>none
theorem RelV.abs {x:V}{u:Value}(r:RelV x u):Mr u=some x:=by
 cases x with
 |non=>cases r;rfl
 |bl _=>cases r;rfl
 |int _=>obtain⟨t,rfl⟩:=r;rfl
 |str _=>obtain⟨t,rfl⟩:=r;rfl
 |byt _=>obtain⟨t,rfl⟩:=r;rfl
 |flt _=>obtain⟨t,rfl⟩:=r;rfl
 |ref _=>cases r;rfl
 |ty _=>cases r;rfl
theorem RelV.inj {x y:V}{u:Value}(r:RelV x u)(q:RelV y u):x=y:=cz (r.abs.symm.trans q.abs)
theorem aQ.inj:∀{xs ys:List V}{us:List Value},aQ xs us->aQ ys us->xs=ys
 |_,_,_,.nil,.nil=>rfl
 |_,_,_,.cons r t,.cons r' t'=>by rw[r.inj r',aQ.inj t t']
section
variable {X:Cx}{pins:List (Addr×Obj)}{σ:St}{H:Hp}{s:af}{a:Addr}{xs ys:List V}
theorem eH.of {K:aa}(h:H a=some (.lst xs)):eH K H a xs:=.inl (.inl h)
theorem eI.of {K:aa}(h:H a=some (.tup xs)):eI K H a xs:=.inl (.inl h)
theorem Inv.list (I:Inv X pins σ H s)(h:eH X.K H a xs):∃ aD:List Value,aQ xs aD/\PlainL s.heap a aD.toArray/\xs.length<=sizeLine:=by
 rcases h with h|⟨o,aD,n,hk,hc,hd,hs,hz,r⟩
 ·obtain⟨z,aD,n,r,e⟩:=h.ok I.bS
  exact⟨aD,r,⟨_,n,e,rfl,rfl,rfl⟩,z⟩
 ·refine⟨aD.toList,r,⟨o,n,I.iU a o hk,hc,hd,by simpa using hs⟩,?_⟩
  have e:=r.length
  simp only[i5]at e
  omega
theorem Inv.tuple (I:Inv X pins σ H s)(h:eI X.K H a xs):∃ aD:List Value,aQ xs aD/\IsTup s.heap a aD.toArray/\xs.length<=sizeLine:=by
 rcases h with h|⟨o,aD,n,hk,hc,_,hs,hz,r⟩
 ·obtain⟨z,aD,r,p⟩:=h.ok I.bS
  exact⟨aD,r,p.tup,z⟩
 ·refine⟨aD.toList,r,⟨o,I.iU a o hk,hc,n,by simpa using hs⟩,?_⟩
  have e:=r.length
  simp only[i5]at e
  omega
theorem Inv.rC (I:Inv X pins σ H s)(h:eH X.K H a xs)(h':eH X.K H a ys):xs=ys:=by
 obtain⟨aD,r,⟨o,n,e,_,_,d⟩,_⟩:=I.list h
 obtain⟨lG,r',⟨o',n',e',_,_,d'⟩,_⟩:=I.list h'
 rw[e]at e';cases e'
 rw[d]at d'
 injection d' with d1 _
 have:aD=lG:=by simpa using congrArg xw d1
 subst this
 exact r.inj r'
theorem Inv.Jj (I:Inv X pins σ H s)(h:eI X.K H a xs):∃ o,s.heap.get? a=some o/\o.dict=none:=by
 rcases h with h|⟨o,aD,n,hk,hc,hd,hs,hz,r⟩
 ·obtain⟨z,aD,r,o,e,_,_,d⟩:=h.ok I.bS
  exact⟨o,e,d⟩
 ·exact⟨o,I.iU a o hk,hd⟩
theorem Inv.sE (I:Inv X pins σ H s)(h:eI X.K H a xs)(h':eI X.K H a ys):xs=ys:=by
 obtain⟨aD,r,⟨o,e,_,n,d⟩,_⟩:=I.tuple h
 obtain⟨lG,r',⟨o',e',_,n',d'⟩,_⟩:=I.tuple h'
 rw[e]at e';cases e'
 rw[d]at d'
 injection d' with d1 _
 have:aD=lG:=by simpa using congrArg xw d1
 subst this
 exact r.inj r'
end
noncomputable abbrev Cx.sX (X:Cx)(E:Value->af->Prop):Cx:={ X with xe:=E }
noncomputable abbrev Cx.iH (X:Cx):Cx:=X.sX fun _ _=>False
theorem Cx.Ok.sX {X:Cx}(ok:X.Ok)(E:Value->af->Prop):(X.sX E).Ok :=
 ⟨ok.mod,ok.kind,ok.glob,ok.blt,ok.above,ok.inj,ok.has,ok.cab,ok.hd,ok.frames,ok.stk,ok.exf,ok.bs,ok.bsz,ok.noex,ok.exfs,ok.lF,ok.frf⟩
theorem Cx.Ok.oU {X:Cx}{E:Value->af->Prop}(ok:(X.sX E).Ok):X.Ok :=
 ⟨ok.mod,ok.kind,ok.glob,ok.blt,ok.above,ok.inj,ok.has,ok.cab,ok.hd,ok.frames,ok.stk,ok.exf,ok.bs,ok.bsz,ok.noex,ok.exfs,ok.lF,ok.frf⟩
section
variable {X:Cx}{pins:List (Addr×Obj)}{σ:St}{H:Hp}{s:af}{E:Value->af->Prop}
theorem Inv.sX (I:Inv X pins σ H s)(E:Value->af->Prop):Inv (X.sX E) pins σ H s:=⟨I.ok.sX E,I.os,I.bare,I.base,I.loc,I.cell,I.free,I.kG,I.pin,I.bS,I.len⟩
theorem Inv.oU (I:Inv (X.sX E) pins σ H s):Inv X pins σ H s:=⟨I.ok.oU,I.os,I.bare,I.base,I.loc,I.cell,I.free,I.kG,I.pin,I.bS,I.len⟩
theorem SP.oU {D:Ends}{f:Flow}{s':af}(h:SP (X.sX E) pins D f s'):SP X pins D f s':=by
 cases f with
 |next=>obtain⟨σ',H',I,q⟩:=h;exact⟨σ',H',I.oU,q⟩
 |brk=>obtain⟨σ',H',I,q⟩:=h;exact⟨σ',H',I.oU,q⟩
 |cont=>obtain⟨σ',H',I,q⟩:=h;exact⟨σ',H',I.oU,q⟩
 |ret u=>obtain⟨v,σ',H',I,r,q⟩:=h;exact⟨v,σ',H',I.oU,r,q⟩
theorem kL.iH {st:List Stmt}{t:TS}(h:kL X.iH st t):kL X st t:=fun pins s σ H D I hw =>
 jk (h pins s σ H D (I.sX _) hw) (fun _ _ q=>q.oU) fun _ _ z=>dv z
end
section
variable {X:Cx}{st:Stmt}{rest:List Stmt}{t u:TS}{e:Expr}{te:TE}{pos:Pos}
noncomputable def Hq:TS:=fun D σ H=>D.nx σ H
noncomputable def Mv (t u:TS):TS:=fun D σ H=>t { D with nx:=u D } σ H
theorem YT:kL X [] Hq:=fun _ _ σ H _ I h=>uq ⟨σ,H,I,h⟩
theorem U5 (h1:PS X st t)(h2:kL X rest u):kL X (st::rest) (Mv t u):=by
 intro pins s σ H D I h
 refine wpAny_execs_cons (bB (h1 pins s σ H { D with nx:=u D } I h) fun f s1 q=>?_)
 cases f with
 |next =>
 obtain⟨σ',H',I',q⟩:=q
 exact h2 pins s1 σ' H' D I' q
 |ret v=>exact q
 |brk=>exact q
 |cont=>exact q
theorem Inv.quiet {pins:List (Addr×Obj)}{σ:St}{H:Hp}{s:af}(I:Inv X pins σ H s):interactive X.env=false:=by simp [interactive,I.ok.kind]
noncomputable def Ie (te:TE):TS:=fun D σ H=>te σ H fun _ H1=>D.nx σ H1
theorem W7 (he:PE X e te)(hs:lb e none pos.line X.env=pure false:=by rfl):PS X (.Expr e pos) (Ie te):=by
 intro pins s σ H D I h
 exact wpAny_Expr_any (bB (he pins s σ H _ I h) fun v s1 ⟨x,H1,I1,r1,q1⟩=>⟨σ,H1,I1,q1⟩) I.quiet hs
noncomputable def Nd (te:TE):TS:=fun D σ H=>te σ H D.rt
theorem Ft (he:PE X e te):PS X (.Return (some e) pos) (Nd te):=by
 intro pins s σ H D I h
 exact wpAny_Return_some (bB (he pins s σ H _ I h) fun v s1 ⟨x,H1,I1,r1,q1⟩=>⟨x,σ,H1,I1,r1,q1⟩)
noncomputable def Jo:TS:=fun D _ H=>D.rt .non H
theorem YX:PS X (.Return none pos) Jo:=fun _ _ σ H _ I h=>wpAny_Return_none ⟨.non,σ,H,I,rfl,h⟩
noncomputable def Nr (c:TT)(t u:TS):TS:=fun D σ H=>c σ H fun b H1=>if b=true then t D σ H1 else u D σ H1
theorem Ji {c:Expr}{a b:List Stmt}{tc:TT}(hc:PT X c tc)(ha:kL X a t)(hb:kL X b u):PS X (.If c a b pos) (Nr tc t u):=by
 intro pins s σ H D I h
 refine wpAny_If (bB (hc pins s σ H _ I h) fun d s1 ⟨H1,I1,q1⟩=>?_)
 cases d with
 |true=>exact ha pins s1 σ H1 D I1 q1
 |false=>exact hb pins s1 σ H1 D I1 q1
noncomputable def Fc:TS:=fun _ _ _=>False
theorem UQ:PS X st Fc:=fun _ _ _ _ _ _ h=>h.elim
end
noncomputable abbrev TG:=V->St->Hp->(St->Hp->Prop)->Prop
noncomputable abbrev EX:=List V->St->Hp->(St->Hp->Prop)->Prop
noncomputable def PG (X:Cx)(target:Expr)(t:TG):Prop :=
 ∀(pins:List (Addr×Obj))(s:af)(σ:St)(H:Hp)(v:V)(u:Value)(Q:St->Hp->Prop),Inv X pins σ H s->RelV v u->t v σ H Q ->
 wpAny (model X.prog X.w) X.A (lx target X.env u) (fun _ s'=>∃ σ' H',Inv X pins σ' H' s'/\Q σ' H') X.xe s
noncomputable def C2 (X:Cx)(ts:List Expr)(t:EX):Prop :=
 ∀(pins:List (Addr×Obj))(s:af)(σ:St)(H:Hp)(vs:List V)(us:List Value)(Q:St->Hp->Prop),Inv X pins σ H s->aQ vs us->t vs σ H Q ->
 wpAny (model X.prog X.w) X.A (assignInOrder ((eh ts X.env).map (·.2)) us) (fun _ s'=>∃ σ' H',Inv X pins σ' H' s'/\Q σ' H') X.xe s
noncomputable abbrev SA:=V->V->V->Hp->(Hp->Prop)->Prop
noncomputable def Bw (X:Cx)(t:SA):Prop :=
 ∀(pins:List (Addr×Obj))(s:af)(σ:St)(H:Hp)(o i v:V)(ov iv u:Value)(Q:Hp->Prop),Inv X pins σ H s->RelV o ov->RelV i iv->RelV v u->t o i v H Q ->
 wpAny (model X.prog X.w) X.A (Qs ov iv u) (fun _ s'=>∃ H',Inv X pins σ H' s'/\Q H') X.xe s
section
variable {X:Cx}{pos:Pos}
noncomputable def B6 (i:Nat):TG:=fun v σ H Q=>Q (σ.set i (some v)) H
theorem qI {i:Nat}{x:Str}(hN:X.N.Nodup)(hi:X.N[i]? = some x)(hx:Loc X.env.scope x)(hf:X.fn x=true∨X.env.scope.names.lookup x=some .local:=by first|exact .inl rfl|exact .inr rfl|assumption):PG X (.Name x pos) (B6 i):=by
 intro pins s σ H v u Q I r h
 exact xx (SO I hN hi hx r (fun s' I'=>⟨_,H,I',h⟩) hf)
noncomputable def Nk:EX:=fun vs σ H Q=>vs=[]/\Q σ H
noncomputable def Hj (t:TG)(u:EX):EX:=fun vs σ H Q=>∃ v r,vs=v::r/\t v σ H fun σ' H'=>u r σ' H' Q
theorem ZA:C2 X [] Nk:=by
 intro pins s σ H vs us Q I r h
 obtain⟨e,h⟩:=h
 subst e
 cases r
 exact assignInOrder_nil ⟨σ,H,I,h⟩
theorem UD {e:Expr}{es:List Expr}{t:TG}{u:EX}(h1:PG X e t)(h2:C2 X es u)
 (hs:(eh (e::es) X.env).map (·.2)=lx e X.env::(eh es X.env).map (·.2):=by rfl):C2 X (e::es) (Hj t u):=by
 intro pins s σ H vs us Q I r h
 obtain⟨v,vr,e1,h⟩:=h
 subst e1
 cases r with
 |cons r rr =>
 rw[hs]
 refine assignInOrder_cons (bB (h1 pins s σ H _ _ _ I r h) fun _ s1 ⟨σ1,H1,I1,q1⟩=>?_)
 exact h2 pins s1 σ1 H1 _ _ Q I1 rr q1
noncomputable def Ew (K:aa)(n:Nat)(t:EX):TG:=fun v σ H Q=>∃ a xs,v=.ref a/\eI K H a xs/\xs.length=n/\t xs σ H Q
theorem PH {es:List Expr}{k:Nat}{t:EX}{n:Nat}(hc:X.calm=true)(h:C2 X es t)
 (hn:(eh es X.env).length=n:=by rfl)(dN:(eh es X.env).findIdx? (·.1)=none:=by rfl):PG X (.Tuple es k pos) (Ew X.K n t):=by
 intro pins s σ H v u Q I r hw
 obtain⟨a,xs,e1,hq,hl,hw⟩:=hw
 subst e1
 cases r
 obtain⟨aD,rv,ht,hz⟩:=I.tuple hq
 refine assign_Tuple_tuple (I.ok.hd hc) ht (by simp [hn,<-hl,rv.length]) dN fun h' hx=>?_
 have I1:Inv X pins σ H { s with heap:=h' }:=I.kept (t':=s.toks) fun b o e=>hx b o (b9 (bg e)) e
 exact h pins _ σ H xs _ Q I1 (by simpa using rv) hw
noncomputable def Mf (to ti:TE)(t:SA):TG:=fun v σ H Q=>to σ H fun o H1=>ti σ H1 fun i H2=>t o i v H2 fun H3=>Q σ H3
theorem Bg {o i:Expr}{to ti:TE}{t:SA}(ho:PE X o to)(hi:PE X i ti)(hs:Bw X t)
 (ha:∀ v,lx (.Subscript o i pos) X.env v=(do
  let ov <-j4 [v] (eval o X.env)
  let iv <-j4 [v,ov] (eval i X.env)
  p9 pos
  j4 [v,ov,iv] (Qs ov iv v)
  Rw [v,ov,iv] []):=by intro _;rfl):PG X (.Subscript o i pos) (Mf to ti t):=by
 intro pins s σ H v u Q I r h
 rw[ha]
 refine ae (jf (bB (ho pins s σ H _ I h) fun ov s1 ⟨x,H1,I1,r1,q1⟩=>?_))
 refine ae (jf (bB (hi pins s1 σ H1 _ I1 q1) fun iv s2 ⟨y,H2,I2,r2,q2⟩=>?_))
 refine ae (wt (ae (jf (bB (hs pins s2 σ H2 x y v ov iv u _ I2 r1 r2 r q2) fun _ s3 ⟨H3,I3,q3⟩=>?_))))
 exact wpAny_release ⟨σ,H3,I3,q3⟩
noncomputable def Lv (te:TE)(g:TG):TS:=fun D σ H=>te σ H fun x H1=>g x σ H1 D.nx
theorem Bz {tg e:Expr}{te:TE}{g:TG}(he:PE X e te)(hg:PG X tg g)(hs:oi [tg] e pos.line X.env=pure false:=by rfl)(hw:oj [tg] e X.env=pure none:=by rfl)
 (h1:(eh [tg] X.env).map (·.2)=[lx tg X.env]:=by rfl):PS X (.Assign [tg] e pos) (Lv te g):=by
 intro pins s σ H D I h
 refine wpAny_Assign_stores (bB (he pins s σ H _ I h) fun v s1 ⟨x,H1,I1,r1,q1⟩=>?_) hs hw
 rw[h1]
 exact bB (hg pins s1 σ H1 x v _ I1 r1 q1) fun _ s2 q=>q
end
section
variable {X:Cx}{pos:Pos}
noncomputable def Bm (c:TT)(tb:TS):TS:=fun D σ H=>∃ W:Nat->St->Hp->Prop,(∃ m,W m σ H)/\∀ m σ H,W m σ H ->
 c σ H fun b H1=>if b=true then ∃ N:St->Hp->Prop,(∀ σ' H',N σ' H'->∃ m',m'<m/\W m' σ' H')/\tb { D with nx:=N,ct:=N,bk:=D.nx } σ H1 else D.nx σ H1
theorem UE {c:Expr}{body:List Stmt}{tc:TT}{tb:TS}(hp:n4 (model X.prog X.w) X.A X.env X.xe)(hc:PT X c tc)(hb:kL X body tb):PS X (.While c body [] pos) (Bm tc tb):=by
 intro pins s σ H D I h
 obtain⟨W,⟨m0,w0⟩,turn⟩:=h
 refine wpAny_While (codeAny_whileLoop (fun n s'=>∃ σ' H',Inv X pins σ' H' s'/\W n σ' H') ?_ m0 ⟨σ,H,I,w0⟩)
 rintro n s1 ⟨σ1,H1,I1,w1⟩
 refine jw hp (bB (hc pins s1 σ1 H1 _ I1 (turn n σ1 H1 w1)) fun b s2 ⟨H2,I2,q2⟩=>?_)
 cases b with
 |true =>
  obtain⟨N,hN,q2⟩:=q2
  rw[if_pos rfl]
  refine jw hp (bB (hb pins s2 σ1 H2 _ I2 q2) fun f s3 q3=>?_)
  cases f with
  |next =>
   obtain⟨σ3,H3,I3,n3⟩:=q3
   obtain⟨m',hm,w3⟩:=hN σ3 H3 n3
   exact⟨m',hm,σ3,H3,I3,w3⟩
  |cont =>
   obtain⟨σ3,H3,I3,n3⟩:=q3
   obtain⟨m',hm,w3⟩:=hN σ3 H3 n3
   exact⟨m',hm,σ3,H3,I3,w3⟩
  |brk=>exact q3
  |ret v=>exact q3
 |false =>
  rw[if_neg ei]
  exact uq ⟨σ1,H2,I2,q2⟩
end
structure It where
 go:Nat->Hp->Prop
 yld:Nat->Hp->V->Hp->Prop
 stop:Nat->Hp->Prop
noncomputable def mQ (X:Cx)(pins:List (Addr×Obj))(H:Hp)(b:Addr):Prop :=
 H b=none/\b≠X.env.locals/\b∉X.fs/\(b∈X.ex∨X.s₀.heap.objs.size<=b)/\(∀ x c,X.env.cells.lookup x=some c->c≠b)/\∀ p∈X.pn++pins,p.1≠b
theorem Inv.ED {X:Cx}{pins:List (Addr×Obj)}{σ:St}{H H':Hp}{s:af}{b:Addr}(I:Inv X pins σ H s)(hb:s.heap.objs.size<=b)(hn:H' b=none):mQ X pins H' b:=by
 refine⟨hn,qa (bp I.lt hb),I.Dv hb,.inr (c7 I.sz hb),fun x c e z=>?_,fun p hp z=>?_⟩
 ·obtain⟨v,q⟩:=I.cell x c e
  exact absurd (bp q.lt (by rw[z];exact hb)) (ey _)
 ·exact absurd (bp (bg (I.pin p hp).1) (by rw[z];exact hb)) (ey _)
structure Turn (P:br)(w:World)(K:aa)(tg:Expr)(J:It)(fp:List Addr)(it:Addr)(tn:Nat->Heap->Prop):Prop where
 mem:it∈fp
 obj:∀ i h,tn i h->∀ b∈fp,∃ o,h.get? b=some o/\∀ v,o.data≠.cell v
 keep:∀ i h h',tn i h->(∀ b∈fp,∀ o,h.get? b=some o->h'.get? b=some o)->tn i h'
 item:∀(X:Cx),X.prog=P->X.w=w->X.K=K->X.calm=true->∀(i:Nat)(pins:List (Addr×Obj))(s:af)(σ:St)(H:Hp)(E:Value->af->Prop),Inv X pins σ H s->(∀ b∈fp,mQ X pins H b)->tn i s.heap->J.go i H ->
 wpAny (model P w) X.A (tm (.ref it)) (fun r s1=>∃ u,r=some u /\
  wpAny (model P w) X.A (pe tg (.ref it) u) (fun _ s2=>∃ x H',Inv X pins σ H' s2/\RelV x u/\J.yld i H x H'/\tn (i+1) s2.heap/\∀ b∈fp,H' b=none) E s1) E s
 done:∀(X:Cx),X.prog=P->X.w=w->X.K=K->X.calm=true->∀(i:Nat)(pins:List (Addr×Obj))(s:af)(σ:St)(H:Hp)(E:Value->af->Prop),Inv X pins σ H s->(∀ b∈fp,mQ X pins H b)->tn i s.heap->J.stop i H ->
 wpAny (model P w) X.A (tm (.ref it)) (fun r s1=>r=none/\Inv X pins σ H s1) E s
 self:∀(A:b7)(i:Nat)(s:af)(Q:Value->af->Prop)(E:Value->af->Prop),tn i s.heap->Q (.ref it) s->wpAny (model P w) A (tq (.ref it)) Q E s
noncomputable abbrev TI:=St->Hp->(It->Hp->Prop)->Prop
noncomputable def RF (X:Cx)(pins:List (Addr×Obj))(σ:St)(tg:Expr)(R:It->Hp->Prop)(itv:Value)(s2:af):Prop :=
 ∃(it:Addr)(fp:List Addr)(tn:Nat->Heap->Prop)(J:It)(H':Hp),itv=.ref it/\Inv X pins σ H' s2/\Turn X.prog X.w X.K tg J fp it tn/\tn 0 s2.heap/\(∀ b∈fp,mQ X pins H' b)/\R J H'
noncomputable def PI (X:Cx)(tg iter:Expr)(wi:TI):Prop :=
 ∀(pins:List (Addr×Obj))(s:af)(σ:St)(H:Hp)(R:It->Hp->Prop),Inv X pins σ H s->wi σ H R ->
 wpAny (model X.prog X.w) X.A (eval iter X.env) (fun v s1=>wpAny (model X.prog X.w) X.A (tq v) (RF X pins σ tg R) X.xe s1) X.xe s
theorem B1 {M:Model}{A:b7}{E:Value->af->Prop}{s:af}{tg:Expr}{it:Addr}{u:Value}{o:Obj}{n:String}{vs:Array Value}{Q:Unit->af->Prop}(ho:s.heap.get? it=some o)(hc:o.cls=.type n)(hd:o.data=.fields vs)
    (hn:["enumerate","zip","dict_itemiterator","dict_reverseitemiterator","odict_iterator","itertools.zip_longest","itertools.pairwise"].contains n=false)(hQ:Q () s):wpAny M A (pe tg (.ref it) u) Q E s:=by
  unfold pe
  cases tg<;>first
    |exact ao hQ
    |(cases u<;>first
        |exact ao hQ
        | (refine ae (wpAny_load ho ?_)
           rw[hc,hd]
           show wpAny M A (if(["enumerate","zip","dict_itemiterator","dict_reverseitemiterator","odict_iterator","itertools.zip_longest","itertools.pairwise"].contains n&&vs[0]? == some (gf _))=true then _ else _) Q E s
           rw[if_neg (by intro h;rw[hn,gg]at h;cases h)]
           exact ao hQ))
noncomputable def VG (K:aa)(a:Addr):It :=
 ⟨fun i H=>∃ xs x,eH K H a xs/\xs[i]? = some x,fun i H x H'=>H'=H/\∀ xs,eH K H a xs->xs[i]? = some x,fun i H=>∃ xs,eH K H a xs/\xs.length<=i⟩
noncomputable def Dx (K:aa)(a:Addr):It :=
 ⟨fun i H=>∃ xs x,eI K H a xs/\xs[i]? = some x,fun i H x H'=>H'=H/\∀ xs,eI K H a xs->xs[i]? = some x,fun i H=>∃ xs,eI K H a xs/\xs.length<=i⟩
noncomputable def VI (lo:Int)(n:Nat):It:=⟨fun i _=>i<n,fun i H x H'=>H'=H/\x=.int (lo+i),fun i _=>n<=i⟩
theorem QA {P:br}{w:World}{K:aa}{tg:Expr}(a it:Addr):Turn P w K tg (VG K a) [it] it (fun i h=>h.IsListIter it a i) where
 mem:=by simp
 obj:=fun i h st b hb=>by
  have e:b=it:=by simpa using hb
  subst e
  obtain⟨o,e,c,d⟩:=st
  exact⟨o,e,fun v z=>by rw[d]at z;cases z⟩
 keep:=fun i h h' st k=>st.at fun o e=>k it (by simp) o e
 item:=by
  intro X hP hw hK hc i pins s σ H E I hf st hg
  subst hP hw hK
  obtain⟨xs,x,hq,hx⟩:=hg
  obtain⟨aD,rv,p,hz⟩:=I.list hq
  obtain⟨u,hu,ru⟩:=rv.get hx
  obtain⟨f0,f1,f2,f3,f4,f5⟩:=hf it (by simp)
  refine wpAny_pyNext_list_item st p.isList (x:=u) (by simpa using hu) fun h' aA sb=>?_
  have I1:Inv X pins σ H { s with heap:=h' }:=I.turned (t':=s.toks) (fun b o hb e=>(sb.2 b hb).trans e) f0 f1 f3 f4 f5
  obtain⟨o,e,c,d⟩:=id aA
  exact⟨u,rfl,B1 (s:={ s with heap:=h' }) e c d (by decide) ⟨x,H,I1,ru,⟨rfl,fun ys hy=>by rw[I.rC hy hq];exact hx⟩,aA,fun b hb=>(hf b hb).1⟩⟩
 done:=by
  intro X hP hw hK hc i pins s σ H E I hf st hg
  subst hP hw hK
  obtain⟨xs,hq,hx⟩:=hg
  obtain⟨aD,rv,p,hz⟩:=I.list hq
  obtain⟨f0,f1,f2,f3,f4,f5⟩:=hf it (by simp)
  have hl:=rv.length
  exact wpAny_pyNext_list_end (I.ok.hd hc) st p.isList (by simp;omega) fun h' eb=>⟨rfl,I.turned (t':=s.toks) (fun b o hb e=>eb b o hb e) f0 f1 f3 f4 f5⟩
 self:=fun _ _ _ _ _ st h=>wpAny_pyIter_listiter st h
theorem NL {P:br}{w:World}{K:aa}{tg:Expr}(a it:Addr):Turn P w K tg (Dx K a) [it] it (fun i h=>h.IsTupleIter it a i) where
 mem:=by simp
 obj:=fun i h st b hb=>by
  have e:b=it:=by simpa using hb
  subst e
  obtain⟨o,e,c,d⟩:=st
  exact⟨o,e,fun v z=>by rw[d]at z;cases z⟩
 keep:=fun i h h' st k=>st.at fun o e=>k it (by simp) o e
 item:=by
  intro X hP hw hK hc i pins s σ H E I hf st hg
  subst hP hw hK
  obtain⟨xs,x,hq,hx⟩:=hg
  obtain⟨aD,rv,p,hz⟩:=I.tuple hq
  obtain⟨u,hu,ru⟩:=rv.get hx
  obtain⟨f0,f1,f2,f3,f4,f5⟩:=hf it (by simp)
  refine wpAny_pyNext_tuple_item st (show s.heap.IsTuple a aD.toArray from p) (x:=u) (by simpa using hu) fun h' aA sb=>?_
  have I1:Inv X pins σ H { s with heap:=h' }:=I.turned (t':=s.toks) (fun b o hb e=>(sb.2 b hb).trans e) f0 f1 f3 f4 f5
  obtain⟨o,e,c,d⟩:=id aA
  exact⟨u,rfl,B1 (s:={ s with heap:=h' }) e c d (by decide) ⟨x,H,I1,ru,⟨rfl,fun ys hy=>by rw[I.sE hy hq];exact hx⟩,aA,fun b hb=>(hf b hb).1⟩⟩
 done:=by
  intro X hP hw hK hc i pins s σ H E I hf st hg
  subst hP hw hK
  obtain⟨xs,hq,hx⟩:=hg
  obtain⟨aD,rv,p,hz⟩:=I.tuple hq
  obtain⟨f0,f1,f2,f3,f4,f5⟩:=hf it (by simp)
  have hl:=rv.length
  exact wpAny_pyNext_tuple_end (I.ok.hd hc) st (show s.heap.IsTuple a aD.toArray from p) (by simp;omega) fun h' eb=>⟨rfl,I.turned (t':=s.toks) (fun b o hb e=>eb b o hb e) f0 f1 f3 f4 f5⟩
 self:=fun _ _ _ _ _ st h=>wpAny_pyIter_tupleiter st h
theorem OE {P:br}{w:World}{K:aa}{tg:Expr}(it:Addr)(lo:Int)(n:Nat):Turn P w K tg (VI lo n) [it] it (fun i h=>vh h it (lo+(i:Nat)*1) ((n:Int)-(i:Nat)) 1) where
 mem:=by simp
 obj:=fun i h st b hb=>by
  have e:b=it:=by simpa using hb
  subst e
  exact⟨_,st,fun v z=>by
   have z':Rf _=Data.cell v:=z
   cases z'⟩
 keep:=fun i h h' st k=>k it (by simp) _ st
 item:=by
  intro X hP hw hK hc i pins s σ H E I hf st hg
  subst hP hw hK
  obtain⟨f0,f1,f2,f3,f4,f5⟩:=hf it (by simp)
  have W:=Rg (prog:=X.prog) (w:=X.w) (I.ok.hd hc) it lo 1 n
  refine W.item i s _ _ hg st fun v h' tk hv aA kk=>?_
  obtain⟨t,rfl⟩:=hv
  have I1:Inv X pins σ H { s with heap:=h',toks:=tk }:=I.turned (fun b o hb e=>kk b o (by simpa using hb) e) f0 f1 f3 f4 f5
  refine⟨_,rfl,B1 (s:={ s with heap:=h',toks:=tk }) (n :="range_iterator") aA rfl rfl (by decide) ⟨.int (lo+i),H,I1,⟨t,?_⟩,⟨rfl,rfl⟩,aA,fun b hb=>(hf b hb).1⟩⟩
  rw[Int.mul_one]
 done:=by
  intro X hP hw hK hc i pins s σ H E I hf st hg
  subst hP hw hK
  obtain⟨f0,f1,f2,f3,f4,f5⟩:=hf it (by simp)
  exact tu (I.ok.hd hc) st (by have:n<=i:=hg;omega) fun h' eb=>⟨rfl,I.turned (t':=s.toks) (fun b o hb e=>eb b o hb e) f0 f1 f3 f4 f5⟩
 self:=fun _ _ _ _ _ st h=>tw st h
end L2
namespace L2
open PySem PySem.Spec PyProof.Rows
section
variable {X:Cx}{tg:Expr}
theorem UR {pins:List (Addr×Obj)}{σ:St}{H:Hp}{s:af}{R:It->Hp->Prop}{E:Value->af->Prop}{lo hi:Int}{t u v:Tok}{tk:Nat}(I:Inv X pins σ H s) (h1 : -(2 ^ 62)<=lo)(h2:lo<2 ^ 62) (h3 : -(2 ^ 62)<=hi)(h4:hi<2 ^ 62)
  (q:R (VI lo (hi-lo).toNat) H):wpAny (model X.prog X.w) X.A (tq (.ref s.heap.objs.size)) (RF X pins σ tg R) E { s with heap:=s.heap.push { cls:=.type "range", data:=.fields #[.int lo t,.int hi u,.int 1 v] },toks:=tk }:=by
 refine xg (zg ..) (small_one h1 h2 h3 h4) ?_
 have I1:Inv X pins σ H { s with heap:=s.heap.push { cls:=.type "range", data:=.fields #[.int lo t,.int hi u,.int 1 v] },toks:=tk }:=I.kept fun b o e=>ag _ e
 refine⟨(s.heap.push { cls:=.type "range", data:=.fields #[.int lo t,.int hi u,.int 1 v] }).objs.size,[(s.heap.push { cls:=.type "range", data:=.fields #[.int lo t,.int hi u,.int 1 v] }).objs.size],_,_,H,rfl,
  I1.kept (t':=tk) fun b o e=>ag _ e,OE _ lo (hi-lo).toNat,?_,fun b hb=>?_,q⟩
 ·have e1:lo+((0:Nat):Int)*1=lo:=by simp
  have e2:(((hi-lo).toNat:Nat):Int)-((0:Nat):Int)=r8 lo hi 1:=by rw[Qc];split<;>omega
  show vh _ _ (lo+((0:Nat):Int)*1) ((((hi-lo).toNat:Nat):Int)-((0:Nat):Int)) 1
  rw[e1,e2]
  exact bh _ rfl
 ·have e:b=(s.heap.push { cls:=.type "range", data:=.fields #[.int lo t,.int hi u,.int 1 v] }).objs.size:=by simpa using hb
  subst e
  exact I1.ED (az _) (I1.bS.fresh (az _))
noncomputable def Ia (ta:TA):TI:=fun σ H R=>ta σ H fun vs H1=>∃ j:Int,vs=[.int j]/\-(2 ^ 62)<=j/\j<2 ^ 62/\R (VI 0 j.toNat) H1
theorem O1 {a:Expr}{ta:TA}{p pos:Pos}(hg:Gl X "range")(hm:X.mg "range" = none)(ha:PA X [a] ta)(hs:ah [a] X.env=[(false,eval a X.env)]:=by rfl):PI X tg (.Call (.Name "range" p) [a] [] pos) (Ia ta):=by
 intro pins s σ H R I h
 refine Call_ (kQ I hg hm boot_range (di (bB (ha pos pins s σ H _ I h) fun us s1 ⟨vs,H1,I1,r1,q1⟩=>?_) hs rfl))
 obtain⟨j,e,q1,q2,q⟩:=q1
 subst e
 cases r1 with
 |cons r rr =>
 cases rr
 obtain⟨t,rfl⟩:=r
 exact call_range_1 (UR I1 (by omega) (by omega) q1 q2 (by simpa using q))
noncomputable def Od (wi:TI)(g:TG)(tb:TS):TS:=fun D σ H=>wi σ H fun J H1=>∃ W:Nat->Nat->St->Hp->Prop,(∃ m,W 0 m σ H1)/\∀ i m σ H,W i m σ H ->
 (J.stop i H/\D.nx σ H)∨(J.go i H/\∃ N:St->Hp->Prop,(∀ σ' H',N σ' H'->∃ m',m'<m/\W (i+1) m' σ' H')/\∀ x H',J.yld i H x H'->g x σ H' fun σ2 H2=>tb { D with nx:=N,ct:=N,bk:=D.nx } σ2 H2)
noncomputable def yE (fp:List Addr)(h:Heap):List (Addr×Obj):=fp.filterMap fun b=>(h.get? b).map fun o=>(b,o)
theorem vT {fp:List Addr}{h:Heap}{b:Addr}{o:Obj}(hb:b∈fp)(e:h.get? b=some o):(b,o)∈yE fp h:=List.mem_filterMap.mpr ⟨b,hb,by rw[e];rfl⟩
theorem RN {fp:List Addr}{h:Heap}{p:Addr×Obj}(hp:p∈yE fp h):p.1∈fp/\h.get? p.1=some p.2:=by
 obtain⟨b,hb,e⟩:=List.mem_filterMap.mp hp
 cases q:h.get? b with
 |none=>rw[q]at e;cases e
 |some o =>
 rw[q]at e
 have e':(b,o)=p:=cz e
 subst e'
 exact⟨hb,q⟩
theorem Inv.pinned {pins:List (Addr×Obj)}{σ:St}{H:Hp}{s:af}{fp:List Addr}(I:Inv X pins σ H s)(hf:∀ b∈fp,mQ X pins H b)(ho:∀ b∈fp,∃ o,s.heap.get? b=some o/\∀ v,o.data≠.cell v):Inv X (pins++yE fp s.heap) σ H s :=
 I.LJ fun p hp=>(List.mem_append.mp hp).elim (fun z=>I.pin p (e9 _ z)) fun z=>by
 obtain⟨hb,e⟩:=RN z
 obtain⟨f0,f1,f2,_⟩:=hf p.1 hb
 obtain⟨o,e',d⟩:=ho p.1 hb
 rw[e]at e';cases e'
 exact⟨e,f0,f1,f2,d⟩
theorem Inv.vW {pins pl:List (Addr×Obj)}{σ:St}{H:Hp}{s:af}(I:Inv X (pins++pl) σ H s):Inv X pins σ H s:=I.LJ fun p hp=>I.pin p (e9 _ (oq _ hp))
theorem Fk {iter:Expr}{body:List Stmt}{wi:TI}{g:TG}{tb:TS}{pos:Pos}(hp:n4 (model X.prog X.w) X.A X.env X.xe)(hc:X.calm=true)(hi:PI X tg iter wi)(hg:PG X tg g)(hb:kL X body tb)
  (hs:∀ x,fv iter X.env x=pure x:=by intro _;rfl):PS X (.For tg iter body [] pos) (Od wi g tb):=by
 intro pins s σ H D I h
 refine wpAny_For (bB (hi pins s σ H _ I h) fun v s1 h1=>bB h1 fun itv s2 h2=>?_) hs
 obtain⟨it,fp,tn,J,H2,e,I2,T,aF,f2,W,⟨m0,w0⟩,turn⟩:=h2
 subst e
 have stat:∀{H':Hp},(∀ b∈fp,H' b=none)->∀ b∈fp,mQ X pins H' b:=fun hn b hb=>⟨hn b hb,(f2 b hb).2⟩
 refine codeAny_forLoop_any (fun n s'=>∃ i σ' H',Inv X pins σ' H' s'/\tn i s'.heap/\(∀ b∈fp,H' b=none)/\W i n σ' H') ?_ m0 ⟨0,σ,H2,I2,aF,fun b hb=>(f2 b hb).1,w0⟩
 rintro n s3 ⟨i,σ3,H3,I3,aU,fr3,w3⟩
 rcases turn i n σ3 H3 w3 with⟨stop,qn⟩|⟨go,N,hN,step⟩
 ·refine jw hp (bB (T.done X rfl rfl rfl hc i pins s3 σ3 H3 X.xe I3 (stat fr3) aU stop) fun r s4 ⟨hr,I4⟩=>?_)
  subst hr
  exact uq ⟨σ3,H3,I4,qn⟩
 ·refine jw hp (bB (T.item X rfl rfl rfl hc i pins s3 σ3 H3 X.xe I3 (stat fr3) aU go) fun r s4 ⟨u,hr,h4⟩=>?_)
  subst hr
  refine jw hp (bB h4 fun _ s5 ⟨x,H5,I5,r5,y5,eJ,fr5⟩=>?_)
  have I5':=I5.pinned (stat fr5) (T.obj _ _ eJ)
  refine jw hp (bB (hg _ s5 σ3 H5 x u _ I5' r5 (step x H5 y5)) fun _ s6 ⟨σ6,H6,I6,q6⟩=>?_)
  refine jw hp (bB (hb _ s6 σ6 H6 _ I6 q6) fun f s7 q7=>?_)
  have again:∀{σ7:St}{H7:Hp},Inv X (pins++yE fp s5.heap) σ7 H7 s7->N σ7 H7->∃ m,m<n/\∃ i σ' H',Inv X pins σ' H' s7/\tn i s7.heap/\(∀ b∈fp,H' b=none)/\W i m σ' H':=fun{σ7 H7} I7 n7=>by
   obtain⟨m',hm,w7⟩:=hN σ7 H7 n7
   refine⟨m',hm,i+1,σ7,H7,I7.vW,T.keep _ _ _ eJ fun b hb o e=>(I7.pin (b,o) (e9 _ (e9 _ (vT hb e)))).1,fun b hb=>?_,w7⟩
   obtain⟨o,e,d⟩:=T.obj _ _ eJ b hb
   exact(I7.pin (b,o) (e9 _ (e9 _ (vT hb e)))).2.1
  cases f with
  |next=>obtain⟨σ7,H7,I7,n7⟩:=q7;exact again I7 n7
  |cont=>obtain⟨σ7,H7,I7,n7⟩:=q7;exact again I7 n7
  |brk=>obtain⟨σ7,H7,I7,q7⟩:=q7;exact⟨σ7,H7,I7.vW,q7⟩
  |ret v=>obtain⟨x7,σ7,H7,I7,r7,q7⟩:=q7;exact⟨x7,σ7,H7,I7.vW,r7,q7⟩
end
end L2
namespace L2
open PySem PySem.Spec PyProof.Rows
noncomputable abbrev R2:=V->V->Hp->VK->Prop
noncomputable def iA (X:Cx)(f:Value->Value->Sem Value)(r:R2):Prop :=
 ∀(pins:List (Addr×Obj))(s:af)(σ:St)(H:Hp)(x y:V)(v u:Value)(Q:VK),Inv X pins σ H s->RelV x v->RelV y u->r x y H Q ->
 wpAny (model X.prog X.w) X.A (f v u) (EP X pins σ Q) X.xe s
noncomputable def Fd (X:Cx)(f:Value->Sem Value)(r:V->Hp->VK->Prop):Prop :=
 ∀(pins:List (Addr×Obj))(s:af)(σ:St)(H:Hp)(x:V)(v:Value)(Q:VK),Inv X pins σ H s->RelV x v->r x H Q ->
 wpAny (model X.prog X.w) X.A (f v) (EP X pins σ Q) X.xe s
noncomputable def vQ (X:Cx)(f:Value)(r:List V->Hp->VK->Prop):Prop :=
 ∀(pins:List (Addr×Obj))(s:af)(σ:St)(H:Hp)(xs:List V)(us:List Value)(Q:VK),Inv X pins σ H s->aQ xs us->r xs H Q ->
 wpAny (model X.prog X.w) X.A (call f us) (EP X pins σ Q) X.xe s
noncomputable def Ng (X:Cx)(r:V->Hp->(Bool->Hp->Prop)->Prop):Prop :=
 ∀(pins:List (Addr×Obj))(s:af)(σ:St)(H:Hp)(x:V)(v:Value)(Q:Bool->Hp->Prop),Inv X pins σ H s->RelV x v->r x H Q ->
 wpAny (model X.prog X.w) X.A (Rr v) (TP X pins σ Q) X.xe s
noncomputable def ZV (r:R2)(ta tb:TE):TE:=fun σ H Q=>ta σ H fun x H1=>tb σ H1 fun y H2=>r x y H2 Q
noncomputable def Oo (r:V->Hp->VK->Prop)(ta:TE):TE:=fun σ H Q=>ta σ H fun x H1=>r x H1 Q
noncomputable def rI (C:Int->Int->Prop)(g:Int->Int->V):R2:=fun x y H Q=>∃ i j,x=.int i/\y=.int j/\C i j/\Q (g i j) H
noncomputable def HC (g:Int->Int->V):R2:=fun x y H Q=>∃ i j,x=.int i/\y=.int j/\Q (g i j) H
noncomputable def rU (g:Int->V):V->Hp->VK->Prop:=fun x H Q=>∃ i,x=.int i/\Q (g i) H
section
variable {X:Cx}{a b c:Expr}{ta tb tc:TE}{pos:Pos}
theorem Ag (ha:PE X a ta)(hb:PE X b tb){pins:List (Addr×Obj)}{s:af}{σ:St}{H:Hp}{R:V->V->Hp->Prop}(I:Inv X pins σ H s)
 (h:ta σ H fun x H1=>tb σ H1 fun y H2=>R x y H2){Q:Value->af->Prop}{f:Value->Value->Sem Value}
 (hf:∀ v u s2 x y H2,Inv X pins σ H2 s2->RelV x v->RelV y u->R x y H2->wpAny (model X.prog X.w) X.A (f v u) Q X.xe s2):
 wpAny (model X.prog X.w) X.A (eval a X.env) (fun v s₁=>wpAny (model X.prog X.w) X.A (eval b X.env) (fun u s₂=>wpAny (model X.prog X.w) X.A (f v u) Q X.xe s₂) X.xe s₁) X.xe s:=by
 refine bB (ha pins s σ H _ I h) fun v s1 ⟨x,H1,I1,r1,q1⟩=>?_
 refine bB (hb pins s1 σ H1 _ I1 q1) fun u s2 ⟨y,H2,I2,r2,q2⟩=>?_
 exact hf v u s2 x y H2 I2 r1 r2 q2
theorem Hk {op:Operator}{r:R2}(ho:iA X (g6 op) r)(ha:PE X a ta)(hb:PE X b tb):PE X (.BinOp a op b pos) (ZV r ta tb):=by
 intro pins s σ H Q I h
 exact wpAny_BinOp (Ag ha hb I h fun v u s2 x y H2 I2 rx ry q=>ho pins s2 σ H2 x y v u Q I2 rx ry q)
theorem Ju {op:UnaryOp}{r:V->Hp->VK->Prop}(ho:Fd X (unaryOp op) r)(ha:PE X a ta):PE X (.UnaryOp op a pos) (Oo r ta):=by
 intro pins s σ H Q I h
 exact UnaryOp_ (bB (ha pins s σ H _ I h) fun v s1 ⟨x,H1,I1,r1,q1⟩=>ho pins s1 σ H1 x v Q I1 r1 q1)
theorem V9 {f:Value->Value->Sem Value}{C:Int->Int->Prop}{g:Int->Int->Int}
 (rule:∀(i j:Int)(t u:Tok)(s:af)(Q:Value->af->Prop)(E:Value->af->Prop),C i j->Q (.int (g i j) s.toks) { s with toks:=s.toks+1 }->wpAny (model X.prog X.w) X.A (f (.int i t) (.int j u)) Q E s):
 iA X f (rI C fun i j=>.int (g i j)):=by
 intro pins s σ H x y v u Q I rx ry h
 obtain⟨i,j,rfl,rfl,hc,q⟩:=h
 obtain⟨t,rfl⟩:=rx
 obtain⟨t',rfl⟩:=ry
 exact rule i j t t' s _ _ hc ⟨.int (g i j),H,I.tok _,⟨_,rfl⟩,q⟩
theorem Ad {f:Value->Value->Sem Value}{g:Int->Int->Int}
 (rule:∀(i j:Int)(t u:Tok)(s:af)(Q:Value->af->Prop)(E:Value->af->Prop),Q (.int (g i j) s.toks) { s with toks:=s.toks+1 }->wpAny (model X.prog X.w) X.A (f (.int i t) (.int j u)) Q E s):
 iA X f (HC fun i j=>.int (g i j)):=by
 intro pins s σ H x y v u Q I rx ry h
 obtain⟨i,j,rfl,rfl,q⟩:=h
 obtain⟨t,rfl⟩:=rx
 obtain⟨t',rfl⟩:=ry
 exact rule i j t t' s _ _ ⟨.int (g i j),H,I.tok _,⟨_,rfl⟩,q⟩
noncomputable def Z0 (i j:Int):Prop:=0<j/\j<1073741824
noncomputable def ZX (i j:Int):Prop:=0<=j/\j<=1000000/\i.natAbs<2 ^ 64
noncomputable def MW (i j:Int):Prop:=(-(2 ^ 64)<i/\i<2 ^ 64)∨(-(2 ^ 64)<j/\j<2 ^ 64)
theorem MW.ok {i j:Int}(h:MW i j):IntMulOk i j:=by
 rcases h with⟨h1,h2⟩|⟨h1,h2⟩
 ·exact .of_left (Qd h1 h2)
 ·exact .of_right (Qd h1 h2)
theorem Ff:iA X (g6 .Add) (HC fun i j=>.int (i+j)):=Ad fun _ _ _ _ _ _ _ q=>add_int q
theorem ZL:iA X (g6 .Sub) (HC fun i j=>.int (i-j)):=Ad fun _ _ _ _ _ _ _ q=>sub_int q
theorem Bl:iA X (g6 .Mult) (rI MW fun i j=>.int (i*j)):=V9 fun _ _ _ _ _ _ _ hc q=>mul_int q hc.ok
theorem WM:iA X (g6 .FloorDiv) (rI Z0 fun i j=>.int (i / j)):=V9 fun i j _ _ _ _ _ hc q=>by
 have h1:(0:Int)<j:=hc.1
 have h2:j<1073741824:=hc.2
 exact floordiv_int (by omega) (by rw[Int.fdiv_eq_ediv_of_nonneg i (by omega)];exact q) (.inl (PyProof.noPylong_small (by omega)))
theorem Dz:iA X (g6 .Mod) (rI (fun _ j=>0<j) fun i j=>.int (i % j)):=V9 fun i j _ _ _ _ _ hc q=>by
 have h1:(0:Int)<j:=hc
 exact mod_int' (by omega) (by rw[Int.fmod_eq_emod_of_nonneg i (by omega)];exact q)
theorem Fb:iA X (g6 .Pow) (rI ZX fun i j=>.int (i ^ j.toNat)):=V9 fun _ _ _ _ _ _ _ hc q=>pow_int_small hc.1 hc.2.1 hc.2.2 q
theorem Om {f:Value->Sem Value}{g:Int->Int}
 (rule:∀(i:Int)(t:Tok)(s:af)(Q:Value->af->Prop)(E:Value->af->Prop),Q (.int (g i) s.toks) { s with toks:=s.toks+1 }->wpAny (model X.prog X.w) X.A (f (.int i t)) Q E s):
 Fd X f (rU fun i=>.int (g i)):=by
 intro pins s σ H x v Q I rx h
 obtain⟨i,rfl,q⟩:=h
 obtain⟨t,rfl⟩:=rx
 exact rule i t s _ _ ⟨.int (g i),H,I.tok _,⟨_,rfl⟩,q⟩
theorem Dq:Fd X (unaryOp .USub) (rU fun i=>.int (-i)):=Om fun _ _ _ _ _ q=>neg_int q
end
section
variable {X:Cx}{a b c:Expr}{ta tb tc:TE}{pos:Pos}
theorem Eu {pins:List (Addr×Obj)}{σ:St}{H:Hp}{s:af}{Q:VK}{k k':Bool}(I:Inv X pins σ H s)(q:Q (.bl k) H)(e:k=k'):EP X pins σ Q (.bool k') s:=by
 subst e
 exact⟨.bl k,H,I,rfl,q⟩
theorem RE:iA X (sd .In) (fun x y H Q=>∃ i j,x=.str i/\y=.str j/\Q (.bl (!(mq j i 0 j.length 1).isEmpty)) H):=by
 intro pins s σ H x y v u Q I rx ry h
 obtain⟨i,j,rfl,rfl,q⟩:=h
 obtain⟨t,rfl⟩:=rx
 obtain⟨t',rfl⟩:=ry
 exact in_str (Eu I q rfl)
theorem iA.or {f:Value->Value->Sem Value}{r r':R2}(h:iA X f r)(h':iA X f r'):iA X f (fun x y H Q=>r x y H Q∨r' x y H Q):=by
 intro pins s σ H x y v u Q I rx ry q
 rcases q with q|q
 ·exact h pins s σ H x y v u Q I rx ry q
 ·exact h' pins s σ H x y v u Q I rx ry q
noncomputable def TF (K:aa)(x:V)(H:Hp)(k:Bool):Prop :=
 match x with
 |.non=>k=false
 |.bl b=>k=b
 |.int i=>k=(i != 0)
 |.str y=>y.length<=sizeLine/\k=((y.length:Int) != 0)
 |.byt y=>y.size<=sizeLine/\k=((y.size:Int) != 0)
 |.ref p=>(∃ xs,eH K H p xs/\k = !xs.isEmpty)∨(∃ xs,eI K H p xs/\k = !xs.isEmpty)∨∃ iB,H p=some (.dK iB)/\k = !iB.isEmpty
 |_=>False
theorem M4 {κ:Type}{iB:List (κ×V)}{vs:List (κ×Value)}(r:KV iB vs):(!vs.isEmpty) = !iB.isEmpty:=by
 cases r<;>rfl
theorem BZ {xs:List V}{aD:List Value}(r:aQ xs aD):(!aD.toArray.isEmpty) = !xs.isEmpty:=by
 cases r<;>simp
theorem qN:(sizeLine:Nat)<2 ^ 63:=by rw[jh];decide
theorem BJ:Ng X (fun x H Q=>∃ k,TF X.K x H k/\Q k H):=by
 intro pins s σ H x v Q I rx h
 obtain⟨k,e,q⟩:=h
 have hl:=qN
 have hs:sizeLine=16777216:=jh
 cases x with
 |non =>
 cases rx
 have e':k=false:=e
 subst e'
 exact truthy_none ⟨H,I,q⟩
 |bl b =>
 cases rx
 have e':k=b:=e
 subst e'
 exact kr ⟨H,I,q⟩
 |int i =>
 obtain⟨t,rfl⟩:=rx
 have e':k=(i != 0):=e
 subst e'
 exact PySem.P.truthy_int ⟨H,I,q⟩
 |str y =>
 obtain⟨t,rfl⟩:=rx
 obtain⟨hy,e'⟩:y.length<=sizeLine/\k=((y.length:Int) != 0):=e
 subst e'
 exact PySem.P.truthy_str (by omega) ⟨H,I.tok _,q⟩
 |byt y =>
 obtain⟨t,rfl⟩:=rx
 obtain⟨hy,e'⟩:y.size<=sizeLine/\k=((y.size:Int) != 0):=e
 subst e'
 exact PySem.W.truthy_bytes (by omega) ⟨H,I.tok _,q⟩
 |ref p =>
 cases rx
 have e':(∃ xs,eH X.K H p xs/\k = !xs.isEmpty)∨(∃ xs,eI X.K H p xs/\k = !xs.isEmpty)∨∃ iB,H p=some (.dK iB)/\k = !iB.isEmpty:=e
 rcases e' with⟨xs,hx,e'⟩|⟨xs,hx,e'⟩|⟨iB,hx,e'⟩
 ·subst e'
  obtain⟨aD,r,pl,hz⟩:=I.list hx
  have hlen:=r.length
  exact wpAny_truthy_list pl.isList (by simp only[ar];omega) ⟨H,I.tok _,by rw[BZ r];exact q⟩
 ·subst e'
  obtain⟨aD,r,pl,hz⟩:=I.tuple hx
  have hlen:=r.length
  exact truthy_tuple pl (by simp only[ar];omega) ⟨H,I.tok _,by rw[BZ r];exact q⟩
 ·subst e'
  obtain⟨hz,hS,vs,r,m⟩:iB.length<=sizeLine/\(p==nz)=false/\∃ vs,KV iB vs/\s.heap.DictOf (DZ X.prog X.w) p vs:=I.bS p _ hx
  have hlen:iB.length=vs.length:=Qb r
  exact wpAny_truthy_dict hS m (by omega) ⟨H,I.tok _,by rw[M4 r];exact q⟩
 |_=>exact(show False from e).elim
theorem SK (ha:PE X a ta)(he:∀ whole,yo a X.env whole=(do let v <-whole;p9 a.pos;j4 [v] (Rr v))):
 PT X a (fun σ H Q=>ta σ H fun x H'=>∃ k,TF X.K x H' k/\Q k H'):=by
 intro pins s σ H Q I h
 exact isTrue_plain (bB (ha pins s σ H _ I h) fun v s1 ⟨x,H1,I1,r1,q1⟩=>BJ pins s1 σ H1 x v Q I1 r1 q1) (he _)
theorem OJ:iA X (g6 .Add) (fun x y H Q=>∃ i j,x=.str i/\y=.str j/\i.length+j.length<=sizeLine/\Q (.str (i++j)) H):=by
 intro pins s σ H x y v u Q I rx ry h
 obtain⟨i,j,rfl,rfl,hz,q⟩:=h
 obtain⟨t,rfl⟩:=rx
 obtain⟨t',rfl⟩:=ry
 exact add_str (fun t' tk=>⟨.str (i++j),H,I.tok _,⟨_,rfl⟩,q⟩) hz
theorem vals1 {x:V}{us:List Value}(r:aQ [x] us):∃ u,us=[u]/\RelV x u:=by
 cases r with
 |cons r1 r2=>cases r2;exact⟨_,rfl,r1⟩
noncomputable def Em (K:aa)(x:V)(H:Hp)(n:Nat):Prop :=
 match x with
 |.str y=>y.length<=sizeLine/\n=y.length
 |.byt y=>y.size<=sizeLine/\n=y.size
 |.ref p=>(∃ xs,eH K H p xs/\n=xs.length)∨∃ xs,eI K H p xs/\n=xs.length
 |_=>False
theorem S7:vQ X (.builtin "len") (fun xs H Q=>∃ x n,xs=[x]/\Em X.K x H n/\Q (.int n) H):=by
 intro pins s σ H xs us Q I r h
 obtain⟨x,n,rfl,e,q⟩:=h
 obtain⟨u,rfl,rx⟩:=vals1 r
 have hl:=qN
 have hs:sizeLine=16777216:=jh
 cases x with
 |str y =>
 obtain⟨t,rfl⟩:=rx
 obtain⟨hy,e'⟩:y.length<=sizeLine/\n=y.length:=e
 subst e'
 exact len_str (by omega) ⟨.int _,H,I.tok _,⟨_,rfl⟩,q⟩
 |byt y =>
 obtain⟨t,rfl⟩:=rx
 obtain⟨hy,e'⟩:y.size<=sizeLine/\n=y.size:=e
 subst e'
 exact PySem.W.len_bytes (by omega) ⟨.int _,H,I.tok _,⟨_,rfl⟩,q⟩
 |ref p =>
 cases rx
 have e':(∃ xs,eH X.K H p xs/\n=xs.length)∨∃ xs,eI X.K H p xs/\n=xs.length:=e
 rcases e' with⟨xs,hx,e'⟩|⟨xs,hx,e'⟩
 ·subst e'
  obtain⟨aD,r',pl,hz⟩:=I.list hx
  have hlen:=r'.length
  exact Calls.call_len_list pl.isList (by simp only[ar];omega) ⟨.int xs.length,H,I.tok _,⟨_,by simp only[ar];rw[hlen]⟩,q⟩
 ·subst e'
  obtain⟨aD,r',pl,hz⟩:=I.tuple hx
  have hlen:=r'.length
  exact Qn pl (by simp only[ar];omega) ⟨.int xs.length,H,I.tok _,⟨_,by simp only[ar];rw[hlen]⟩,q⟩
 |_=>exact(show False from e).elim
end
end L2
namespace L2
open PySem PySem.Spec PyProof.Rows
structure A8 (h:Heap)(x dx C:Addr)(mA:Str->Option Value):Prop where
 obj:h.get? x=some (iu C dx)
 ns:h.Ns1 dx mA
 ne:dx≠x
theorem RS {h:Heap}{dx:Addr}{mA:Str->Option Value}(n:h.Ns1 dx mA):∃ od,h.get? dx=some od/\∀ name,qi name od=some (mA name):=by
 obtain⟨o,es,ep,ho,hd,hk,_,hm⟩:=n
 refine⟨o,ho,fun name=>?_⟩
 have e:=hm name
 unfold nsFind findBy at e
 rw[<-Array.find?_toList]at e
 unfold qi
 rw[hd]
 dsimp only
 split
 ·rename_i y q
  rw[q]at e
  exact congrArg some e
 ·rename_i q
  rw[q]at e
  have a:es.toList.any (·.refKey)=false:=by
   rw[qz]
   intro y hy
   obtain⟨z,t,hkey⟩:=hk y (Array.mem_toList_iff.mp hy)
   simp [DictEntry.refKey,hkey]
  have a':¬es.toList.any (·.refKey)=true:=by rw[a];exact ei
  rw[if_neg a']
  exact congrArg some e
theorem A8.look {h:Heap}{x dx C:Addr}{mA:Str->Option Value}(I:A8 h x dx C mA):∃ od,PySem.W.InstAt h x (iu C dx) C (some od)/\∀ name,qi name od=some (mA name) :=
 let⟨od,ho,hl⟩:=RS I.ns
 ⟨od,⟨I.obj,rfl,rfl,ho⟩,hl⟩
section
variable {prog:br}{w:World}{A:b7}{E:Value->af->Prop}{s:af}{K:aa}{x dx C f:Addr}{mA:Str->Option Value}{name:Str}{v:Value}
theorem get_map {expr:Bool}{Q:Value->af->Prop}(X:K.In s.heap)(I:A8 s.heap x dx C mA)(hg:j5 K C name=true)(hh:ku K C=true)
 (ha:d7 K (.ref C) name=some none)(hv:mA name=some v)(hv':yp v=true)(h:Q v { s with toks:=s.toks+1 }):
 wpAny (model prog w) A (Rx (.ref x) name expr) Q E s:=by
 obtain⟨od,J,hl⟩:=I.look
 exact PySem.W.get_value X J (px hg).1 (PySem.W.findObj_own hh ha rfl (by rw[hl,hv])) hv' h
theorem S2 {pl:Sem Bool}{Q:Value×List Value->af->Prop}(X:K.In s.heap)(I:A8 s.heap x dx C mA)(hg:j5 K C name=true)
 (hf:d7 K (.ref C) name=some (some (.ref f)))(ht:qb K (.ref f)=true)(hv:mA name=none)(h:Q (.ref f,[.ref x]) s):
 wpAny (model prog w) A (se (.ref x) name pl) Q E s:=by
 obtain⟨od,J,hl⟩:=I.look
 exact PySem.W.method_fn X J (px hg).1 (px hg).2 hf (beq_iff_eq.mp ht) (by show(qi name od).map (·.isSome)=some false;rw[hl,hv];rfl) h
theorem W0 {ns:List Str}{Q:Unit->af->Prop}(X:K.In s.heap)(I:A8 s.heap x dx C mA)
 (hs:d7 K (.ref C) "__setattr__" = some (some (.builtin "object.__setattr__")))(hp:nh K C=true)(ht:ur K C name=some none)(hh:ku K C=true)
 (hw:xv mA ns)(mM:ns.length<=sizeLine)
 (h:∀ h',A8 h' x dx C (fun y=>if y=name then some v else mA y)->kc dx s.heap h'->Q () { s with heap:=h',toks:=s.toks+2 }):
 wpAny (model prog w) A (setAttr (.ref x) name v) Q E s:=by
 obtain⟨od,J,hl⟩:=I.look
 refine PySem.W.set_plain X J hs (PySem.W.osa_open (s:={ s with toks:=s.toks+1 }) (r:=none) X J hp ht fun b=>?_)
 obtain⟨cd,hc,hd'⟩:=PySem.W.any_some hh
 have hx:s.heap.get? x=some ⟨.ref C,some dx,.plain,#[]⟩:=I.obj
 refine ae (ao (ae (ae (wpAny_loadPart hx (ae (PySem.W.Looks.here (s:={ s with toks:=s.toks+1 }) (PySem.W.looks_clsIn X hc) ?_))))))
 rw[hd']
 refine ao (a:=some dx) (ae (ao (ae ?_)))
 refine wpAny_nsSet1 (s:={ s with toks:=s.toks+1 }) I.ns fun h' hn2 hs2=>?_
 obtain⟨oD,esD,epD,hoD,hdD,hcD⟩:=hn2.count (PySem.Within.cons name v hw)
 refine ae (wpAny_lookBehind hoD (by rw[hdD];exact pastItsLine_dict (c7 hcD (by rw[bj];omega))) ?_)
 exact ao (h _ ⟨(hs2.2 _ (jc I.ne)).trans I.obj,hn2,I.ne⟩ hs2)
theorem SG {R:Qt->af->Prop}{vs:List Value}{kw:List (Str×Value)}(X:K.In s.heap)(hm:uu K C=true)
 (hi:d7 K (.ref C) "__init__" = some (some (.ref f)))(hf:PySem.W.typeIn K (.ref f)=some (.type "function"))
 (h:kf (model prog w) (A.under (.builtin "type.__call__" ⟨.ref C::vs,kw⟩)) (.call (.ref f) ⟨.ref (s.heap.objs.size+1)::vs,kw⟩) (PySem.W.InitBack (s.heap.objs.size+1) R)
  { s with heap:=(s.heap.push gh).push (iu C s.heap.objs.size) }):
 kf (model prog w) A (.call (.ref C) ⟨vs,kw⟩) R s:=by
 obtain⟨hh,g,d,t,os⟩:=s
 exact PySem.W.make_core (PySem.W.makes_of X hm) (PySem.W.looks_findIn X hi) (fun self=>PySem.W.bind_fn X self hf) (.inl rfl) h
end
noncomputable def iT (f:Str)(v:V):List (Str×V)->List (Str×V)
 |[]=>[(f,v)]
 |(g,x)::r=>if g=f then(g,v)::r else(g,x)::iT f v r
theorem AR (f g:Str)(v:V):∀ fs:List (Str×V),(iT f v fs).lookup g=if g=f then some v else fs.lookup g
 |[]=>by
  show gr g [(f,v)]=_
  by_cases h:g=f
  ·have hb:(g==f)=true:=beq_iff_eq.mpr h
   simp only[gr,hb,if_pos h]
  ·have hb:(g==f)=false:=beq_eq_false_iff_ne.mpr h
   simp only[gr,hb,if_neg h]
 |(k,x)::r=>by
  have ih:=AR f g v r
  rw[show iT f v ((k,x)::r)=(if k=f then(k,v)::r else(k,x)::iT f v r)from rfl]
  by_cases hk:k=f
  ·rw[if_pos hk]
   by_cases h:g=k
   ·have hb:(g==k)=true:=beq_iff_eq.mpr h
    simp only[gr,hb,if_pos (h.trans hk)]
   ·have hb:(g==k)=false:=beq_eq_false_iff_ne.mpr h
    simp only[gr,hb,if_neg (fun e:g=f=>h (e.trans hk.symm))]
  ·rw[if_neg hk]
   by_cases h:g=k
   ·have hb:(g==k)=true:=beq_iff_eq.mpr h
    simp only[gr,hb,if_neg (fun e:g=f=>hk (h.symm.trans e))]
   ·have hb:(g==k)=false:=beq_eq_false_iff_ne.mpr h
    simp only[gr,hb]
    exact ih
theorem wV (f:Str)(v:V):∀ fs:List (Str×V),f∈(iT f v fs).map (·.1)/\∀ g,g∈fs.map (·.1)->g∈(iT f v fs).map (·.1)
 |[]=>⟨by simp [iT],fun g h=>by simp at h⟩
 |(k,x)::r=>by
  obtain⟨i1,i2⟩:=wV f v r
  rw[show iT f v ((k,x)::r)=(if k=f then(k,v)::r else(k,x)::iT f v r)from rfl]
  by_cases hk:k=f
  ·rw[if_pos hk]
   subst hk
   exact⟨by simp,fun g h=>by simpa using h⟩
  ·rw[if_neg hk]
   refine⟨?_,fun g h=>?_⟩
   ·rw[aw]
    exact cb _ i1
   ·rw[aw]at h ⊢
    rcases List.mem_cons.mp h with e|e
    ·exact List.mem_cons.mpr (.inl e)
    ·exact cb _ (i2 g e)
theorem AI (f:Str)(v:V):∀ fs:List (Str×V),(iT f v fs).length<=fs.length+1
 |[]=>by simp [iT]
 |(k,x)::r=>by
  have ih:=AI f v r
  rw[show iT f v ((k,x)::r)=(if k=f then(k,v)::r else(k,x)::iT f v r)from rfl]
  by_cases hk:k=f
  ·rw[if_pos hk,bj,bj];omega
  ·rw[if_neg hk,bj,bj];omega
theorem sW.some_of {v:V}{o:Option Value}(r:sW (some v) o):∃ u,o=some u/\RelV v u:=by
 cases o with
 |none=>exact(show False from r).elim
 |some u=>exact⟨u,rfl,r⟩
theorem sW.none_of {o:Option Value}(r:sW none o):o=none:=by
 cases o with
 |none=>rfl
 |some u=>exact(show False from r).elim
theorem RK {v:V}{u:Value}(r:RelV v u):yp u=true:=by
 cases v with
 |non=>cases (show u=iq from r);rfl
 |bl b=>cases (show u=qg b from r);rfl
 |int i=>obtain⟨t,e⟩:=(show ∃ t,u=Qm i t from r);cases e;rfl
 |str x=>obtain⟨t,e⟩:=(show ∃ t,u=yn x t from r);cases e;rfl
 |byt b=>obtain⟨t,e⟩:=(show ∃ t,u=Ra b t from r);cases e;rfl
 |flt b=>obtain⟨t,e⟩:=(show ∃ t,u=Rb b t from r);cases e;rfl
 |ref a=>cases (show u=gp a from r);rfl
 |ty n=>cases (show u=fq n from r);rfl
section
variable {P:br}{w:World}{H H':Hp}{h h':Heap}{a C dx:Addr}{fs fs':List (Str×V)}
theorem D5 (bS:gS P w H h)(e:H a=some (.ins C dx fs)):∃ mA,A8 h a dx C mA/\(∀ f,sW (fs.lookup f) (mA f))/\xv mA (fs.map (·.1))/\fs.length<=1000/\H dx=some (.own a):=by
 obtain⟨d,z,ne,ob,mA,n,r,q⟩:=(show jK P w H h a (.ins C dx fs)from bS a _ e)
 exact⟨mA,⟨ob,n,ne⟩,r,q,z,d⟩
end
structure uD (K:aa)(C:Addr):Prop where
 pg:j5 K C Qo=true
 hd:ku K C=true
 po:nh K C=true
 sa:d7 K (.ref C) "__setattr__" = some (some (.builtin "object.__setattr__"))
theorem uD.get {K:aa}{C:Addr}(c:uD K C)(f:Str):j5 K C f=true:=c.pg
noncomputable def rE (K:aa)(C:Addr)(f:Str):Prop:=d7 K (.ref C) f=some none
theorem rE.Kq {K:aa}{C:Addr}{f:Str}(n:rE K C f):ur K C f=some none:=by
 unfold ur
 rw[show d7 K (.ref C) f=some none from n]
 rfl
structure EC (K:aa)(C:Addr)(m:Str)(f:Addr):Prop where
 at_:d7 K (.ref C) m=some (some (.ref f))
 fn:qb K (.ref f)=true
 kp:ek K (.ref f)=true
section
variable {X:Cx}{pins:List (Addr×Obj)}{σ:St}{H:Hp}{s:af}{a C dx:Addr}{fs:List (Str×V)}{f:Str}{v:V}{A:b7}{E:Value->af->Prop}
theorem NT {b:Bool}{Q:Value->af->Prop}(I:Inv X pins σ H s)(e:H a=some (.ins C dx fs))(c:uD X.K C)(n:rE X.K C f)(l:fs.lookup f=some v)
 (h:∀ u s',Inv X pins σ H s'->RelV v u->Q u s'):wpAny (model X.prog X.w) A (Rx (.ref a) f b) Q E s:=by
 obtain⟨mA,O,r,_,_,_⟩:=D5 I.bS e
 obtain⟨u,hu,ru⟩:=sW.some_of (v:=v) (o:=mA f) (by rw[<-l];exact r f)
 exact get_map I.iU O (c.get f) c.hd n hu (RK ru) (h u _ (I.tok _) ru)
theorem CI {m:Str}{g:Addr}{pl:Sem Bool}{Q:Value×List Value->af->Prop}(I:Inv X pins σ H s)(e:H a=some (.ins C dx fs))(c:uD X.K C)(k:EC X.K C m g)(l:fs.lookup m=none)
 (h:Q (.ref g,[.ref a]) s):wpAny (model X.prog X.w) A (se (.ref a) m pl) Q E s:=by
 obtain⟨mA,O,r,_,_,_⟩:=D5 I.bS e
 have hn:mA m=none:=sW.none_of (by rw[<-l];exact r m)
 exact S2 I.iU O (c.get m) k.at_ k.fn hn h
theorem OO {y:V}{u:Value}{Q:Unit->af->Prop}(I:Inv X pins σ H s)(e:H a=some (.ins C dx fs))(c:uD X.K C)(n:rE X.K C f)(hl:fs.length<1000)(ry:RelV y u)
  (h:∀ s',Inv X pins σ (upd H a (.ins C dx (iT f y fs))) s'->Q () s'):wpAny (model X.prog X.w) A (setAttr (.ref a) f u) Q E s:=by
 obtain⟨mA,O,r,wi,_,ho⟩:=D5 I.bS e
 have hz:(fs.map (·.1)).length<=sizeLine:=by rw[ab,jh];omega
 refine W0 I.iU O c.sa c.po n.Kq c.hd wi hz fun h' O' sb=>h _ ?_
 have hd:∃ o,h'.get? dx=some o:=let⟨o,_,_,e',_⟩:=O'.ns;⟨o,e'⟩
 refine I.write (x:=a) (e:=dx) (by rw[e];exact de) (.inr ho) (fun b q hb z=>(sb.2 b hb).trans z) hd ?_
 refine⟨by rw[bG O.ne];exact ho,?_,O.ne,O'.obj,_,O'.ns,fun g=>?_,fun g hg=>?_⟩
 ·have:=AI f y fs;omega
 ·show sW ((iT f y fs).lookup g) (if g=f then some u else mA g)
  rw[AR]
  by_cases q:g=f
  ·rw[if_pos q,if_pos q];exact ry
  ·rw[if_neg q,if_neg q];exact r g
 ·by_cases q:g=f
  ·rw[q];exact(wV f y fs).1
  ·refine(wV f y fs).2 g (wi g fun z=>hg ?_)
   show(if g=f then some u else mA g)=none
   rw[if_neg q];exact z
theorem Inv.made (I:Inv X pins σ H s):Inv X pins σ (upd (upd H s.heap.objs.size (.own (s.heap.objs.size+1))) (s.heap.objs.size+1) (.ins C s.heap.objs.size []))
  { s with heap:=(s.heap.push gh).push (iu C s.heap.objs.size) }:=by
 have e1:(s.heap.push gh).get? s.heap.objs.size=some gh:=bh s.heap rfl
 have e2:((s.heap.push gh).push (iu C s.heap.objs.size)).get? (s.heap.objs.size+1)=some (iu C s.heap.objs.size):=by
  have:=bh (s.heap.push gh) (o:=iu C s.heap.objs.size) rfl
  rwa [jm]at this
 have e3:(s.heap.push gh).Ns s.heap.objs.size (fun _=>none):=⟨PySem.W.emptyDict,#[],_,e1,rfl,(fun e he=>absurd he (by simp)),fun _=>rfl⟩
 have I1:=I.laid (a:=s.heap.objs.size) (o:=.own (s.heap.objs.size+1)) (h':=s.heap.push gh) (t':=s.toks) (fun b u q=>ag _ q) (az _) ⟨_,e1⟩
 refine I1.laid (a:=s.heap.objs.size+1) (o:=.ins C s.heap.objs.size []) (t':=s.toks) (fun b u q=>ag _ q) (Qu (jm _ _)) ?_
 have ne:s.heap.objs.size≠s.heap.objs.size+1:=b9 (f9 _)
 refine⟨by rw[bG ne,dF],df _,ne,e2,fun _=>none,(Heap.Ns1.of_empty e3).at fun o q=>ag _ q,fun _=>de,fun y hy=>absurd rfl hy⟩
theorem YR {prog:br}{w:World}{env:Env}{e:Expr}{f:Str}{pos:Pos}{s:af}{Q:Value->af->Prop}(hb:fw e f env (eval e env)=eval e env)
 (h:wpAny (model prog w) A (eval e env) (fun o s₁=>wpAny (model prog w) A (Rx o f true) Q E s₁) E s):wpAny (model prog w) A (eval (.Attribute e f pos) env) Q E s :=
 Attribute_any_ h (by rw[arm_eval_Attribute,hb])
end
noncomputable def Nn (K:aa)(ta:TE)(f:Str):TE:=fun σ H Q=>ta σ H fun x H1=>∃ a C dx fs v,x=.ref a/\H1 a=some (.ins C dx fs)/\uD K C/\rE K C f/\fs.lookup f=some v/\Q v H1
noncomputable def Lu (K:aa)(ta tv:TE)(f:Str):TS:=fun D σ H=>tv σ H fun y H1=>ta σ H1 fun x H2=>∃ a C dx fs,x=.ref a/\H2 a=some (.ins C dx fs)/\uD K C/\rE K C f/\fs.length<1000 /\
 D.nx σ (upd H2 a (.ins C dx (iT f y fs)))
section
variable {X:Cx}{o e value:Expr}{f:Str}{pos pos' tpos:Pos}{ta tv:TE}
theorem Z9 (he:PE X e ta)(hb:fw e f X.env (eval e X.env)=eval e X.env):PE X (.Attribute e f pos) (Nn X.K ta f):=by
 intro pins s σ H Q I h
 refine YR hb (bB (he pins s σ H _ I h) fun u s1 ⟨x,H1,I1,rx,a,C,dx,fs,v,ex,ea,c,n,l,q⟩=>?_)
 subst ex
 obtain rfl:u=gp a:=rx
 exact NT I1 ea c n l fun u' s2 I2 ru=>⟨v,H1,I2,ru,q⟩
theorem Z7 (ha:PE X o ta)(hv:PE X value tv)(hs:lb value (some (.Attribute o f pos')) pos.line X.env=pure false):PS X (.Assign [.Attribute o f pos'] value pos) (Lu X.K ta tv f):=by
 intro pins s σ H D I h
 refine plainObj_wpAny_Assign_Attribute (bB (hv pins s σ H _ I h) fun u s1 ⟨y,H1,I1,ry,q⟩=>bB (ha pins s1 σ H1 _ I1 q) fun ov s2 ⟨x,H2,I2,rx,a,C,dx,fs,ex,ea,c,n,l,q2⟩=>?_) hs
 subst ex
 obtain rfl:ov=gp a:=rx
 exact OO I2 ea c n l ry fun s3 I3=>⟨σ,_,I3,q2⟩
theorem Fx {pl:Sem Bool}{m:Str}{apos:Pos}{args:List Expr}{pins:List (Addr×Obj)}{s:af}{σ:St}{H:Hp}{Q:Value->af->Prop}{te:TE}(he:PE X e te)(I:Inv X pins σ H s)
 (h:te σ H fun x H1=>∃ a C dx fs g,x=.ref a/\H1 a=some (.ins C dx fs)/\uD X.K C/\EC X.K C m g/\fs.lookup m=none /\
  ∀ s1,Inv X pins σ H1 s1->wpAny (model X.prog X.w) X.A (vj pos (.ref g) [.ref a] (dh pos (ah args X.env)) (ni pos (jx [] X.env))) Q X.xe s1)
 (ht:eval (.Call (.Attribute e m apos) args [] pos) X.env=(do
  let ov <-eval e X.env
  p9 apos.atName
  let(f,first) <-j4 [ov] (se ov m pl)
  vj pos f first (dh pos (ah args X.env)) (ni pos (jx [] X.env)))):
 wpAny (model X.prog X.w) X.A (eval (.Call (.Attribute e m apos) args [] pos) X.env) Q X.xe s:=by
 refine vb (pl:=pl) (bB (he pins s σ H _ I h) fun u s1 ⟨x,H1,I1,rx,a,C,dx,fs,g,ex,ea,c,k,l,q⟩=>?_) ht
 subst ex
 obtain rfl:u=gp a:=rx
 exact CI I1 ea c k l (q s1 I1)
end
end L2
namespace L2
open PySem PySem.Spec PyProof.Rows
structure cX (k:Nat)(A:b7):Prop where
 hd:A.handled=none
 dp:A.depth+3*k+5<recursionLimit
 un:A.units+16*k+200<cLine
theorem cX.mono {j k:Nat}{A:b7}(r:cX k A)(h:j<=k):cX j A:=⟨r.hd,by have:=r.dp;omega,by have:=r.un;omega⟩
theorem cX.deeper {k:Nat}{A:b7}(r:cX (k+1) A)(env:Env):cX k (A.deeper env) :=
 ⟨r.hd,by have:=r.dp;show A.depth+1+3*k+5<_;omega,by have:=r.un;show A.units+3+16*k+200<_;omega⟩
theorem MX {A:b7}{C:Addr}{us:List Value}{kw:List (Str×Value)}:(A.under (.builtin "type.__call__" ⟨.ref C::us,kw⟩)).depth=A.depth+1:=by
 first|rfl|simp [xy,Code.weight,Code.isCreation,Code.isGuard,Code.isCaller,Rh,yc,guardIds]
theorem NN {A:b7}{C:Addr}{us:List Value}{kw:List (Str×Value)}:(A.under (.builtin "type.__call__" ⟨.ref C::us,kw⟩)).units=A.units+1:=by
 first|rfl|simp [xy,Code.cUnits,Rh,yc]
theorem cX.make {k:Nat}{A:b7}(r:cX (k+1) A)(C:Addr)(us:List Value)(kw:List (Str×Value)):cX k (A.under (.builtin "type.__call__" ⟨.ref C::us,kw⟩)) :=
 ⟨r.hd,by have:=r.dp;rw[MX];omega,by have:=r.un;rw[NN];omega⟩
theorem cX.depth {k:Nat}{A:b7}(r:cX k A):A.depth<recursionLimit:=by have:=r.dp;omega
noncomputable def Ly:TA:=fun _ H Q=>Q [] H
noncomputable def Jy (ta:TE)(tr:TA):TA:=fun σ H Q=>ta σ H fun x H1=>tr σ H1 fun xs H2=>Q (x::xs) H2
section
variable {X:Cx}{e:Expr}{es:List Expr}{te:TE}{t:TA}{pos:Pos}
theorem PZ:PA X [] Ly:=fun _ _ _ _ H Q I h=>kv ⟨[],H,I,.nil,h⟩
theorem DO (ha:PE X e te)(hr:PA X es t)(hs:ah (e::es) X.env=(false,eval e X.env)::ah es X.env:=by rfl):PA X (e::es) (Jy te t):=by
 intro pos pins s σ H Q I h
 rw[hs]
 show wpAny _ _ (wb ((false,eval e X.env)::dh pos (ah es X.env))) _ _ s
 refine gx (bB (ha pins s σ H _ I h) fun u s1 ⟨x,H1,I1,r1,q1⟩=>?_)
 exact bB (hr pos pins s1 σ H1 _ I1 q1) fun us s2 ⟨xs,H2,I2,r2,q2⟩=>⟨x::xs,H2,I2,.cons r1 r2,q2⟩
noncomputable def Lz (t:TA):TE:=fun σ H Q=>t σ H fun xs H1=>xs.length<=sizeLine/\∀ p,H1 p=none->Q (.ref p) (upd H1 p (.tup xs))
noncomputable def Md (t:TA):TE:=fun σ H Q=>t σ H fun xs H1=>xs.length<=sizeLine/\∀ p,H1 p=none->Q (.ref p) (upd H1 p (.lst xs))
theorem Ec {x1}(h:PA X es t):PE X (.Tuple es x1 pos) (Lz t):=by
 intro pins s σ H Q I hq
 refine wpAny_Tuple_spliced (bB (h pos pins s σ H _ I hq) fun us s1 ⟨xs,H1,I1,r,z,q⟩=>⟨by rw[<-r.length];exact z,?_⟩)
 have hf:H1 s1.heap.objs.size=none:=I1.bS.fresh (az _)
 refine⟨.ref s1.heap.objs.size,upd H1 s1.heap.objs.size (.tup xs),I1.laid (t':=s1.toks) (fun b u e=>ag _ e) (az _) ?_,rfl,q _ hf⟩
 exact⟨z,us,r,pR.new _ _⟩
theorem Er (h:PA X es t):PE X (.List es pos) (Md t):=by
 intro pins s σ H Q I hq
 refine wpAny_List_spliced (bB (h pos pins s σ H _ I hq) fun us s1 ⟨xs,H1,I1,r,z,q⟩=>⟨by rw[<-r.length];exact z,?_⟩)
 have hf:H1 s1.heap.objs.size=none:=I1.bS.fresh (az _)
 refine⟨.ref s1.heap.objs.size,upd H1 s1.heap.objs.size (.lst xs),I1.laid (t':=s1.toks) (fun b u e=>ag _ e) (az _) ?_,rfl,q _ hf⟩
 exact⟨z,us,0,r,bh _ rfl⟩
end
noncomputable abbrev Sp:=List V->Hp->VK->XK->Prop
noncomputable abbrev zT:=List Env->Hp->af->XK->Value->af->Prop
structure tF (P:br)(w:World)(K:aa)(mg:Str->Option Value)(base:Heap)(A:b7)(outer:List Env)(s:af)(H:Hp):Prop where
 frames:A.frames=some outer
 mod:Mod K mg base
 bs:∀ b o,base.get? b=some o->s.heap.get? b=some o/\H b=none
 bsz:base.objs.size<=s.heap.objs.size
 lF:s.heap.FunFrames base outer
 frf:∀ b∈uA outer,H b=none
 bS:gS P w H s.heap
 bare:qy s.gens
inductive CE (outer:List Env)(P:br)(w:World)(H:Hp)(s:af)(Q:VK)(u:Value)(s':af):Prop
 |mk (v:V)(H':Hp)(a:s'.os=s.os)(b:qy s'.gens)(c:Un (uA outer) [] H H' s.heap s'.heap)(d:gS P w H' s'.heap)(r:RelV v u)(q:Q v H')
noncomputable def CR (CX:zT)(outer:List Env)(P:br)(w:World)(H:Hp)(s:af)(Q:VK)(E:XK)(r:Qt)(s':af):Prop :=
 match r with
 |.ok (.ret u)=>CE outer P w H s Q u s'
 |.ok _=>False
 |.error e=>CX outer H s E e s'
structure fF (P:br)(w:World)(K:aa)(mg:Str->Option Value)(base:Heap)(CX:zT)(k:Nat)(f:Addr)(fd:gj)(ps:List Str)(sp:Sp):Prop where
 len:∀ vs H Q E,sp vs H Q E->vs.length=ps.length
 run:∀(A:b7)(outer:List Env)(s:af)(H:Hp)(args:Args)(us:List Value)(vs:List V)(Q:VK)(E:XK),cX k A->tF P w K mg base A outer s H->yd s fd args (ps.zip us)->aQ vs us->sp vs H Q E ->
 kf (model P w) A (.call (.ref f) args) (CR CX outer P w H s Q E) s
theorem tF.make {P:br}{w:World}{K:aa}{mg:Str->Option Value}{base:Heap}{A:b7}{outer:List Env}{s:af}{H:Hp}(e:tF P w K mg base A outer s H)(C:Addr)(us:List Value)(kw:List (Str×Value)):
 tF P w K mg base (A.under (.builtin "type.__call__" ⟨.ref C::us,kw⟩)) outer s H:=⟨by first|exact e.frames|(simpa [xy,Code.envs,yc,pushEnvs]using e.frames),e.mod,e.bs,e.bsz,e.lF,e.frf,e.bS,e.bare⟩
section
variable {X:Cx}{pins:List (Addr×Obj)}{σ:St}{H:Hp}{s s':af}
theorem Inv.OI (I:Inv X pins σ H s):tF X.prog X.w X.K X.mg X.base X.A X.stack s H :=
 ⟨I.ok.frames,I.ok.mod,I.bs,c7 I.ok.bsz I.sz,I.stack,I.MP,I.bS,I.bare⟩
theorem Inv.after {Q:VK}{u:Value}(I:Inv X pins σ H s)(h:CE X.stack X.prog X.w H s Q u s'):EP X pins σ Q u s':=by
 obtain⟨v,H',os,bare,un,bS,r,q⟩:=h
 obtain⟨hh,g,d,t,os'⟩:=s'
 obtain rfl:os'=s.os:=os
 exact⟨v,H',I.call (h':=hh) (g':=g) (d':=d) (t':=t) (ch:=[]) un bS bare (fun b z=>absurd z (by simp)),r,q⟩
end
noncomputable def Gn (sp:Sp)(dvs:List V)(E:XK)(t:TA):TE:=fun σ H Q=>t σ H fun vs H1=>sp (vs++dvs) H1 Q E
noncomputable def Hn (C:Addr)(m:Str)(sp:Sp)(dvs:List V)(E:XK)(ta:TE)(t:TA):TE:=fun σ H Q=>ta σ H fun x H1=>∃ a dx fs,x=.ref a/\H1 a=some (.ins C dx fs)/\fs.lookup m=none /\
 t σ H1 fun vs H2=>sp (x::(vs++dvs)) H2 Q E
noncomputable def Km (C:Addr)(sp:Sp)(dvs:List V)(E:XK)(t:TA):TE:=fun σ H Q=>t σ H fun vs H1=>∀ x dx,H1 x=none->H1 dx=none->dx≠x ->
 sp (.ref x::(vs++dvs)) (upd (upd H1 dx (.own x)) x (.ins C dx [])) (fun v H2=>v=.non/\Q (.ref x) H2) E
noncomputable def Binds (K:aa)(fd:gj)(ps:List Str)(ds:List Value):Prop :=
 ∀(s:af)(us:List Value),K.In s.heap->(us++ds).length=ps.length->yd s fd ⟨us,[]⟩ (ps.zip (us++ds))
theorem Binds.all {K:aa}{fd:gj}{ps:List Str}(h:∀ us:List Value,us.length=ps.length->zr fd ⟨us,[]⟩=pure (ps.zip us)):Binds K fd ps []:=fun s us _ hl=>by
 rw[el]at hl ⊢
 exact .of_eq (h us hl)
noncomputable def pC (CX:zT)(X:Cx)(E:XK):Prop:=∀(pins:List (Addr×Obj))(σ:St)(H:Hp)(s:af)(e:Value)(s':af),Inv X pins σ H s->CX X.stack H s E e s'->X.xe e s'
section
variable {X:Cx}{CX:zT}{k:Nat}{f C:Addr}{fd:gj}{ps:List Str}{sp:Sp}{dvs:List V}{ds:List Value}{E:XK}{x m:Str}{p pos apos:Pos}{e o:Expr}{es:List Expr}{ta:TE}{t:TA}
theorem Q6 {pins:List (Addr×Obj)}{σ:St}{H:Hp}{s:af}{Q:VK}{us:List Value}{vs:List V}(F:fF X.prog X.w X.K X.mg X.base CX k f fd ps sp)(hr:cX k X.A)(hb:Binds X.K fd ps ds)(hd:aQ dvs ds)(hx:pC CX X E)
 (I:Inv X pins σ H s)(r:aQ vs us)(h:sp (vs++dvs) H Q E):wpAny (model X.prog X.w) X.A (call (.ref f) us) (EP X pins σ Q) X.xe s:=by
 have r2:aQ (vs++dvs) (us++ds):=r.append hd
 have hl:(us++ds).length=ps.length:=by rw[<-r2.length];exact F.len _ _ _ _ h
 refine tx (kg (F.run X.A X.stack s H ⟨us,[]⟩ (us++ds) (vs++dvs) Q E hr I.OI (hb s us I.iU hl) r2 h) fun r s' hq=>?_)
 cases r with
 |error e=>exact hx pins σ H s e s' I hq
 |ok fl =>
 cases fl with
 |ret u=>exact I.after hq
 |next=>exact dv hq
 |brk=>exact dv hq
 |cont=>exact dv hq
theorem Y0 (F:fF X.prog X.w X.K X.mg X.base CX k f fd ps sp)(hr:cX k X.A)(hg:Gl X x)(hm:X.mg x=some (.ref f))(hk:ek X.K (.ref f)=true)(hb:Binds X.K fd ps ds)(hd:aQ dvs ds)(hx:pC CX X E)
 (ha:PA X (e::es) t)(hdb:(x==("__debug__" : Str))=false:=by decide)(he:ah (e::es) X.env=(false,eval e X.env)::ah es X.env:=by rfl)(cG:(dh pos (ah es X.env)).any (·.1)=false:=by rfl):
 PE X (.Call (.Name x p) (e::es) [] pos) (Gn sp dvs E t):=by
 intro pins s σ H Q I h
 refine dm (yU I hg hm ?_ hdb)
 refine mi (h₀:=X.base) I.ok.mod.kin hk (bB (ha pos pins s σ H _ I h) fun us s1 ⟨vs,H1,I1,r,q⟩=>⟨I1.iU,?_⟩) he cG
 exact Q6 F hr hb hd hx I1 r q
theorem YD {pl:Sem Bool}(he:PE X o ta)(c:uD X.K C)(hm:EC X.K C m f)(F:fF X.prog X.w X.K X.mg X.base CX k f fd ps sp)(hr:cX k X.A)(hb:Binds X.K fd ps ds)(hd:aQ dvs ds)(hx:pC CX X E)(ha:PA X (e::es) t)
 (dN:ah (e::es) X.env=(false,eval e X.env)::ah es X.env:=by rfl)(cG:(dh pos (ah es X.env)).any (·.1)=false:=by rfl)
 (ht:eval (.Call (.Attribute o m apos) (e::es) [] pos) X.env=(do
  let ov <-eval o X.env
  p9 apos.atName
  let(f,first) <-j4 [ov] (se ov m pl)
  vj pos f first (dh pos (ah (e::es) X.env)) (ni pos (jx [] X.env))):=by rfl):
 PE X (.Call (.Attribute o m apos) (e::es) [] pos) (Hn C m sp dvs E ta t):=by
 intro pins s σ H Q I h
 refine vb (pl:=pl) (bB (he pins s σ H _ I h) fun u s1 ⟨x,H1,I1,rx,a,dx,fs,ex,ea,l,q⟩=>?_) ht
 subst ex
 obtain rfl:u=gp a:=rx
 refine CI I1 ea c hm l ?_
 refine mi (first:=[.ref a]) (h₀:=X.base) I.ok.mod.kin hm.kp (bB (ha pos pins s1 σ H1 _ I1 q) fun us s2 ⟨vs,H2,I2,r,q2⟩=>⟨I2.iU,?_⟩) dN cG
 exact Q6 (us:=.ref a::us) (vs:=.ref a::vs) F hr hb hd hx I2 (.cons rfl r) q2
structure Mk (K:aa)(C f:Addr):Prop where
 makes:uu K C=true
 init:d7 K (.ref C) "__init__" = some (some (.ref f))
 fn:qb K (.ref f)=true
 kp:ek K (.ref C)=true
theorem SX {pins:List (Addr×Obj)}{σ:St}{H:Hp}{s:af}{Q:VK}{us:List Value}{vs:List V}(M:Mk X.K C f)(F:fF X.prog X.w X.K X.mg X.base CX k f fd ps sp)(hr:cX (k+1) X.A)(hb:Binds X.K fd ps ds)(hd:aQ dvs ds)
  (hx:pC CX X E)(I:Inv X pins σ H s)(r:aQ vs us)
  (h:∀ x dx,H x=none->H dx=none->dx≠x->sp (.ref x::(vs++dvs)) (upd (upd H dx (.own x)) x (.ins C dx [])) (fun v H2=>v=.non/\Q (.ref x) H2) E):
  wpAny (model X.prog X.w) X.A (call (.ref C) us) (EP X pins σ Q) X.xe s:=by
 have hq:=h (s.heap.objs.size+1) s.heap.objs.size (I.bS.fresh (zh _)) (I.bS.fresh (az _)) (b9 (f9 _))
 have I2:=Inv.made (C:=C) I
 have r2:aQ (V.ref (s.heap.objs.size+1)::(vs++dvs)) (gp (s.heap.objs.size+1)::(us++ds)):=.cons rfl (r.append hd)
 have hl:(gp (s.heap.objs.size+1)::us++ds).length=ps.length:=by
  have e:=r2.length
  rw[F.len _ _ _ _ hq]at e
  exact e.symm
 refine tx (SG (f:=f) I.iU M.makes M.init (beq_iff_eq.mp M.fn) (kg (F.run _ X.stack _ _ ⟨Value.ref (s.heap.objs.size+1)::us,[]⟩ (gp (s.heap.objs.size+1)::(us++ds)) _ _ E (hr.make C us [])
  (I2.OI.make C us []) (hb _ (gp (s.heap.objs.size+1)::us) I2.iU hl) r2 hq) fun r s' hq'=>?_))
 cases r with
 |error e=>exact hx pins σ _ _ e s' I2 hq'
 |ok fl =>
  cases fl with
  |ret u =>
   obtain⟨v,H',I3,rv,ev,q3⟩:=I2.after hq'
   subst ev
   exact⟨rv,⟨V.ref (s.heap.objs.size+1),H',I3,rfl,q3⟩⟩
  |next=>exact dv hq'
  |brk=>exact dv hq'
  |cont=>exact dv hq'
theorem XI (M:Mk X.K C f)(F:fF X.prog X.w X.K X.mg X.base CX k f fd ps sp)(hr:cX (k+1) X.A)(hg:Gl X x)(hm:X.mg x=some (.ref C))(hb:Binds X.K fd ps ds)(hd:aQ dvs ds)(hx:pC CX X E)
 (ha:PA X (e::es) t)(hdb:(x==("__debug__" : Str))=false:=by decide)(he:ah (e::es) X.env=(false,eval e X.env)::ah es X.env:=by rfl)(cG:(dh pos (ah es X.env)).any (·.1)=false:=by rfl):
 PE X (.Call (.Name x p) (e::es) [] pos) (Km C sp dvs E t):=by
 intro pins s σ H Q I h
 refine dm (yU I hg hm ?_ hdb)
 refine mi (h₀:=X.base) I.ok.mod.kin M.kp (bB (ha pos pins s σ H _ I h) fun us s1 ⟨vs,H1,I1,r,q⟩=>⟨I1.iU,?_⟩) he cG
 exact SX M F hr hb hd hx I1 r q
end
structure mL (N P:List Str)(sc:Scope):Prop where
 kind:sc.kind=.function
 co:sc.isCoroutine=false
 gen:sc.isGenerator=false
 nd:N.Nodup
 pre:N.take P.length=P
 par:∀ x∈P,sc.names.lookup x=some .local∨sc.names.lookup x=some .cell
 nofree:∀ y∈sc.names,y.2≠.free
theorem FG {kindOf:Str->Option sh}{x:Str}:∀{binds:List (Str×Value)}{m:Str->Option Value},(∀ v,(x,v)∉binds)->bindL kindOf binds m x=m x
 |[],_,_=>rfl
 |(n,v)::r,m,h=>by
  unfold bindL
  rw[FG fun w hw=>h w (cb _ hw)]
  split
  ·have:x≠n:=by rintro rfl;exact h v cy
   simp [this]
  ·rfl
theorem ER {kindOf:Str->Option sh}{x:Str}:∀{binds:List (Str×Value)}{m:Str->Option Value},(∀ v,(x,v)∉binds)->bindC kindOf binds m x=m x
 |[],_,_=>rfl
 |(n,v)::r,m,h=>by
  unfold bindC
  rw[ER fun w hw=>h w (cb _ hw)]
  split
  ·rfl
  ·have:x≠n:=by rintro rfl;exact h v cy
   simp [this]
theorem E8 {kindOf:Str->Option sh}{x:Str}{v:Value}:∀{P:List Str}{vs:List Value}{i:Nat}{m:Str->Option Value},P.Nodup->P[i]? = some x->vs[i]? = some v->kindOf x=some .local ->
  bindL kindOf (P.zip vs) m x=some v
 |[],_,_,_,_,h,_,_=>by simp at h
 |_::_,[],_,_,_,_,h,_=>by simp at h
 |p::P,w::vs,0,m,nd,h1,h2,hk=>by
  simp at h1 h2;subst h1;subst h2
  show bindL kindOf ((p,w)::P.zip vs) m p=_
  unfold bindL
  rw[FG fun v hv=>(List.nodup_cons.mp nd).1 (me hv).1,if_pos hk]
  simp
 |p::P,w::vs,i+1,m,nd,h1,h2,hk=>by
  show bindL kindOf ((p,w)::P.zip vs) m x=_
  unfold bindL
  exact E8 (i:=i) (List.nodup_cons.mp nd).2 (by simpa using h1) (by simpa using h2) hk
theorem E5 {kindOf:Str->Option sh}{x:Str}{v:Value}:∀{P:List Str}{vs:List Value}{i:Nat}{m:Str->Option Value},P.Nodup->P[i]? = some x->vs[i]? = some v->kindOf x≠some .local ->
  bindC kindOf (P.zip vs) m x=some v
 |[],_,_,_,_,h,_,_=>by simp at h
 |_::_,[],_,_,_,_,h,_=>by simp at h
 |p::P,w::vs,0,m,nd,h1,h2,hk=>by
  simp at h1 h2;subst h1;subst h2
  show bindC kindOf ((p,w)::P.zip vs) m p=_
  unfold bindC
  rw[ER fun v hv=>(List.nodup_cons.mp nd).1 (me hv).1,if_neg hk]
  simp
 |p::P,w::vs,i+1,m,nd,h1,h2,hk=>by
  show bindC kindOf ((p,w)::P.zip vs) m x=_
  unfold bindC
  exact E5 (i:=i) (List.nodup_cons.mp nd).2 (by simpa using h1) (by simpa using h2) hk
noncomputable def start (N:List Str)(vs:List V):St:=vs.map some++a9 (N.length-vs.length) none
noncomputable def eV (CX:zT)(P:br)(w:World)(K:aa)(mg:Str->Option Value)(base:Heap)(N:List Str)(qual:Str)(scope:Scope)(f:Addr)(cd:Value)(A:b7)(outer:List Env)(s:af)(H:Hp)(E:XK):Cx where
 prog:=P
 w:=w
 K:=K
 mg:=mg
 base:=base
 A:=A.deeper (ly qual scope s.heap.objs.size f cd)
 N:=N
 s₀:=s
 H₀:=H
 env:=ly qual scope s.heap.objs.size f cd
 outer:=outer
 stack:=ly qual scope s.heap.objs.size f cd::outer
 ex:=[]
 calm:=true
 fn:=fun _=>true
 pn:=[]
 xe:=fun e s'=>wpAny (model P w) (A.deeper (ly qual scope s.heap.objs.size f cd)) (leaving (ly qual scope s.heap.objs.size f cd) e) (fun _ s''=>CX outer H s E e s'') (fun e' s''=>CX outer H s E e' s'') s'
theorem JF {sc:Scope}{n:Nat}{x:Str}(h:sc.names.lookup x=some .cell):∃ c,(Qp n sc.names []).lookup x=some c:=by
 have q:=tz sc.names n [] (.inl h)
 exact Option.isSome_iff_exists.mp q
theorem RO {CX:zT}{P:br}{w:World}{K:aa}{mg:Str->Option Value}{base:Heap}{N ps:List Str}{qual:Str}{scope:Scope}{f:Addr}{cd:Value}{A:b7}{outer:List Env}{s s1:af}{H:Hp}{E:XK}{us:List Value}{vs:List V}
  (S:mL N ps scope)(hd:A.handled=none)(e0:tF P w K mg base A outer s H)(hl:vs.length=ps.length)(r:aQ vs us)
  (x:InCallC s s.heap.objs.size (bindL (ly qual scope s.heap.objs.size f cd).kindOf (ps.zip us) fun _=>none) (Qp (s.heap.objs.size+1) scope.names []) (bindC (ly qual scope s.heap.objs.size f cd).kindOf (ps.zip us) fun _=>none) s1):
  Inv (eV CX P w K mg base N qual scope f cd A outer s H E) [] (start N vs) H s1:=by
 have cG:ps.length<=N.length:=by have:=congrArg zi S.pre;rw[n5]at this;omega
 obtain⟨h1,tk,rfl,hk⟩:=x.done
 have noA:∀ b:Addr,b∉(eV CX P w K mg base N qual scope f cd A outer s H E).ex:=fun b z=>absurd (show b∈([]:List Addr)from z) (by simp)
 refine⟨⟨e0.mod,S.kind,rfl,rfl,az _,fun y z c h1 h2=>?_,fun y hy=>?_,fun y c _ h=>?_,fun _=>hd,vk e0.frames,.inr ⟨rfl,rfl⟩,fun b z=>absurd z (noA b),e0.bs,e0.bsz,fun b _ _=>noA b,fun b z=>absurd z (noA b),e0.lF,e0.frf⟩,
  rfl,e0.bare,Un.kept hk,⟨_,x.toInCall.ns,fun i y v h1 h2 h3=>?_⟩,fun y c h=>⟨_,x.cell y c h⟩,e0.bS.fresh (az _),fun y c h=>?_,fun p hp=>absurd (show p∈([]:List (Addr×Obj))from hp) (by simp),e0.bS.kept hk,?_⟩
 ·exact name_of_addr x.apart (gq h1) (gq h2)
 ·have hy:scope.names.lookup y=some .cell∨scope.names.lookup y=some .free:=hy
  rcases hy with hy|hy
  ·exact JF hy
  ·exact absurd rfl (S.nofree _ (gq hy))
 ·exact p8 (x.above y c (gq h))
 ·have hi:i<vs.length:=by
   unfold start at h2
   by_cases hi:i<vs.length
   ·exact hi
   ·rw[cq (by simpa using hi)]at h2
    rw[g7]at h2
    split at h2<;>cases h2
  have ha:vs[i]? = some v:=by
   unfold start at h2
   rw[bu (by simpa using hi),bb]at h2
   cases e:vs[i]? with
   |none=>rw[e]at h2;cases h2
   |some a=>rw[e]at h2;cases h2;rfl
  obtain⟨u,hu,rv⟩:=r.get ha
  have hp:ps[i]? = some y:=by
   rw[<-S.pre,List.getElem?_take_of_lt (by omega)];exact h1
  have ndP:ps.Nodup:=by rw[<-S.pre];exact S.nd.sublist (List.take_sublist _ _)
  refine⟨u,rv,?_⟩
  rcases S.par y (bf hp)with k|k
  ·exact .inl ⟨k,E8 ndP hp hu k⟩
  ·obtain⟨c,e⟩:=JF (n:=s.heap.objs.size+1) k
   refine .inr ⟨.inl k,c,e,?_⟩
   have q:=x.cell y c e
   rw[E5 ndP hp hu (by show scope.names.lookup y≠_;rw[k];decide)]at q
   exact q
 ·exact e0.bS.fresh (p8 (x.above y c (gq h)))
 ·unfold start
  show _=N.length
  rw[bq,ab,ny]
  omega
theorem VX {CX:zT}{P:br}{w:World}{K:aa}{mg:Str->Option Value}{base:Heap}{k:Nat}{f:Addr}{name qual:Str}{params:Arguments}{body:List Stmt}{scope:Scope}{dV kV doc pm bF ct oc:Value}{an od:Option Addr}
  {osl:Array (Option Value)}{N ps:List Str}{sp:Sp}(lk:K.lookup f=some ⟨oc,od,.func (gy name qual params body scope dV kV doc pm an bF ct),osl⟩)(hcd:j6 K bF qual=true)(S:mL N ps scope)
  (len:∀ vs H Q E,sp vs H Q E->vs.length=ps.length)
  (hbody:∀(A:b7)(outer:List Env)(s:af)(H:Hp)(vs:List V)(Q:VK)(E:XK),cX k (A.deeper (ly qual scope s.heap.objs.size f bF))->sp vs H Q E ->
   ∃ t,kL (eV CX P w K mg base N qual scope f bF A outer s H E) body t/\t { nx:=fun _ H'=>Q .non H',rt:=Q } (start N vs) H):
  fF P w K mg base CX (k+1) f (gy name qual params body scope dV kV doc pm an bF ct) ps sp:=by
 refine⟨len,fun A outer s H args us vs Q E hr e0 hb r hsp=>?_⟩
 have hl:=len _ _ _ _ hsp
 have KX:K.In s.heap:=e0.mod.kin.keeps fun b o e=>(e0.bs b o e).1
 have lim:s.heap.NoLimit:=e0.mod.nolimit.keeps fun b o e=>(e0.bs b o e).1
 have hkind:∀ y∈ps.zip us,scope.names.lookup y.1=some .local∨(scope.names.lookup y.1=some .cell/\((Qp (s.heap.objs.size+1) scope.names []).lookup y.1).isSome=true):=fun⟨n,v⟩ hy=>by
  rcases S.par n (me hy).1 with q|q
  ·exact .inl q
  ·exact .inr ⟨q,tz _ _ _ (.inl q)⟩
 refine codeAny_call_function hr.depth (KX _ _ lk) rfl S.co S.gen rfl (PySem.W.codeRec_of KX hcd) (hb _ _ _ _ ?_)
 refine wpAny_newFunctionEnv_cells S.kind hkind fun env he s1 x=>?_
 subst he
 refine⟨lim.keeps x.toInCall.keep,codeAny_func ?_⟩
 obtain⟨t,ht,hq⟩:=hbody A outer s H vs Q E (hr.deeper _) hsp
 have I:Inv (eV CX P w K mg base N qual scope f bF A outer s H E) [] (start N vs) H s1:=RO S hr.hd e0 hl r x
 refine jk (ht [] s1 (start N vs) H _ I hq) (fun fl s' hs=>?_) fun e s' hs=>hs
 have fin:∀{σ':St}{H':Hp}{v:V}{u:Value},Inv (eV CX P w K mg base N qual scope f bF A outer s H E) [] σ' H' s'->RelV v u->Q v H'->CE outer P w H s Q u s' :=
  fun{σ' H' v u} J rv q=>⟨v,H',J.os,J.bare,J.base,J.bS,rv,q⟩
 cases fl with
 |ret u =>
  obtain⟨v,σ',H',J,rv,q⟩:=hs
  exact fin J rv q
 |next =>
  obtain⟨σ',H',J,q⟩:=hs
  exact fin (v:=V.non) (u:=iq) J rfl q
 |brk =>
  obtain⟨_,_,_,q⟩:=hs
  exact dv q
 |cont =>
  obtain⟨_,_,_,q⟩:=hs
  exact dv q
end L2
namespace L2
open PySem PySem.Spec PyProof.Rows
section
variable {X:Cx}{x:Str}{p pos:Pos}{e:Expr}{es:List Expr}{t:TA}{id T:String}{r:List V->Hp->VK->Prop}
noncomputable def Bj (r:List V->Hp->VK->Prop)(t:TA):TE:=fun σ H Q=>t σ H fun vs H1=>r vs H1 Q
theorem JV (hc:vQ X (.builtin id) r)(hg:Gl X x)(hm:X.mg x=none)(hv:cp x=some (.builtin id))(ha:PA X (e::es) t)(hn:x ≠"__name__":=by decide)(hdb:(x==("__debug__" : Str))=false:=by decide)
 (he:ah (e::es) X.env=(false,eval e X.env)::ah es X.env:=by rfl)(cG:(dh pos (ah es X.env)).any (·.1)=false:=by rfl):PE X (.Call (.Name x p) (e::es) [] pos) (Bj r t):=by
 intro pins s σ H Q I h
 refine dm (kQ I hg hm hv ?_ hn hdb)
 exact PyProof.Rows.callWith_builtin1 (bB (ha pos pins s σ H _ I h) fun us s1 ⟨vs,H1,I1,r1,q1⟩=>hc pins s1 σ H1 vs us Q I1 r1 q1) he cG
theorem P6 (hc:vQ X (.type T) r)(hg:Gl X x)(hm:X.mg x=none)(hv:cp x=some (.type T))(ha:PA X (e::es) t)(hn:x ≠"__name__":=by decide)(hdb:(x==("__debug__" : Str))=false:=by decide)
 (he:ah (e::es) X.env=(false,eval e X.env)::ah es X.env:=by rfl)(cG:(dh pos (ah es X.env)).any (·.1)=false:=by rfl):PE X (.Call (.Name x p) (e::es) [] pos) (Bj r t):=by
 intro pins s σ H Q I h
 refine dm (kQ I hg hm hv ?_ hn hdb)
 exact di (bB (ha pos pins s σ H _ I h) fun us s1 ⟨vs,H1,I1,r1,q1⟩=>hc pins s1 σ H1 vs us Q I1 r1 q1) he cG
end
end L2
namespace HT
open PySem PyProof.Rows
section
variable {prog:br}{w:World}{A:b7}{E:Value->af->Prop}{s:af}
theorem ZF {t b:Addr}{vs ws:List Value}{Q:Value->af->Prop}(ht:IsTup s.heap t vs.toArray)(hb:IsTup s.heap b ws.toArray)(hv:vs≠[])
  (h1:ws=[]->Q (.ref t) s)(h2:ws≠[]->Q (.ref s.heap.objs.size) { s with heap:=s.heap.push { cls:=.type "tuple", data:=.seq (vs++ws).toArray } })
  (mM:vs.length+ws.length<=sizeLine):wpAny (model prog w) A (g6 .Add (.ref t) (.ref b)) Q E s:=by
 obtain⟨⟨cls,dd,data,sl⟩,ho,hc,n,hd⟩:=id ht
 obtain⟨⟨cls2,dd2,data2,sl2⟩,ho2,hc2,n2,hd2⟩:=id hb
 simp only at hc hd hc2 hd2
 subst hc hd hc2 hd2
 have e:vs.toArray++ws.toArray=(vs++ws).toArray:=by simp
 by_cases hw:ws=[]
 ·exact ye ⟨_,ho,rfl⟩ ⟨_,ho2,rfl⟩ si wu nj mr (l0 _ _)
   (tuple_addW1 t b vs.toArray ws.toArray n n2 dd dd2 sl sl2 (by simpa using hv) (by simp [hw])) ⟨ho,ho2,h1 hw⟩
 ·refine ye ⟨_,ho,rfl⟩ ⟨_,ho2,rfl⟩ si wu nj mr (l0 _ _)
   (tuple_addW2 t b vs.toArray ws.toArray n n2 dd dd2 sl sl2 (by simpa using hv) (by simpa using hw) (by rw[ar,ar];exact mM)) ⟨ho,ho2,?_⟩
  rw[e]
  exact h2 hw
noncomputable def cE (n d:Nat):Option Int->Nat
 |none=>d
 |some v=>if v<0 then(v+(n:Int)).toNat else min v.toNat n
theorem Bs (n d:Nat)(hd:d<=n)(o:Option Int):cE n d o<=n:=by
 cases o with
 |none=>exact hd
 |some v =>
 show(if v<0 then(v+(n:Int)).toNat else min v.toNat n)<=n
 by_cases hv:v<0
 ·rw[if_pos hv];omega
 ·rw[if_neg hv];exact Nat.min_le_right _ _
theorem MG (v:Int)(n d:Nat):(if v<0 then max (v+(n:Int)) 0 else min v (n:Int))=((cE n d (some v):Nat):Int):=by
 show(if v<0 then max (v+(n:Int)) 0 else min v (n:Int))=(((if v<0 then(v+(n:Int)).toNat else min v.toNat n):Nat):Int)
 by_cases hv:v<0
 ·simp only[if_pos hv];omega
 ·simp only[if_neg hv];omega
theorem MY (lo hi:Option Int)(n:Nat):ll lo hi 1 (n:Int)=(((cE n 0 lo:Nat):Int),((cE n n hi:Nat):Int)):=by
 have h1:¬((1:Int)<0):=by omega
 unfold ll
 simp only[h1,if_false]
 refine Prod.ext ?_ ?_
 ·cases lo with
 |none=>rfl
 |some v=>exact MG v n 0
 ·cases hi with
 |none=>rfl
 |some v=>exact MG v n n
theorem NP (i j:Nat):ju (i:Int) (j:Int) 1=j-i:=by
 unfold ju
 have h1:(1:Int)>0:=by omega
 simp only[h1,if_true,Int.ediv_one]
 split<;>omega
theorem CJ {v:Value}{o:Option Int}{Q:Option Int->af->Prop}(p:ua v o)(h:Q o s):wpAny (model prog w) A (Builtin.Slice.slicePartIndex v) Q E s:=by
 cases p with
 |none=>exact zt h
 |int i t=>exact slicePart_int h
theorem rN {sl:Addr}{vl vu:Value}{lo hi:Option Int}{n:Nat}{Q:Int×Int×Nat->af->Prop}(hs:s.heap.IsSliceOf sl vl vu .none)(pl:ua vl lo)(pu:ua vu hi)
 (h:Q (((cE n 0 lo:Nat):Int),1,cE n n hi-cE n 0 lo) s):wpAny (model prog w) A (qj (.ref sl) (pure (n:Int))) Q E s:=by
 obtain⟨os,hos,hcs,hds⟩:=id hs
 unfold qj Builtin.Slice.sliceFields
 refine ae (ae (jy hos hds (x:=vl) rfl (ae (jy hos hds (x:=vu) rfl (ae (jy hos hds (x:=.none) rfl (ao ?_)))))))
 refine ae (zt ?_)
 show wpAny _ _ (if((1:Int)==0)=true then _ else _) _ _ s
 rw[if_neg (by decide)]
 refine ae (CJ pl (ae (CJ pu (ae (ao ?_)))))
 show wpAny _ _ (match ll lo hi 1 (n:Int)with|(lo,hi)=>pure (lo,(1:Int),ju lo hi 1)) _ _ s
 rw[MY lo hi n]
 show wpAny _ _ (pure (((cE n 0 lo:Nat):Int),(1:Int),ju ((cE n 0 lo:Nat):Int) ((cE n n hi:Nat):Int) 1)) _ _ s
 rw[NP]
 exact ao h
theorem TL (xs:Array Value)(i k:Nat):((ai k).filterMap fun(m:Nat)=>xs[((i:Int)+(m:Int)*1).toNat]?).toArray=((xs.toList.drop i).take k).toArray:=by
 have e:(fun(m:Nat)=>xs[((i:Int)+(m:Int)*1).toNat]?)=fun m=>xs[i+m]?:=by
  funext m
  have:((i:Int)+(m:Int)*1).toNat=i+m:=by omega
  rw[this]
 rw[e]
 have:=pick_run xs i k
 rw[List.filterMap_map]at this
 have e2:((fun x=>xs[x]?)∘fun x=>i+x)=fun m=>xs[i+m]?:=rfl
 rw[e2]at this
 rw[this]
theorem zN {t sl:Addr}{items:Array Value}{vl vu:Value}{lo hi:Option Int}{Q:Value->af->Prop}(ht:IsTup s.heap t items)(hs:s.heap.IsSliceOf sl vl vu .none)(pl:ua vl lo)(pu:ua vu hi)
  (hw:¬(cE items.size 0 lo=0/\cE items.size items.size hi=items.size))
  (h:Q (.ref s.heap.objs.size) { s with heap:=s.heap.push { cls:=.type "tuple", data:=.seq ((items.toList.drop (cE items.size 0 lo)).take (cE items.size items.size hi-cE items.size 0 lo)).toArray } })
  (mM:items.size<=sizeLine):wpAny (model prog w) A (ub (.ref t) (.ref sl)) Q E s:=by
 have htake:sizeOk (.seq ((items.toList.drop (cE items.size 0 lo)).take (cE items.size items.size hi-cE items.size 0 lo)).toArray):=by
  show((items.toList.drop (cE items.size 0 lo)).take (cE items.size items.size hi-cE items.size 0 lo)).toArray.size<=sizeLine
  rw[ar,n5,sj,i5]
  omega
 have hj:cE items.size items.size hi<=items.size:=Bs _ _ (az _) hi
 obtain⟨os,hos,hcs,hds⟩:=id hs
 have hTs:s.TypeIs (.ref sl) "slice":=⟨os,hos,hcs⟩
 unfold ub
 try with_reducible refine jf ?_
 first|refine ae (ao ?_)|skip
 refine ae (rb ht.typeIs (by decide) ?_)
 refine ae (h9 (name:=jz "__getitem__") ht.typeIs gv
  (fe gv ht.typeIs wg ?_ (xi _ _)))
 show wpAny _ _ (gk (.ref t) >>= _) _ _ s
 refine ae (wx ht ?_)
 refine ae (uc hTs ?_)
 rw[if_pos (by decide)]
 refine ae (rN hs pl pu ?_)
 have hno:¬((((cE items.size 0 lo:Nat):Int)==0&&(1:Int)==1&&(cE items.size items.size hi-cE items.size 0 lo)==items.size)=true):=by
  intro q
  rw[aq,aq]at q
  have q1:((cE items.size 0 lo:Nat):Int)=0:=eq_of_beq q.1.1
  have q2:cE items.size items.size hi-cE items.size 0 lo=items.size:=eq_of_beq q.2
  exact hw ⟨by omega,by omega⟩
 show wpAny _ _ (if(((cE items.size 0 lo:Nat):Int)==0&&(1:Int)==1&&(cE items.size items.size hi-cE items.size 0 lo)==items.size)=true then _ else _) _ _ s
 rw[if_neg hno,TL]
 first
  |exact ae (m:=fx _) (gm (ao ⟨_,rfl,ao h⟩) htake)
  |exact ae (m:=fx _) (gm (ae (ao (ao ⟨_,rfl,ao h⟩))) htake)
  |exact ae (ae (m:=fx _) (gm (ao (ao ⟨_,rfl,ao h⟩)) htake))
  |exact ae (ae (m:=fx _) (gm (ao ⟨_,rfl,ao h⟩) htake))
end
end HT
namespace L2
open PySem PySem.Spec PyProof.Rows
noncomputable abbrev TO:=St->Hp->(Option Int->Hp->Prop)->Prop
noncomputable def PO (X:Cx)(e:Option Expr)(t:TO):Prop :=
 ∀(pins:List (Addr×Obj))(s:af)(σ:St)(H:Hp)(Q:Option Int->Hp->Prop),Inv X pins σ H s->t σ H Q ->
 wpAny (model X.prog X.w) X.A (evalPart e X.env) (fun u s'=>∃ o H',Inv X pins σ H' s'/\ua u o/\Q o H') X.xe s
noncomputable def W3:TO:=fun _ H Q=>Q none H
noncomputable def Ht (t:TE):TO:=fun σ H Q=>t σ H fun x H1=>∃ i,x=.int i/\Q (some i) H1
section
variable {X:Cx}{e:Expr}{te:TE}{lo hi:Option Expr}{tl th:TO}{pos p2:Pos}
theorem YI:PO X none W3:=by
 intro pins s σ H Q I h
 rw[Qe]
 exact ao ⟨none,H,I,.none,h⟩
theorem X1 (h:PE X e te):PO X (some e) (Ht te):=by
 intro pins s σ H Q I hw
 rw[evalPart_some]
 refine bB (h pins s σ H _ I hw) fun u s1 ⟨x,H1,I1,r1,q1⟩=>?_
 obtain⟨i,rfl,q⟩:=q1
 obtain⟨t,rfl⟩:=r1
 exact⟨some i,H1,I1,.int i t,q⟩
noncomputable def yJ (X:Cx)(r:V->Option Int->Option Int->Hp->VK->Prop):Prop :=
 ∀(pins:List (Addr×Obj))(s:af)(σ:St)(H:Hp)(x:V)(v vl vu:Value)(lo hi:Option Int)(sl:Addr)(Q:VK),Inv X pins σ H s->RelV x v->s.heap.IsSliceOf sl vl vu .none->ua vl lo->ua vu hi->r x lo hi H Q ->
 ∃ T id,qk (.type T) "__getitem__" = pure (some (.builtin id))/\s.TypeIs v T/\wpAny (model X.prog X.w) X.A (ub v (.ref sl)) (EP X pins σ Q) X.xe s
theorem yJ.or {r r':V->Option Int->Option Int->Hp->VK->Prop}(h:yJ X r)(h':yJ X r'):yJ X (fun x lo hi H Q=>r x lo hi H Q∨r' x lo hi H Q):=by
 intro pins s σ H x v vl vu lo hi sl Q I rx hs pl pu q
 rcases q with q|q
 ·exact h pins s σ H x v vl vu lo hi sl Q I rx hs pl pu q
 ·exact h' pins s σ H x v vl vu lo hi sl Q I rx hs pl pu q
noncomputable def Ol (r:V->Option Int->Option Int->Hp->VK->Prop)(te:TE)(tl th:TO):TE:=fun σ H Q=>te σ H fun x H1=>tl σ H1 fun l H2=>th σ H2 fun u H3=>r x l u H3 Q
theorem UC {r:V->Option Int->Option Int->Hp->VK->Prop}(hr:yJ X r)(he:PE X e te)(hl:PO X lo tl)(hu:PO X hi th):PE X (.Subscript e (.Slice lo hi none p2) pos) (Ol r te tl th):=by
 intro pins s σ H Q I h
 refine Subscript_ (bB (he pins s σ H _ I h) fun v s1 ⟨x,H1,I1,r1,q1⟩=>?_)
 refine wpAny_Slice (bB (hl pins s1 σ H1 _ I1 q1) fun vl s2 ⟨l,H2,I2,pl,q2⟩=>bB (hu pins s2 σ H2 _ I2 q2) fun vu s3 ⟨u,H3,I3,pu,q3⟩=>?_)
 rw[Qe]
 refine ao ?_
 have I4:Inv X pins σ H3 { s3 with heap:=s3.heap.push { cls:=.type "slice", data:=.fields #[vl,vu,.none] } }:=I3.kept (t':=s3.toks) fun b ob q=>ag _ q
 obtain⟨T,id,hT,ht,hg⟩:=hr pins { s3 with heap:=s3.heap.push { cls:=.type "slice", data:=.fields #[vl,vu,.none] } } σ H3 x v vl vu l u s3.heap.objs.size Q I4 r1 (Heap.IsSliceOf.new ..) pl pu q3
 show wpAny (model X.prog X.w) X.A (Qg e (.Slice lo hi none p2) v (.ref s3.heap.objs.size)) (EP X pins σ Q) X.xe { s3 with heap:=s3.heap.push { cls:=.type "slice", data:=.fields #[vl,vu,.none] } }
 exact tail_any (ops:=[.ref s3.heap.objs.size,v]) ht hT hg (by with_unfolding_all rfl)
noncomputable def DS (xs:List V)(lo hi:Option Int):List V:=(xs.drop (HT.cE xs.length 0 lo)).take (HT.cE xs.length xs.length hi-HT.cE xs.length 0 lo)
theorem AB (xs:List V)(lo hi:Option Int):(DS xs lo hi).length<=xs.length:=by
 unfold DS
 rw[n5,sj]
 omega
noncomputable def Dn (K:aa):V->Option Int->Option Int->Hp->VK->Prop:=fun x lo hi H Q=>∃ a xs,x=.ref a/\eI K H a xs /\
 ¬(HT.cE xs.length 0 lo=0/\HT.cE xs.length xs.length hi=xs.length)/\∀ p,H p=none->Q (.ref p) (upd H p (.tup (DS xs lo hi)))
theorem HB:yJ X (Dn X.K):=by
 intro pins s σ H x v vl vu lo hi sl Q I rx hs pl pu h
 obtain⟨a,xs,rfl,hx,hw,q⟩:=h
 cases rx
 obtain⟨aD,r,ht,hz⟩:=I.tuple hx
 have hlen:aD.toArray.size=xs.length:=by rw[ar];exact r.length.symm
 refine⟨"tuple", _,PyProof.Rows.slot_tuple_getitem.lookup,ht.typeIs,?_⟩
 refine HT.zN ht hs pl pu (by rw[hlen];exact hw) ?_ (by rw[hlen];exact hz)
 rw[hlen]
 refine⟨.ref s.heap.objs.size,_,I.laid (t':=s.toks) (o:=.tup (DS xs lo hi)) (fun b ob q=>ag _ q) (az _) ?_,rfl,q _ (I.bS.fresh (az _))⟩
 exact⟨Nat.le_trans (AB xs lo hi) hz,_,(r.drop (HT.cE xs.length 0 lo)).take (HT.cE xs.length xs.length hi-HT.cE xs.length 0 lo),pR.new _ _⟩
noncomputable def VM (K:aa):R2:=fun x y H Q=>∃ a b xs ys,x=.ref a/\y=.ref b/\eI K H a xs/\eI K H b ys/\xs≠[]/\xs.length+ys.length<=sizeLine /\
 (ys=[]->Q (.ref a) H)/\(ys≠[]->∀ p,H p=none->Q (.ref p) (upd H p (.tup (xs++ys))))
theorem aQ.zH {xs:List V}{us:List Value}(r:aQ xs us):us=[]↔xs=[]:=by
 cases r with
 |nil=>simp
 |cons _ _=>simp
theorem WQ:iA X (g6 .Add) (VM X.K):=by
 intro pins s σ H x y v u Q I rx ry h
 obtain⟨a,b,xs,ys,rfl,rfl,ha,hb,hx,hz,q1,q2⟩:=h
 cases rx
 cases ry
 obtain⟨aD,r1,p1,_⟩:=I.tuple ha
 obtain⟨nR,r2,p2,_⟩:=I.tuple hb
 refine HT.ZF p1 p2 (fun z=>hx (r1.zH.mp z)) (fun z=>⟨.ref a,H,I,rfl,q1 (r2.zH.mp z)⟩) (fun z=>?_) (by rw[<-r1.length,<-r2.length];exact hz)
 refine⟨.ref s.heap.objs.size,_,I.laid (t':=s.toks) (o:=.tup (xs++ys)) (fun b ob q=>ag _ q) (az _) ?_,rfl,q2 (fun w=>z (r2.zH.mpr w)) _ (I.bS.fresh (az _))⟩
 exact⟨by rw[bq];exact hz,_,r1.append r2,pR.new _ _⟩
end
end L2
namespace L2
open PySem PySem.Spec PyProof.Rows
noncomputable def nW (n:Nat)(i:Int):Option Nat:=if 0<=i then(if i<n then some i.toNat else none)else if -(n:Int)<=i then some (i+n).toNat else none
noncomputable def fQ {α:Type}(xs:List α)(i:Int):Option α:=(nW xs.length i).bind fun j=>xs[j]?
theorem ML {n:Nat}{i:Int}{j:Nat}(h:nW n i=some j):seqIndex? i n=some j/\j<n/\-(n:Int)<=i/\i<n:=by
 unfold nW at h
 by_cases h0:0<=i
 ·rw[if_pos h0]at h
  by_cases h1:i<n
  ·rw[if_pos h1]at h
   have e:i.toNat=j:=cz h
   exact⟨by rw[vm h0 h1,e],by omega,by omega,h1⟩
  ·rw[if_neg h1]at h;cases h
 ·rw[if_neg h0]at h
  by_cases h1 : -(n:Int)<=i
  ·rw[if_pos h1]at h
   have e:(i+n).toNat=j:=cz h
   exact⟨by rw[yf (by omega) h1,e],by omega,h1,by omega⟩
  ·rw[if_neg h1]at h;cases h
theorem DN {α:Type}{xs:List α}{i:Int}{v:α}(h:fQ xs i=some v):∃ j,seqIndex? i xs.length=some j/\xs[j]? = some v/\j<xs.length/\-(xs.length:Int)<=i/\i<xs.length:=by
 unfold fQ at h
 cases e:nW xs.length i with
 |none=>rw[e]at h;cases h
 |some j =>
 rw[e]at h
 obtain⟨h1,h2,h3,h4⟩:=ML e
 exact⟨j,h1,h,h2,h3,h4⟩
theorem dW {α:Type}{xs:List α}{j:Nat}{v:α}(h:xs[j]? = some v):fQ xs (j:Int)=some v:=by
 have hj:j<xs.length:=(List.getElem?_eq_some_iff.mp h).1
 have e:nW xs.length (j:Int)=some j:=by
  unfold nW
  rw[if_pos (by omega),if_pos (by omega)];simp
 unfold fQ;rw[e];exact h
noncomputable def tR (b:Expr):Prop:=∀ o i,subscripted b false o i=operate [o,i] (ub o i)
noncomputable def wN (X:Cx)(r:R2):Prop :=
 ∀(value slice:Expr)(pins:List (Addr×Obj))(s:af)(σ:St)(H:Hp)(x y:V)(v u:Value)(Q:VK),Inv X pins σ H s->RelV x v->RelV y u->r x y H Q ->
 subscripted slice false v u=operate [v,u] (ub v u)->wpAny (model X.prog X.w) X.A (Qg value slice v u) (EP X pins σ Q) X.xe s
noncomputable def VV (X:Cx)(id:String)(r:V->List V->Hp->VK->Prop):Prop :=
 ∀(pins:List (Addr×Obj))(s:af)(σ:St)(H:Hp)(x:V)(xs:List V)(v:Value)(us:List Value)(Q:VK),Inv X pins σ H s->RelV x v->aQ xs us->r x xs H Q ->
 wpAny (model X.prog X.w) X.A (call (.builtin id) (v::us)) (EP X pins σ Q) X.xe s
section
variable {X:Cx}{a b:Expr}{ta tb:TE}{pos:Pos}
theorem wN.or {r r':R2}(h:wN X r)(h':wN X r'):wN X (fun x y H Q=>r x y H Q∨r' x y H Q):=by
 intro value slice pins s σ H x y v u Q I rx ry q hs
 rcases q with q|q
 ·exact h value slice pins s σ H x y v u Q I rx ry q hs
 ·exact h' value slice pins s σ H x y v u Q I rx ry q hs
theorem VL {r:R2}(hr:wN X r)(ha:PE X a ta)(hb:PE X b tb)(hs:tR b):PE X (.Subscript a b pos) (ZV r ta tb):=by
 intro pins s σ H Q I h
 exact Subscript_ (Ag ha hb I h fun v u s2 x y H2 I2 rx ry q=>hr a b pins s2 σ H2 x y v u Q I2 rx ry q (hs _ _))
noncomputable def Fo (K:aa):R2:=fun x y H Q=>∃ p xs i v,x=.ref p/\y=.int i/\eH K H p xs/\fQ xs i=some v/\Q v H
noncomputable def Di (K:aa):R2:=fun x y H Q=>∃ p xs i v,x=.ref p/\y=.int i/\eI K H p xs/\fQ xs i=some v/\Q v H
noncomputable def Dp:R2:=fun x y H Q=>∃ z i c,x=.str z/\y=.int i/\z.length<=sizeLine/\fQ z.cps.toList i=some c/\Q (.str ⟨#[c]⟩) H
theorem WR:wN X (Fo X.K):=by
 intro value slice pins s σ H x y v u Q I rx ry h hs
 obtain⟨p,xs,i,z,rfl,rfl,hq,he,q⟩:=h
 cases rx
 obtain⟨t,rfl⟩:=ry
 obtain⟨aD,r,pl,hz⟩:=I.list hq
 obtain⟨j,h1,h2,h3,h4,h5⟩:=DN he
 obtain⟨w,ew,rw'⟩:=r.get h2
 have hl:=r.length
 have hn:=qN
 have fin:EP X pins σ Q w s:=⟨z,H,I,rw',q⟩
 by_cases h0:0<=i
 ·have hj:i.toNat=j:=by
   rw[vm h0 h5]at h1
   exact cz h1
  exact item_listR pl.isList h0 (by omega) (by rw[hj];simpa using ew) fin hs
 ·have hj:(i+(aD.toArray.size:Int)).toNat=j:=by
   rw[yf (by omega) h4]at h1
   rw[ar,<-hl]
   exact cz h1
  exact nk (x:=w) pl.isList.typeIs slot_list_getitem.lookup
   (wpAny_getItem_list_neg (Q:=fun r s'=>r=w/\EP X pins σ Q r s') pl.isList (by omega) (by rw[ar]<;>omega) (by omega) (by rw[hj];simpa using ew) ⟨rfl,fin⟩) hs
theorem kJ:wN X (Di X.K):=by
 intro value slice pins s σ H x y v u Q I rx ry h hs
 obtain⟨p,xs,i,z,rfl,rfl,hq,he,q⟩:=h
 cases rx
 obtain⟨t,rfl⟩:=ry
 obtain⟨aD,r,pl,hz⟩:=I.tuple hq
 obtain⟨j,h1,h2,h3,h4,h5⟩:=DN he
 obtain⟨w,ew,rw'⟩:=r.get h2
 have hl:=r.length
 have hn:=qN
 have fin:EP X pins σ Q w s:=⟨z,H,I,rw',q⟩
 exact nk (x:=w) pl.typeIs slot_tuple_getitem.lookup
  (getItem_tuple (j:=j) (Q:=fun r s'=>r=w/\EP X pins σ Q r s') pl (by omega) (by omega) (by rw[ar,<-hl];exact h1) (by simpa using ew) ⟨rfl,fin⟩) hs
theorem HS:wN X Dp:=by
 intro value slice pins s σ H x y v u Q I rx ry h hs
 obtain⟨z,i,c,rfl,rfl,hz,he,q⟩:=h
 obtain⟨t,rfl⟩:=rx
 obtain⟨t',rfl⟩:=ry
 obtain⟨j,h1,h2,h3,h4,h5⟩:=DN he
 have hl:z.cps.toList.length=z.length:=by simp [j2]
 rw[hl]at h1 h4 h5
 have hn:=qN
 exact tail_any (typeIs_str s z t) slot_str_getitem.lookup (getItem_str (c:=c) (by
 have e1:decide (i < -(2 ^ 63:Int))=false:=decide_eq_false (by omega)
 have e2:decide (i ≥ 2 ^ 63)=false:=decide_eq_false (by omega)
 rw[e1,e2,wy]) (by rw[h1];simpa using h2) ⟨.str ⟨#[c]⟩,H,I.tok _,⟨_,rfl⟩,q⟩) hs
noncomputable def Lj (K:aa):R2:=fun x y H Q=>Fo K x y H Q∨Di K x y H Q∨Dp x y H Q
theorem Ds:wN X (Lj X.K):=WR.or (kJ.or HS)
theorem NM (aD:List Value)(n j:Nat)(u:Value):jo (·.setIfInBounds j u) { cls:=.type "list", data:=.seq aD.toArray n } = { cls:=.type "list", data:=.seq (aD.set j u).toArray n }:=by
 simp [jo]
theorem Inv.lst {pins:List (Addr×Obj)}{σ:St}{H:Hp}{s:af}{p:Addr}{xs:List V}(I:Inv X pins σ H s)(h:H p=some (.lst xs)):
 ∃(aD:List Value)(n:Nat),aQ xs aD/\s.heap.get? p=some { cls:=.type "list", data:=.seq aD.toArray n }/\xs.length<=sizeLine:=by
 obtain⟨z,aD,n,r,e⟩:=I.bS p _ h
 exact⟨aD,n,r,e,z⟩
theorem Inv.ZT {pins:List (Addr×Obj)}{σ:St}{H:Hp}{s:af}{p:Addr}{xs ys:List V}{aD lG:List Value}{n n':Nat}{f:Obj->Obj}(I:Inv X pins σ H s)(h:H p=some (.lst xs))
  (ho:s.heap.get? p=some { cls:=.type "list", data:=.seq aD.toArray n })(hf:f { cls:=.type "list", data:=.seq aD.toArray n } = { cls:=.type "list", data:=.seq lG.toArray n' })(r:aQ ys lG)(hz:ys.length<=sizeLine)(t:Nat):
  Inv X pins σ (upd H p (.lst ys)) { s with heap:=s.heap.update p f,toks:=t }:=by
 have e:(s.heap.update p f).get? p=some { cls:=.type "list", data:=.seq lG.toArray n' }:=by
  rw[gw f ho (by rw[hf]<;>rfl),hf]
 refine I.write (x:=p) (e:=p) (by rw[h];trivial) (.inl rfl) (fun b u hb q=>(ff _ _ (jc hb)).trans q) ⟨_,e⟩ ?_
 exact⟨hz,lG,n',r,e⟩
noncomputable def Ij:V->V->V->Hp->(Hp->Prop)->Prop:=fun o i v H Q=>∃ p xs k j,o=.ref p/\i=.int k/\H p=some (.lst xs)/\nW xs.length k=some j/\Q (upd H p (.lst (xs.set j v)))
theorem set_list:Bw X Ij:=by
 intro pins s σ H o i v ov iv u Q I ro ri rv h
 obtain⟨p,xs,k,j,rfl,rfl,hp,hj,q⟩:=h
 cases ro
 obtain⟨t,rfl⟩:=ri
 obtain⟨aD,n,r,ho,hz⟩:=I.lst hp
 obtain⟨h1,h2,h3,h4⟩:=ML hj
 have hl:=r.length
 have hn:=qN
 have I':Inv X pins σ (upd H p (.lst (xs.set j v))) { s with heap:=s.heap.update p (jo (·.setIfInBounds j u)) } :=
  I.ZT hp ho (NM aD n j u) (r.set rv j) (by rw[zj];exact hz) s.toks
 by_cases h0:0<=k
 ·have hk:k.toNat=j:=by
   rw[vm h0 h4]at h1
   exact cz h1
  exact PySem.W.ki_setAt ho h0 (by omega) (by rw[ar,<-hl];exact h4) (by rw[hk];exact⟨_,I',q⟩)
 ·have hk:(k+(aD.toArray.size:Int)).toNat=j:=by
   rw[yf (by omega) h3]at h1
   rw[ar,<-hl]
   exact cz h1
  exact PySem.W.ki_setBack ho (by omega) (by rw[ar,<-hl];exact h3) (by omega) (by rw[hk];exact⟨_,I',q⟩)
theorem HM (lo hi:Option Int)(n:Nat):(mv lo hi none n).1=((HT.cE n 0 lo:Nat):Int)/\(mv lo hi none n).2.1=((HT.cE n n hi:Nat):Int)/\(mv lo hi none n).2.2=1:=by
 refine⟨?_,?_,rfl⟩
 ·cases lo with
 |none=>simp [mv,HT.cE]
 |some i =>
  simp only[mv,HT.cE,yq,show(1:Int)>0 by decide,if_true]
  by_cases h:i<0
  ·simp only[h,if_true]<;>omega
  ·simp only[h,if_false]<;>omega
 ·cases hi with
 |none=>simp [mv,HT.cE]
 |some i =>
  simp only[mv,HT.cE,yq,show(1:Int)>0 by decide,if_true]
  by_cases h:i<0
  ·simp only[h,if_true]<;>omega
  ·simp only[h,if_false]<;>omega
theorem GO (aD:List Value)(lo hi:Option Int):slicePick aD.toArray lo hi none=((aD.drop (HT.cE aD.length 0 lo)).take (HT.cE aD.length aD.length hi-HT.cE aD.length 0 lo)).toArray:=by
 obtain⟨h1,h2,h3⟩:=HM lo hi aD.toArray.size
 unfold slicePick
 rw[h1,h2,h3]
 simp only[sliceRange_one,pick_run,ar]<;>rfl
noncomputable def Ek (K:aa):V->Option Int->Option Int->Hp->VK->Prop:=fun x lo hi H Q=>∃ a xs,x=.ref a/\eH K H a xs/\∀ p,H p=none->Q (.ref p) (upd H p (.lst (DS xs lo hi)))
theorem XQ:yJ X (Ek X.K):=by
 intro pins s σ H x v vl vu lo hi sl Q I rx hs pl pu h
 obtain⟨a,xs,rfl,hx,q⟩:=h
 cases rx
 obtain⟨aD,r,ht,hz⟩:=I.list hx
 have hlen:=r.length
 refine⟨"list", _,slot_list_getitem.lookup,ht.isList.typeIs,?_⟩
 refine wpAny_getItem_list_slice ht.isList hs pl pu .none (by simp) ?_ (by rw[ar]<;>omega)
 rw[GO,<-hlen]
 refine⟨.ref s.heap.objs.size,_,I.laid (t':=s.toks) (o:=.lst (DS xs lo hi)) (fun b ob q=>ag _ q) (az _) ?_,rfl,q _ (I.bS.fresh (az _))⟩
 exact⟨Nat.le_trans (AB xs lo hi) hz,_,0,(r.drop (HT.cE xs.length 0 lo)).take (HT.cE xs.length xs.length hi-HT.cE xs.length 0 lo),bh _ rfl⟩
theorem HD:iA X (sd .NotIn) (fun x y H Q=>∃ i j,x=.str i/\y=.str j/\Q (.bl (!(!(mq j i 0 j.length 1).isEmpty))) H):=by
 intro pins s σ H x y v u Q I rx ry h
 obtain⟨i,j,rfl,rfl,q⟩:=h
 obtain⟨t,rfl⟩:=rx
 obtain⟨t',rfl⟩:=ry
 exact notIn_str ⟨.bl _,H,I,rfl,q⟩
theorem G9:vQ X (.type "list") (fun xs H Q=>∃ p ys,xs=[.ref p]/\(eH X.K H p ys∨eI X.K H p ys)/\∀ l,H l=none->Q (.ref l) (upd H l (.lst ys))):=by
 intro pins s σ H xs us Q I r h
 obtain⟨p,ys,rfl,hq,q⟩:=h
 obtain⟨u,rfl,rx⟩:=vals1 r
 cases rx
 have fin:∀(aD:List Value),aQ ys aD->ys.length<=sizeLine->∀(h':Heap)(c':Nat),(∀ b o',s.heap.get? b=some o'->h'.get? b=some o') ->
   h'.get? s.heap.objs.size=some { cls:=.type "list", dict:=none,data:=.seq aD.toArray c',slots:=#[] }->EP X pins σ Q (.ref s.heap.objs.size) { s with heap:=h' }:=fun aD r' hz h' c' kp e =>
  ⟨.ref s.heap.objs.size,_,I.laid (t':=s.toks) kp (az _) (show jK X.prog X.w _ h' _ (.lst ys)from⟨hz,aD,c',r',e⟩),rfl,q _ (I.bS.fresh (az _))⟩
 rcases hq with hq|hq
 ·obtain⟨aD,r',pl,hz⟩:=I.list hq
  have hlen:=r'.length
  obtain⟨o,ho,hc,n,hd⟩:=pl.isList
  exact Qh p (.inl rfl) ho hc hd (fun h' c' kp e=>fin aD r' hz h' c' kp e) (by simp only[ar]<;>omega)
 ·obtain⟨aD,r',pl,hz⟩:=I.tuple hq
  have hlen:=r'.length
  obtain⟨o,ho,hc,n,hd⟩:=pl
  exact Qh p (.inr rfl) ho hc hd (fun h' c' kp e=>fin aD r' hz h' c' kp e) (by simp only[ar]<;>omega)
theorem wK:vQ X (.type "tuple") (fun xs H Q=>∃ p ys,xs=[.ref p]/\((eH X.K H p ys/\∀ l,H l=none->Q (.ref l) (upd H l (.tup ys)))∨(eI X.K H p ys/\Q (.ref p) H))):=by
 intro pins s σ H xs us Q I r h
 obtain⟨p,ys,rfl,h⟩:=h
 obtain⟨u,rfl,rx⟩:=vals1 r
 cases rx
 rcases h with⟨hq,q⟩|⟨hq,q⟩
 ·obtain⟨aD,r',pl,hz⟩:=I.list hq
  have hlen:=r'.length
  refine call_tuple_list pl.isList (fun h' kp=>?_) (by simp only[ar]<;>omega)
  have I1:Inv X pins σ H { s with heap:=h' }:=I.kept (t':=s.toks) kp
  have I2:Inv X pins σ (upd H h'.objs.size (.tup ys)) { s with heap:=h'.push { cls:=.type "tuple", data:=.seq aD.toArray } } :=
   I1.laid (t':=s.toks) (fun b o e=>ag _ e) (az _) (show jK X.prog X.w _ _ _ (.tup ys)from⟨hz,aD,r',pR.new _ _⟩)
  exact⟨.ref h'.objs.size,_,I2,rfl,q _ (I1.bS.fresh (az _))⟩
 ·obtain⟨aD,r',pl,hz⟩:=I.tuple hq
  exact call_tuple_same pl ⟨.ref p,H,I,rfl,q⟩
noncomputable def PR (K:aa)(T:String)(x:V)(H:Hp):Prop:=match x with
 |.str _=>T ="str"
 |.int _=>T ="int"
 |.ref p=>(T ="list" /\ ∃ xs,eH K H p xs)∨(T ="tuple" /\ ∃ o,K.lookup p=some o/\o.cls=.type "tuple" /\ o.dict=none) ∨
  (T ="dict" /\ ((∃ iB,H p=some (.dK iB))∨∃ iB,H p=some (.dT iB)))∨(T ="set" /\ ∃ S n,H p=some (.set S n))
 |_=>False
theorem PU {pins:List (Addr×Obj)}{σ:St}{H:Hp}{s:af}{T:String}{x:V}{v:Value}(I:Inv X pins σ H s)(r:RelV x v)(ty:PR X.K T x H):
  s.TypeIs v T/\∀ a,v=.ref a->∃ ob,s.heap.get? a=some ob/\ob.dict=none:=by
 cases x with
 |str z =>
  obtain⟨t,rfl⟩:=r
  cases (show T ="str" from ty)
  exact⟨typeIs_str s z t,fun _ e=>nomatch e⟩
 |int i =>
  obtain⟨t,rfl⟩:=r
  cases (show T ="int" from ty)
  exact⟨typeIs_int s i t,fun _ e=>nomatch e⟩
 |ref p =>
  cases r
  rcases ty with⟨rfl,xs,hq⟩|⟨rfl,o,hk,hc,hd⟩|⟨rfl,hk⟩|⟨rfl,S,n,hk⟩
  ·obtain⟨aD,_,pl,_⟩:=I.list hq
   refine⟨pl.isList.typeIs,fun a e=>?_⟩
   cases e
   obtain⟨o,n,e,c,hd,_⟩:=pl
   exact⟨o,e,hd⟩
  ·refine⟨⟨o,I.iU p o hk,hc⟩,fun a e=>?_⟩
   cases e
   exact⟨o,I.iU _ o hk,hd⟩
  ·have z:∃ o,s.heap.get? p=some o/\o.ExactDict:=by
    rcases hk with⟨iB,hk⟩|⟨iB,hk⟩
    ·obtain⟨_,_,_,_,o,_,_,e,ex,_⟩:=I.bS p _ hk
     exact⟨o,e,ex⟩
    ·obtain⟨_,_,_,_,o,_,_,e,ex,_⟩:=I.bS p _ hk
     exact⟨o,e,ex⟩
   obtain⟨o,e,ex⟩:=z
   refine⟨⟨o,e,ex.1⟩,fun a e2=>?_⟩
   cases e2
   exact⟨o,e,ex.2.1⟩
  ·obtain⟨o,_,_,_,e,ex,_⟩:=I.bS p _ hk
   refine⟨⟨o,e,ex.1⟩,fun a e2=>?_⟩
   cases e2
   exact⟨o,e,ex.2.1⟩
 |_=>exact dv ty
noncomputable def Nm (K:aa)(T:String)(r:V->List V->Hp->VK->Prop)(to:TE):TE:=fun σ H Q=>to σ H fun x H1=>PR K T x H1/\r x [] H1 Q
noncomputable def Pn (K:aa)(T:String)(r:V->List V->Hp->VK->Prop)(to:TE)(t:TA):TE:=fun σ H Q=>to σ H fun x H1=>PR K T x H1/\t σ H1 fun xs H2=>r x xs H2 Q
variable {o e:Expr}{es:List Expr}{to:TE}{t:TA}{name:Str}{apos kE:Pos}{T id:String}{r:V->List V->Hp->VK->Prop}
theorem Ci (pa:PlainAttrs T)(slot:Slot T name id)(hty:Rt (.builtin id)=pure (.type "method_descriptor"))(hm:VV X id r)(ho:PE X o to)
 (jR:fw o name X.env (eval o X.env)=eval o X.env:=by rfl)(jS:(apos.endLine==kE.line)=true:=by rfl):PE X (.Call (.Attribute o name apos) [] [] kE) (Nm X.K T r to):=by
 intro pins s σ H Q I h
 refine wpAny_Call_method0_late jR jS (bB (ho pins s σ H _ I h) fun v s1 ⟨x,H1,I1,r1,ty,q1⟩=>?_)
 obtain⟨h1,h2⟩:=PU I1 r1 ty
 exact⟨T,id,pa,slot,hty,h1,h2,kh rfl (PySem.evalArgs_none (hm pins s1 σ H1 x [] v [] Q I1 r1 .nil q1))⟩
theorem Je (pa:PlainAttrs T)(slot:Slot T name id)(hty:Rt (.builtin id)=pure (.type "method_descriptor"))(hm:VV X id r)(ho:PE X o to)(ha:PA X (e::es) t)
 (jR:fw o name X.env (eval o X.env)=eval o X.env:=by rfl)
 (vZ:((dh kE (ah (e::es) X.env)).all (fun x=>!x.1)&&(ni kE (jx [] X.env)).all (fun x=>x.1.isSome)
  && decide ((e::es).length+([]:List qd).length+(if([]:List qd).isEmpty then 0 else 1)<30))=true:=by rfl)
 (jS:(apos.endLine==kE.line)=true:=by rfl)(hs:ah (e::es) X.env=(false,eval e X.env)::ah es X.env:=by rfl)(rR:(dh kE (ah es X.env)).any (·.1)=false:=by rfl):
 PE X (.Call (.Attribute o name apos) (e::es) [] kE) (Pn X.K T r to t):=by
 intro pins s σ H Q I h
 refine ud jR vZ jS rfl (bB (ho pins s σ H _ I h) fun v s1 ⟨x,H1,I1,r1,ty,q1⟩=>?_)
 obtain⟨h1,h2⟩:=PU I1 r1 ty
 refine⟨T,id,pa,slot,hty,h1,h2,?_⟩
 have hA:=ha kE pins s1 σ H1 _ I1 q1
 rw[hs]at hA ⊢
 refine kh (by show(false||(dh kE (ah es X.env)).any (·.1))=false;rw[rR]<;>rfl) (ot ?_)
 exact bB hA fun us s2 ⟨vs,H2,I2,r2,q2⟩=>hm pins s2 σ H2 x vs v us Q I2 r1 r2 q2
end
end L2
namespace L2
open PySem PySem.Spec PyProof.Rows
noncomputable def Bo (X:Cx)(id:String)(r:V->List V->Hp->VK->Prop):Prop :=
 ∀(pins:List (Addr×Obj))(s:af)(σ:St)(H:Hp)(x:V)(xs:List V)(v:Value)(us:List Value)(Q:VK),Inv X pins σ H s->RelV x v->aQ xs us->r x xs H Q ->
 wpAny (model X.prog X.w) X.A (call (.builtin id) (v::us)) (EP X pins σ Q) X.xe s
theorem aQ.one:∀{x:V}{us:List Value},aQ [x] us->∃ u,us=[u]/\RelV x u
 |_,_,.cons r .nil=>⟨_,rfl,r⟩
theorem aQ.zero:∀{us:List Value},aQ [] us->us=[]
 |_,.nil=>rfl
theorem aQ.dropLast {xs:List V}{us:List Value}(h:aQ xs us):aQ xs.dropLast us.dropLast:=by
 induction h with
 |nil=>exact .nil
 |cons r t ih =>
 cases t with
 |nil=>exact .nil
 |cons q t'=>exact .cons r ih
theorem aQ.reverse {xs:List V}{us:List Value}(h:aQ xs us):aQ xs.reverse us.reverse:=by
 induction h with
 |nil=>exact .nil
 |cons r t ih=>rw[ig,ig];exact aQ.append ih (.cons r .nil)
theorem aQ.rep {xs:List V}{us:List Value}(h:aQ xs us):∀ k:Nat,aQ (a9 k xs).flatten (a9 k us).flatten
 |0=>.nil
 |k+1=>by
  rw[i7,i7,kx,kx]
  exact aQ.append h (aQ.rep h k)
theorem OH {α:Type}(l:List α):l.eraseIdx (l.length-1)=l.dropLast:=by
 induction l with
 |nil=>rfl
 |cons a r ih =>
  cases r with
  |nil=>rfl
  |cons b r =>
   have e:(a::b::r).length-1=((b::r).length-1)+1:=by
    have h1:(a::b::r).length=r.length+2:=rfl
    have h2:(b::r).length=r.length+1:=rfl
    omega
   rw[e,List.eraseIdx_cons_succ,ih]
   all_goals rfl
theorem wc (aD:List Value):∀(k:Nat)(acc:List Value),
  oe (fun x1 x2=>x1++x2) acc.toArray (a9 k aD.toArray)=(acc++(a9 k aD).flatten).toArray
 |0,acc=>by simp
 |k+1,acc=>by
  have e:acc.toArray++aD.toArray=(acc++aD).toArray:=by simp
  have e2:(acc++aD)++(a9 k aD).flatten=acc++(a9 (k+1) aD).flatten:=by
   rw[i7,kx,nq]
  rw[<-e2,<-wc aD k (acc++aD),<-e,i7,pf]
section
variable {X:Cx}{pins:List (Addr×Obj)}{σ:St}{H:Hp}{s:af}{l b:Addr}{xs ys zs:List V}
theorem Inv.M6 {aD lG:List Value}{n:Nat}{f:Array Value->Array Value}{t':Nat}(I:Inv X pins σ H s)(hH:H l=some (.lst xs))
 (e:s.heap.get? l=some { cls:=.type "list", data:=.seq aD.toArray n })(hf:f aD.toArray=lG.toArray)(hv:aQ ys lG)(hz:ys.length<=sizeLine):
 Inv X pins σ (upd H l (.lst ys)) { s with heap:=s.heap.update l (jo f),toks:=t' }:=by
 have q:=PySem.IsL.update e f
 rw[hf]at q
 refine I.write (x:=l) (e:=l) (by rw[hH];exact trivial) (.inl rfl) (fun b' u hb hu=>(ff s.heap (jo f) (jc hb)).trans hu) ⟨_,q⟩ ?_
 exact⟨hz,lG,_,hv,q⟩
theorem Inv.U2 {aD:List Value}{t':Nat}(I:Inv X pins σ H s)(hv:aQ ys aD)(hz:ys.length<=sizeLine):
 Inv X pins σ (upd H s.heap.objs.size (.lst ys)) { s with heap:=s.heap.push { cls:=.type "list", data:=.seq aD.toArray },toks:=t' } :=
 I.laid (fun _ _ q=>ag _ q) (az _) ⟨hz,aD,0,hv,bh _ rfl⟩
theorem Inv.fresh (I:Inv X pins σ H s):H s.heap.objs.size=none:=I.bS.fresh (az _)
theorem Inv.vS (I:Inv X pins σ H s)(hH:H l=some (.lst xs)):xs.length<=sizeLine/\∃(aD:List Value)(n:Nat),aQ xs aD/\xs.length=aD.length/\s.heap.get? l=some { cls:=.type "list", data:=.seq aD.toArray n }:=by
 obtain⟨z,aD,n,r,e⟩:=I.bS l _ hH
 exact⟨z,aD,n,r,r.length,e⟩
theorem A7 {n:Nat}(h:n<=sizeLine):dw n=false:=by
 unfold dw
 exact decide_eq_false (by omega)
end
section
variable {X:Cx}
noncomputable def WS:V->List V->Hp->VK->Prop:=fun x vs H Q=>∃ l xs y,x=.ref l/\vs=[y]/\H l=some (.lst xs)/\xs.length<sizeLine/\Q .non (upd H l (.lst (xs++[y])))
theorem sP:Bo X "list.append" WS:=by
 intro pins s σ H x vs v us Q I rx rv h
 obtain⟨l,xs,y,rfl,rfl,hH,hz,q⟩:=h
 cases rx
 obtain⟨u,rfl,ru⟩:=rv.one
 obtain⟨z,aD,n,r,hl,e⟩:=I.vS hH
 refine mj F.slot_list_append ⟨_,e,rfl⟩ F.entry_list_append (F.args_list_append_2 _ _) (PySem.list_append l aD.toArray n u (by rw[ar];omega)) ⟨e,?_⟩
 refine⟨.non,_,I.M6 (lG:=aD++[u]) hH e (by simp) (r.append (.cons ru .nil)) ?_,rfl,q⟩
 rw[bq,List.length_singleton]
 omega
noncomputable def X9:V->List V->Hp->VK->Prop:=fun x vs H Q=>∃ l b xs zs,x=.ref l/\vs=[.ref b]/\H l=some (.lst xs)/\H b=some (.lst zs)/\xs.length+zs.length<=sizeLine/\Q .non (upd H l (.lst (xs++zs)))
theorem xQ:Bo X "list.extend" X9:=by
 intro pins s σ H x vs v us Q I rx rv h
 obtain⟨l,b,xs,zs,rfl,rfl,hH,hB,hz,q⟩:=h
 cases rx
 obtain⟨u,rfl,ru⟩:=rv.one
 cases ru
 obtain⟨z,aD,n,r,hl,e⟩:=I.vS hH
 obtain⟨z2,nR,n2,r2,hl2,e2⟩:=I.vS hB
 have mM:aD.toArray.size+nR.toArray.size<=sizeLine:=by rw[ar,ar];omega
 have hlong:¬(!aD.toArray.isEmpty&&dw (aD.toArray.size+nR.toArray.size))=true:=by
  rw[A7 mM,cg]
  exact ei
 refine mj xj ⟨_,e,rfl⟩ wj (vn _ _)
  (AutoSeq1.list_extend_list_list_0 l aD.toArray n b nR.toArray n2 hlong (by rw[ar];omega) (by omega)) ⟨e,e2,?_⟩
 refine⟨.non,_,I.M6 (lG:=aD++nR) hH e (by simp) (r.append r2) ?_,rfl,q⟩
 rw[bq]
 omega
noncomputable def Mi:V->List V->Hp->VK->Prop:=fun x vs H Q=>∃ l xs y,x=.ref l/\vs=[]/\H l=some (.lst xs)/\xs[xs.length-1]? = some y/\Q y (upd H l (.lst xs.dropLast))
theorem HI:Bo X "list.pop" Mi:=by
 intro pins s σ H x vs v us Q I rx rv h
 obtain⟨l,xs,y,rfl,rfl,hH,hy,q⟩:=h
 cases rx
 have hus:=rv.zero
 subst hus
 obtain⟨z,aD,n,r,hl,e⟩:=I.vS hH
 obtain⟨u,hu,ru⟩:=r.get hy
 have hy':aD.toArray[aD.toArray.size-1]? = some u:=by
  show aD.toArray[aD.length-1]? = some u
  rw[<-Array.getElem?_toList,<-hl]
  exact hu
 refine mj F.slot_list_pop ⟨_,e,rfl⟩ F.entry_list_pop (F.args_list_pop_1 _) (MeetsSeq.list_pop_last l aD.toArray n u hy' (by rw[ar];omega)) ⟨e,?_⟩
 refine⟨y,_,I.M6 (lG:=aD.dropLast) hH e ?_ r.dropLast ?_,ru,q⟩
 ·show aD.toArray.eraseIdxIfInBounds (aD.toArray.size-1)=aD.dropLast.toArray
  rw[ar,List.eraseIdxIfInBounds_toArray,OH]
 ·rw[List.length_dropLast]
  omega
noncomputable def Bu:R2:=fun x y H Q=>∃ l b xs zs,x=.ref l/\y=.ref b/\H l=some (.lst xs)/\H b=some (.lst zs)/\xs.length+zs.length<=sizeLine/\∀ p,H p=none->Q (.ref p) (upd H p (.lst (xs++zs)))
theorem Bv:iA X (g6 .Add) Bu:=by
 intro pins s σ H x y v u Q I rx ry h
 obtain⟨l,b,xs,zs,rfl,rfl,hH,hB,hz,q⟩:=h
 cases rx
 cases ry
 obtain⟨z,aD,n,r,hl,e⟩:=I.vS hH
 obtain⟨z2,nR,n2,r2,hl2,e2⟩:=I.vS hB
 refine PySem.P.add_list e e2 ?_ (by rw[ar,ar];omega)
 have ea:aD.toArray++nR.toArray=(aD++nR).toArray:=by simp
 rw[ea]
 exact⟨.ref _,_,I.U2 (t':=s.toks) (r.append r2) (by rw[bq];omega),rfl,q _ I.fresh⟩
noncomputable def Be:R2:=fun x y H Q=>∃ l k xs,x=.ref l/\y=.int k/\H l=some (.lst xs)/\-(2 ^ 63)<=k/\k<2 ^ 63/\xs.length*k.toNat<=sizeLine /\
 ∀ p,H p=none->Q (.ref p) (upd H p (.lst (a9 k.toNat xs).flatten))
theorem len_rep {α:Type}(xs:List α)(k:Nat):(a9 k xs).flatten.length=k*xs.length:=by
 induction k with
 |zero=>simp
 |succ k ih=>rw[i7,kx,bq,ih,Nat.succ_mul,Qv]
theorem Eh:iA X (g6 .Mult) Be:=by
 intro pins s σ H x y v u Q I rx ry h
 obtain⟨l,k,xs,rfl,rfl,hH,h1,h2,hz,q⟩:=h
 cases rx
 obtain⟨t,rfl⟩:=ry
 obtain⟨z,aD,n,r,hl,e⟩:=I.vS hH
 have hlen:aD.toArray.size*k.toNat<=sizeLine:=by rw[ar,<-hl];exact hz
 have hcap:¬aD.toArray.size*k.toNat>(2 ^ 63-1) / 8:=by
  have:(sizeLine:Nat)<=(2 ^ 63-1) / 8:=by decide
  omega
 have nS:¬(!Builtin.List.listFitsIndex k)=true:=by
  rw[zu h1 h2]
  exact ei
 have hlong:¬dw (aD.toArray.size*k.toNat)=true:=by
  rw[A7 hlen]
  exact ei
 have hnew:oe (fun x1 x2=>x1++x2) #[] (a9 (if aD.toArray.isEmpty=true then 0 else k.toNat) aD.toArray)=(a9 k.toNat aD).flatten.toArray:=by
  have f0:∀ m:Nat,oe (fun x1 x2=>x1++x2) #[] (a9 m aD.toArray)=(a9 m aD).flatten.toArray:=fun m=>by
   have:=wc aD m []
   rw[av]at this
   exact this
  rw[f0]
  cases aD with
  |nil=>simp
  |cons a r'=>rw[if_neg (by simp)]
 refine qt (T :="list") (U :="int") (by decide) ⟨_,e,rfl⟩ (fun s'=>xk s' k t) noFill_list_mul F.fills_int_mul zk repeat_list F.slot_int_index.lookup
  (mj zk (xk s k t) F.entry_int_rmul (F.args_int_rmul_2 _ _) (int___rmul___int_list k t l aD.toArray n)
   ⟨e,rfl,⟨_,e,rfl⟩,mj F.slot_list_mul ⟨_,e,rfl⟩ F.entry_list_mul (F.args_list_mul_2 _ _) (AutoListH.list___mul___list_int_3 l aD.toArray n k t nS hcap hlong) ⟨e,?_⟩⟩)
 rw[hnew]
 exact⟨.ref _,_,I.U2 (t':=s.toks) (r.rep k.toNat) (by rw[len_rep,Nat.mul_comm];exact hz),rfl,q _ I.fresh⟩
end
end L2
namespace Att
open PySem PySem.W PySem.Calls PyProof.Rows
theorem CT {P:Params}{h:Heap}:∀(ns:List Int)(vs:List Value),WellAll P h vs (ns.map WData.int)->ue vs ns:=by
 intro ns
 induction ns with
 |nil =>
 intro vs w
 rw[gz]at w
 cases w
 exact .nil
 |cons n ns ih =>
 intro vs w
 rw[aw]at w
 cases w with
 |cons a b =>
  cases a
  exact .cons _ _ (ih _ b)
theorem P1 {l:Ry}{n:Nat}(hn:l.most=some n){P:Params}{h:Heap}{args:List WData}{vals:List Value}
  (hpre:l.row.toRowW.claim.pre args=true)(hwl:WellAll P h vals args):
  ∃ a vs ns,vals=[gp a]/\args=[WData.list (ns.map WData.int)]/\h.get? a=some { cls:=.type "list", data:=.seq vs.toArray }/\ue vs ns/\ns.length<=n:=by
 have hsh:WShape.hasAll [] args [.list .int]=true:=(pre_splitW hpre).1
 have hc:l.pre.holds [] { args:=args }=true:=(pre_splitW hpre).2
 obtain⟨d,r,rfl,h1,h2⟩:=hasAllW_cons hsh
 obtain rfl:=hasAllW_nil h2
 obtain⟨xs,rfl,h3⟩:=hasW_list h1
 obtain⟨ns,rfl⟩:=items_int h3
 have hlen:ns.length<=n:=by
  unfold OpenLaw.pre at hc
  have h4:(WTm.not (.lt (.lit (.int (n:Int))) (.len (.arg 0)))).holds [] { args:=[.list (ns.map .int)] }=true:=by
   have h4:=(holds_andW hc).1
   rw[hn]at h4
   exact h4
  have h5:=condW_of h4 (w_not (w_lt w_lit (w_len_list (w_arg rfl))))
  rw[ab]at h5
  refine yr fun q=>?_
  have q':(n:Int)<((ns.length:Nat):Int):=by omega
  first
   |(rw[decide_eq_true q']at h5;exact absurd h5 (by decide))
   |(simp at h5;omega)
 cases hwl with
 |cons w1 w2 =>
  cases w2
  cases w1 with
  |list ho pZ=>exact⟨_,_,ns,rfl,rfl,ho,CT ns _ pZ,hlen⟩
theorem QO (l:Ry)(args:List WData):l.row.toRowW.claim.post args (.bool true) args=true :=
 postW_of (r:=l.row.toRowW) (X:=(true==true))
 (show WShape.has [] (.bool true) .bool=true by first|rfl|decide|simp [WShape.has,WShape.arms,WShape.armsAll])
 (show(WTm.eq .res (.lit (.bool true))).value [] { args:=args,res:=some (.bool true),after:=args }=some (.bool (true==true))from w_eq_bool (w_res rfl) w_lit) rfl
theorem KY {l:Ry}{n:Nat}{q:br}{loose:List Str}{XP:(Str->Option Value)->Heap->Prop}{YP:World->Heap->Prop}{d:DefRec}
 (hn:l.most=some n)(hdf:d.params.defaults=[])
 (call:∀(w:World)(s₀ s₁:af)(mg mb:Str->Option Value)(fa:Addr)(o:Obj)(pm cd doc:Value)(a:Addr)(vs:List Value)(ns:List Int),
  Ground q loose [] XP w s₀ mg mb s₁.heap->YP w s₁.heap ->
  s₁.heap.get? fa=some o->o.data=.func (docDef d.name d.params d.body d.scope pm cd doc)->s₁.heap.CodeRec cd d.name->mg d.name=some (.ref fa) ->
  s₁.heap.get? a=some { cls:=.type "list", data:=.seq vs.toArray }->ue vs ns->ns.length<=n->s₁.gens = #[] ->
  kf (model l.prog w) we (.call (.ref fa) ⟨[.ref a],[]⟩) (fun r s'=>r=.ok (.ret (.bool true))/\OldK s₁.heap s'.heap/\s'.os=s₁.os/\qy s'.gens) s₁):
 WalkO q loose XP YP l.row.toRowW d [] (fun f vs=>PySem.call f vs):=by
 intro w s₀ s₁ mg mb G Y fa o pm cd doc dV kV ho hd hcd hD hmg hg args vals as hpre hlay hrd hwl hlo
 obtain rfl:dV=.none:=Dflts.none hD hdf
 obtain rfl:kV=.none:=Dflts.noKw hD
 obtain⟨a,vs,ns,rfl,rfl,hobj,hints,hlen⟩:=P1 hn hpre hwl
 refine enter_call (kg (call w s₀ s₁ mg mb fa o pm cd doc a vs ns G Y ho (fd_plain hd) hcd hmg hobj hints hlen hg) fun r s' hq=>?_)
 obtain⟨rfl,h2,h3,h4⟩:=hq
 exact⟨.inl ⟨.bool true,.bool true,[],rfl,fun _=>rfl,.bool true,QO l _,fun _=>⟨List.Pairwise.nil,fun _ hm=>(nomatch hm)⟩⟩,h2,h3,h4⟩
end Att
namespace L2
open PySem PySem.Spec PyProof.Rows
theorem FE:∀{vs:List Value}{ns:List Int},ue vs ns->aQ (ns.map V.int) vs
 |_,_,.nil=>.nil
 |_,_,.cons n t h=>.cons ⟨t,rfl⟩ (FE h)
end L2
namespace L2
open PySem PySem.Spec PyProof.Rows
noncomputable def lA (s:Stmt):Arguments:=match s with
 |.FunctionDef _ a _ _ _ _ _ _ _ _=>a
 |_=>{ posonlyargs:=[],args:=[],vararg:=none,kwonlyargs:=[],kw_defaults:=[],kwarg:=none,defaults:=[] }
noncomputable def eU (s:Stmt):List Stmt:=match s with
 |.FunctionDef _ _ b _ _ _ _ _ _ _=>b
 |_=>[]
noncomputable def aJ (s:Stmt):Scope:=match s with
 |.FunctionDef _ _ _ _ _ _ sc _ _ _=>sc
 |_=>{ kind:=.function,names:=[],isGenerator:=false,isCoroutine:=false }
noncomputable abbrev dH:zT:=fun _ _ _ _ _ _=>False
noncomputable abbrev E0:XK:=fun _ _ _=>False
theorem GQ {X:Cx}:pC dH X E0:=fun _ _ _ _ _ _ _ h=>h.elim
structure xW (K:aa)(x qual:Str)(st:Stmt)(f:Addr)(fd:gj):Prop where
 ex:∃(oc:Value)(od:Option Addr)(kV doc pm:Value)(an:Option Addr)(bF ct:Value)(osl:Array (Option Value)),
 fd=gy x qual (lA st) (eU st) (aJ st) .none kV doc pm an bF ct/\K.lookup f=some ⟨oc,od,.func fd,osl⟩/\j6 K bF qual=true
 kp:ek K (.ref f)=true
section
variable {P:br}{w:World}{K:aa}{mg:Str->Option Value}{base:Heap}
theorem xW.ok {x qual:Str}{st:Stmt}{f:Addr}{fd:gj}{N ps:List Str}{k:Nat}{sp:Sp}(F:xW K x qual st f fd)(S:mL N ps (aJ st))(len:∀ vs H Q E,sp vs H Q E->vs.length=ps.length)
 (hbody:∀(bF:Value)(A:b7)(outer:List Env)(s:af)(H:Hp)(vs:List V)(Q:VK)(E:XK),cX k (A.deeper (ly qual (aJ st) s.heap.objs.size f bF))->sp vs H Q E ->
  ∃ t,kL (eV dH P w K mg base N qual (aJ st) f bF A outer s H E).iH (eU st) t/\t { nx:=fun _ H'=>Q .non H',rt:=Q } (start N vs) H):fF P w K mg base dH (k+1) f fd ps sp:=by
 obtain⟨oc,od,kV,doc,pm,an,bF,ct,osl,rfl,lk,hcd⟩:=F.ex
 refine VX lk hcd S len fun A outer s H vs Q E hr hsp=>?_
 obtain⟨t,h,q⟩:=hbody bF A outer s H vs Q E hr hsp
 exact⟨t,h.iH,q⟩
theorem xW.binds {x qual:Str}{st:Stmt}{f:Addr}{fd:gj}{ps:List Str}(F:xW K x qual st f fd)
 (h:∀(kV doc pm:Value)(an:Option Addr)(bF ct:Value)(us:List Value),us.length=ps.length->zr (gy x qual (lA st) (eU st) (aJ st) .none kV doc pm an bF ct) ⟨us,[]⟩=pure (ps.zip us)):Binds K fd ps []:=by
 obtain⟨oc,od,kV,doc,pm,an,bF,ct,osl,rfl,lk,hcd⟩:=F.ex
 exact .all (h kV doc pm an bF ct)
theorem CF {x qual:Str}{st:Stmt}{f:Addr}{oc:Value}{od an:Option Addr}{osl:Array (Option Value)}{kV doc pm bF ct:Value}(l:K.lookup f=some ⟨oc,od,.func (gy x qual (lA st) (eU st) (aJ st) .none kV doc pm an bF ct),osl⟩)
 (c:j6 K bF qual=true)(k:ek K (.ref f)=true):xW K x qual st f (gy x qual (lA st) (eU st) (aJ st) .none kV doc pm an bF ct):=⟨⟨oc,od,kV,doc,pm,an,bF,ct,osl,rfl,l,c⟩,k⟩
end
theorem OU {n:Nat}(h:n<=1000):n<sizeLine:=ql h (by decide)
section
variable {X:Cx}
theorem pv (i:Nat){x:Str}{pos:Pos}(hN:X.N[i]? = some x:=by rfl)(hv:VN X.env.scope x:=by first|exact Or.inl rfl|exact Or.inr (Or.inl rfl)|exact Or.inr (Or.inr rfl))(hd:(x==("__debug__" : Str))=false:=by decide)
 (hcd:(x==("__classdict__" : Str))=false:=by decide):PE X (.Name x pos) (S5 i):=O2 hN hv hd hcd
end
end L2
end
section
namespace L3
inductive D where
 |non|bl (b:Bool)|int (i:Int)|str (x:List Nat)|tup (ds:List D)|ref (a:Nat)|cV (ks vs:List D)|bI (ds:List D)|exc (c:Nat)
structure CK where
 c:Nat
 ln:Nat
 col:Nat
 q:List Nat
inductive MO where
 |lst (ds:List D)
 |dic (ks vs:List D)
 /-- an instance of the class of this name: aD attributes -/
 |ins (c:List Nat)(fs:List (List Nat×D))
 /-- a dict that is filled: aD keys are tuples of texts and of such tuples -/
 |tab (ks vs:List D)
 /-- a def that was made in a def: aD number, what it caught -/
 |fn (f:Nat)(cs:List D)
 /-- the table of a code -/
 |cod (κ:CK)
noncomputable abbrev aB:=Nat->Option MO
noncomputable def put (st:aB)(a:Nat)(o:MO):aB:=fun b=>if b=a then some o else st b
inductive tH where
 |add|sub|mul|fdiv|mod|pow
inductive qR where
 |eq|ne|lt|le|gt|ge|is_|isnot|in_|jT
inductive Ty where
 |int|str|bool|list|tuple|dict|err (c:Nat)
inductive BI where
 |len|all|any|max|min|sum|abs|list|tuple|int|str|bool|rS|sorted
inductive MT where
 |append|extend|pop|index|count|join|split|get|insert|remove
inductive IK where
 |range|zip|enum|rev|items|keys|values
inductive Ex where
 |c (d:D)|v (i:Nat)
 |tup (es:List Ex)|lst (es:List Ex)
 |bin (op:tH)(a b:Ex)|neg (a:Ex)
 |cmp (op:qR)(a b:Ex)|chain (op op':qR)(a b c:Ex)
 |and_ (a b:Ex)|or_ (a b:Ex)|not_ (a:Ex)|ite (c a b:Ex)
 |call (f:Nat)(es:List Ex)|bi (f:BI)(es:List Ex)|isi (a:Ex)(ts:List Ty)
 |cD (m:MT)(o:Ex)(es:List Ex)
 |ix (a b:Ex)|sl (a:Ex)(lo hi:List Ex)
 /-- f(g(..)), g what is walked on the spot -/
 |bit (f:BI)(k:IK)(es:List Ex)
 |comp (n:Nat)(aK:List Nat)(tg:List Nat)(one:Bool)(k:Option IK)(aD:List Ex)(ifs:List Ex)(elt:Ex)
 |dic (ks vs:List Ex)
 /-- o.f of an instance of the class c; C(..), f aD __init__; o.m(..), f the def -/
 |fld (c f:List Nat)(o:Ex)|mk (c:List Nat)(f:Nat)(es:List Ex)|mcl (c m:List Nat)(f:Nat)(o:Ex)(es:List Ex)
 /-- {}; k in d; d[k] -/
 |cv (i:Nat)(es:List Ex)|callL (f:Nat)(es:List Ex)(g:Nat)(aK:List Nat)(κ:CK)
 |dnew|d1 (k v:Ex)|din (neg:Bool)(k d:Ex)|dix (d k:Ex)
inductive Tg where
 |nm (i:Nat)|tp (is:List Nat)|ix (o i:Ex)|fl (c f:List Nat)(o:Ex)|dk (o i:Ex)
inductive Sx where
 |ex (e:Ex)|asg (t:Tg)(e:Ex)|aug (i:Nat)(op:tH)(e:Ex)
 |iff (c:Ex)(a b:List Sx)|whl (c:Ex)(b:List Sx)|hJ (t:Tg)(k:Option IK)(aD:List Ex)(b:List Sx)
 |ret (e:Ex)|brk|cnt|pass|rais (c:Nat)(es:List Ex)
 |tryy (b:List Sx)(c:Nat)(n:Option Nat)(h:List Sx)
structure Fn where
 np:Nat
 nl:Nat
 body:List Sx
structure Prog where
 fns:Nat->Option Fn
 /-- class c is class c' or stands under it -/
 sub:Nat->Nat->Bool
noncomputable abbrev St:=List (Option D)
noncomputable abbrev VK:=D->aB->Prop
noncomputable abbrev XK:=Nat->aB->Prop
noncomputable abbrev bE:=Nat->List D->aB->VK->XK->Prop
noncomputable abbrev bK:Nat:=16777216
noncomputable abbrev kW:Nat:=80
def W (x:String):List Nat:=x.toList.map Char.toNat
noncomputable def Ext (st aA:aB):Prop:=∀ a o,st a=some o->aA a=some o
noncomputable def eD (σ:St)(i:Nat)(Q:D->Prop):Prop:=match σ[i]? with
 |some (some d)=>Q d
 |_=>False
noncomputable def qH (σ:St):List Nat->(List D->Prop)->Prop
 |[],Q=>Q []
 |i::is,Q=>eD σ i fun d=>qH σ is fun ds=>Q (d::ds)
noncomputable def wX:D->aB->(Nat->Nat->List D->Prop)->Prop
 |.ref a,st,K=>match st a with
  |some (.fn f cs)=>K a f cs
  |_=>False
 |_,_,_=>False
noncomputable def del (st:aB)(a:Nat):aB:=fun b=>if b=a then none else st b
mutual
noncomputable def bN:D->D->Bool
 |.non,.non=>true
 |.bl a,.bl b=>a==b
 |.bl a,.int b=>(if a then 1 else 0)==b
 |.int a,.bl b=>a==(if b then 1 else 0)
 |.int a,.int b=>a==b
 |.str a,.str b=>a==b
 |.tup as,.tup bs=>gL as bs
 |_,_=>false
noncomputable def gL:List D->List D->Bool
 |[],[]=>true
 |a::as,b::bs=>bN a b&&gL as bs
 |_,_=>false
end
mutual
noncomputable def bC:D->Bool
 |.non=>true
 |.bl _=>true
 |.int _=>true
 |.str _=>true
 |.tup ds=>bM ds
 |_=>false
noncomputable def bM:List D->Bool
 |[]=>true
 |d::ds=>bC d&&bM ds
end
mutual
noncomputable def cJ:D->Nat
 |.tup ds=>cK ds+1
 |_=>0
noncomputable def cK:List D->Nat
 |[]=>0
 |d::ds=>max (cJ d) (cK ds)
end
noncomputable def plain (d:D):Prop:=bC d=true/\cJ d<=kW
noncomputable def tW (ds:List D):Prop:=bM ds=true/\cK ds<=kW
noncomputable def HZ:Option MO->Bool
 |some (.lst ds)=>bM ds&&decide (cK ds<=kW)
 |_=>false
mutual
noncomputable def fG (st:aB):D->Bool
 |.non=>true
 |.bl _=>true
 |.int _=>true
 |.str _=>true
 |.tup ds=>gX st ds
 |.ref a=>HZ (st a)
 |.bI ds=>bM ds&&decide (cK ds<=kW)
 |_=>false
noncomputable def gX (st:aB):List D->Bool
 |[]=>true
 |d::ds=>fG st d&&gX st ds
end
noncomputable def AQ:Option MO->Option MO->Bool
 |some (.lst xs),some (.lst ys)=>gL xs ys
 |_,_=>false
mutual
noncomputable def bO (st:aB):D->D->Bool
 |.non,.non=>true
 |.bl a,.bl b=>a==b
 |.bl a,.int b=>(if a then 1 else 0)==b
 |.int a,.bl b=>a==(if b then 1 else 0)
 |.int a,.int b=>a==b
 |.str a,.str b=>a==b
 |.tup as,.tup bs=>iP st as bs
 |.ref a,.ref b=>AQ (st a) (st b)
 |.bI xs,.ref b=>AQ (some (.lst xs)) (st b)
 |.ref a,.bI ys=>AQ (st a) (some (.lst ys))
 |.bI xs,.bI ys=>gL xs ys
 |_,_=>false
noncomputable def iP (st:aB):List D->List D->Bool
 |[],[]=>true
 |a::as,b::bs=>bO st a b&&iP st as bs
 |_,_=>false
end
noncomputable def plainS (st:aB)(d:D):Prop:=fG st d=true/\cJ d<=kW
noncomputable def dM (st:aB)(ds:List D):Prop:=gX st ds=true/\cK ds<=kW
noncomputable def VE (x y:D)(st:aB)(P:Bool->Prop):Prop:=plainS st x/\plainS st y/\P (bO st x y)
noncomputable def occurs (x:List Nat):List Nat->Bool
 |[]=>x.isEmpty
 |c::r=>x.isPrefixOf (c::r)||occurs x r
noncomputable def cF (st:aB)(a:Nat)(K:List D->Prop):Prop:=match st a with
 |some (.lst ds)=>K ds
 |_=>False
noncomputable def cZ {α:Type}(o:Option α)(K:α->Prop):Prop:=match o with
 |some x=>K x
 |none=>False
noncomputable def dQ (st:aB)(a:Nat)(K:List D->Prop)(M:List D->List D->Prop):Prop:=match st a with
 |some (.lst ds)=>K ds
 |some (.dic ks vs)=>M ks vs
 |_=>False
noncomputable def G4:D->D->aB->(Bool->Prop)->Prop
 |x,.tup ds,st,P=>plainS st x/\dM st ds/\P (ds.any fun d=>bO st d x)
 |x,.ref a,st,P=>dQ st a (fun ds=>plainS st x/\dM st ds/\P (ds.any fun d=>bO st d x)) fun ks _=>plain x/\tW ks/\P (ks.any fun d=>bN d x)
 |.str w,.cV ks _,_,P=>P (ks.any fun d=>bN d (.str w))
 |x,.bI ds,st,P=>plainS st x/\dM st ds/\P (ds.any fun d=>bO st d x)
 |.str w,.str z,_,P=>P (occurs w z)
 |_,_,_,_=>False
noncomputable def vC (f:Int->Int->Bool):D->D->(Bool->Prop)->Prop
 |.int i,.int j,P=>P (f i j)
 |_,_,_=>False
noncomputable def GR:D->Bool
 |.non=>true
 |_=>false
noncomputable def SN (b:Bool):D->Bool
 |.bl c=>c==b
 |_=>false
noncomputable def CN:D->D->(Bool->Prop)->Prop
 |x,.non,P=>P (GR x)
 |x,.bl b,P=>P (SN b x)
 |_,_,_=>False
noncomputable def dB:qR->D->D->aB->(Bool->Prop)->Prop
 |.eq,x,y,st,P=>VE x y st P
 |.ne,x,y,st,P=>VE x y st fun b=>P (!b)
 |.lt,x,y,_,P=>vC (fun i j=>decide (i<j)) x y P
 |.le,x,y,_,P=>vC (fun i j=>decide (i<=j)) x y P
 |.gt,x,y,_,P=>vC (fun i j=>decide (j<i)) x y P
 |.ge,x,y,_,P=>vC (fun i j=>decide (j<=i)) x y P
 |.is_,x,y,_,P=>CN x y P
 |.isnot,x,y,_,P=>CN x y fun b=>P (!b)
 |.in_,x,y,st,P=>G4 x y st P
 |.jT,x,y,st,P=>G4 x y st fun b=>P (!b)
noncomputable def oR (i:Int):Prop:=-18446744073709551616<i/\i<18446744073709551616
noncomputable def gE (ds:List D)(st:aB)(Q:VK):Prop:=ds.length<=bK/\∀ p,st p=none->Q (.ref p) (put st p (.lst ds))
noncomputable def iR:tH->D->D->aB->VK->Prop
 |.add,.int i,.int j,st,Q=>Q (.int (i+j)) st
 |.add,.str a,.str b,st,Q=>a.length+b.length<=bK/\Q (.str (a++b)) st
 |.add,.tup a,.tup b,st,Q=>a.length+b.length<=bK/\Q (.tup (a++b)) st
 |.add,.ref a,.ref b,st,Q=>cF st a fun xs=>cF st b fun ys=>gE (xs++ys) st Q
 |.sub,.int i,.int j,st,Q=>Q (.int (i-j)) st
 |.mul,.int i,.int j,st,Q=>(oR i∨oR j)/\Q (.int (i*j)) st
 |.mul,.ref a,.int k,st,Q=>cF st a fun xs=>xs.length*k.toNat<=bK/\(-9223372036854775808<=k/\k<9223372036854775808)/\gE (a9 k.toNat xs).flatten st Q
 |.mul,.tup xs,.int k,st,Q=>(0<xs.length/\xs.length<=1000/\1<=k/\k<1000)/\Q (.tup (a9 k.toNat xs).flatten) st
 |.fdiv,.int i,.int j,st,Q=>(0<j/\j<1073741824)/\Q (.int (i / j)) st
 |.mod,.int i,.int j,st,Q=>0<j/\Q (.int (i % j)) st
 |.pow,.int i,.int j,st,Q=>(0<=j/\j<=1000000/\i.natAbs<18446744073709551616)/\Q (.int (i ^ j.toNat)) st
 |_,_,_,_,_=>False
noncomputable def yD:D->aB->VK->Prop
 |.int i,st,Q=>Q (.int (-i)) st
 |_,_,_=>False
noncomputable def cA:List (List Nat×D)->List Nat->Option D
 |[],_=>none
 |(g,d)::r,f=>if g=f then some d else cA r f
noncomputable def qP (f:List Nat)(d:D):List (List Nat×D)->List (List Nat×D)
 |[]=>[(f,d)]
 |(g,x)::r=>if g=f then(g,d)::r else(g,x)::qP f d r
noncomputable def nB (st:aB)(a:Nat)(K:List Nat->List (List Nat×D)->Prop):Prop:=match st a with
 |some (.ins c fs)=>K c fs
 |_=>False
noncomputable def tabAt (st:aB)(a:Nat)(K:List D->List D->Prop):Prop:=match st a with
 |some (.tab ks vs)=>K ks vs
 |_=>False
noncomputable def pW (c f:List Nat):D->aB->VK->Prop
 |.ref a,st,Q=>nB st a fun c' fs=>c'=c/\cZ (cA fs f) fun d=>Q d st
 |_,_,_=>False
noncomputable def BW (c f:List Nat)(v:D):D->aB->(aB->Prop)->Prop
 |.ref a,st,Q=>nB st a fun c' fs=>c'=c/\fs.length<900/\Q (put st a (.ins c (qP f v fs)))
 |_,_,_=>False
mutual
noncomputable def iX:D->Bool
 |.str _=>true
 |.bl _=>true
 |.tup ds=>jM ds
 |_=>false
noncomputable def jM:List D->Bool
 |[]=>true
 |d::ds=>iX d&&jM ds
end
noncomputable def keyed:D->Prop
 |.tup ds=>jM ds=true/\cK ds<=7
 |_=>False
noncomputable def lS:List D->List D->D->Option D
 |k::ks,v::vs,x=>if bN k x then some v else lS ks vs x
 |_,_,_=>none
noncomputable def uQ (x:D):D->aB->(Bool->Prop)->Prop
 |.ref a,st,P=>tabAt st a fun ks _=>keyed x/\P (ks.any fun k=>bN k x)
 |_,_,_=>False
noncomputable def rP (x:D):D->aB->VK->Prop
 |.ref a,st,Q=>tabAt st a fun ks vs=>keyed x/\cZ (lS ks vs x) fun d=>Q d st
 |_,_,_=>False
noncomputable def AM (x v:D):D->aB->(aB->Prop)->Prop
 |.ref a,st,Q=>tabAt st a fun ks vs=>keyed x/\(ks.any fun k=>bN k x)=false/\ks.length<10000/\Q (put st a (.tab (ks++[x]) (vs++[v])))
 |_,_,_=>False
noncomputable def DU (c m:List Nat):D->aB->Prop
 |.ref a,st=>nB st a fun c' fs=>c'=c/\cA fs m=none
 |_,_=>False
noncomputable def eB:D->aB->(Bool->Prop)->Prop
 |.non,_,P=>P false
 |.bl b,_,P=>P b
 |.int i,_,P=>P (i != 0)
 |.str x,_,P=>x.length<=bK/\P (!x.isEmpty)
 |.tup ds,_,P=>P (!ds.isEmpty)
 |.ref a,st,P=>dQ st a (fun ds=>P (!ds.isEmpty)) fun ks _=>P (!ks.isEmpty)
 |.bI ds,_,P=>P (!ds.isEmpty)
 |_,_,_=>False
noncomputable def iM (sub:Nat->Nat->Bool):D->aB->Ty->(Bool->Prop)->Prop
 |.non,_,_,P=>P false
 |.bl _,_,.bool,P=>P true
 |.bl _,_,.int,P=>P true
 |.bl _,_,_,P=>P false
 |.int _,_,.int,P=>P true
 |.int _,_,_,P=>P false
 |.str _,_,.str,P=>P true
 |.str _,_,_,P=>P false
 |.tup _,_,.tuple,P=>P true
 |.tup _,_,_,P=>P false
 |.ref a,st,.list,P=>dQ st a (fun _=>P true) fun _ _=>P false
 |.ref a,st,.dict,P=>dQ st a (fun _=>P false) fun _ _=>P true
 |.ref a,st,_,P=>dQ st a (fun _=>P false) fun _ _=>P false
 |.bI _,_,.list,P=>P true
 |.bI _,_,_,P=>P false
 |.exc c,_,.err c',P=>P (sub c c')
 |_,_,_,_=>False
noncomputable def vI (sub:Nat->Nat->Bool)(d:D)(st:aB):List Ty->(Bool->Prop)->Prop
 |[],_=>False
 |[t],P=>iM sub d st t P
 |t::u::ts,P=>iM sub d st t fun b=>if b=true then P true else vI sub d st (u::ts) P
noncomputable def nW (n:Nat)(i:Int):Option Nat:=if 0<=i then(if i<n then some i.toNat else none)else if -(n:Int)<=i then some (i+n).toNat else none
noncomputable def fQ {α:Type}(xs:List α)(i:Int):Option α:=(nW xs.length i).bind fun j=>xs[j]?
noncomputable def uZ:List D->List D->D->Option D
 |k::ks,v::vs,x=>if bN k x then some v else uZ ks vs x
 |_,_,_=>none
noncomputable def lC:D->D->aB->VK->Prop
 |.tup ds,.int i,st,Q=>cZ (fQ ds i) fun d=>Q d st
 |.bI ds,.int i,st,Q=>cZ (fQ ds i) fun d=>Q d st
 |.str z,.int i,st,Q=>z.length<=bK/\cZ (fQ z i) fun c=>Q (.str [c]) st
 |.cV ks vs,.str w,st,Q=>cZ (uZ ks vs (.str w)) fun d=>Q d st
 |.ref a,y,st,Q=>dQ st a (fun ds=>match y with
  |.int i=>cZ (fQ ds i) fun d=>Q d st
  |_=>False) fun ks vs=>plain y/\tW ks/\cZ (uZ ks vs y) fun d=>Q d st
 |_,_,_,_=>False
noncomputable def cE (n d:Nat):Option Int->Nat
 |none=>d
 |some v=>if v<0 then(v+(n:Int)).toNat else min v.toNat n
noncomputable def cut {α:Type}(xs:List α)(lo hi:Option Int):List α:=(xs.drop (cE xs.length 0 lo)).take (cE xs.length xs.length hi-cE xs.length 0 lo)
noncomputable def oM:List D->(Option Int->Prop)->Prop
 |[],P=>P none
 |[.int i],P=>P (some i)
 |_,_=>False
noncomputable def B5:D->Option Int->Option Int->aB->VK->Prop
 |.tup ds,lo,hi,st,Q=>Q (.tup (cut ds lo hi)) st
 |.ref a,lo,hi,st,Q=>cF st a fun ds=>∀ p,st p=none->Q (.ref p) (put st p (.lst (cut ds lo hi)))
 |_,_,_,_,_=>False
noncomputable def dP:D->aB->(List Nat->List D->Prop)->Prop
 |.tup ds,_,K=>K [] ds
 |.ref a,st,K=>cF st a fun ds=>K [a] ds
 |.bI ds,_,K=>K [] ds
 |_,_,_=>False
noncomputable def oP:D->aB->(List Nat->List D->Prop)->Prop
 |.tup ds,_,K=>K [] ds
 |.str x,_,K=>x.length<=bK/\K [] (x.map fun c=>.str [c])
 |.ref a,st,K=>cF st a fun ds=>K [a] ds
 |.bI ds,_,K=>K [] ds
 |_,_,_=>False
noncomputable def zip2:List D->List D->List D
 |x::xs,y::ys=>.tup [x,y]::zip2 xs ys
 |_,_=>[]
noncomputable def VD:Nat->List D->List D
 |_,[]=>[]
 |i,x::xs=>.tup [.int i,x]::VD (i+1) xs
noncomputable def dX (lo:Int)(n:Nat):List D:=(ai n).map fun k=>.int (lo+(k:Nat))
noncomputable def oC (hi:Int)(n:Nat):List D:=(ai n).map fun k=>.int (hi-(k:Nat))
noncomputable def dC (i:Int):Prop:=-4611686018427387904<=i/\i<4611686018427387904
noncomputable def gG:Option IK->List D->aB->(List Nat->List D->Prop)->Prop
 |none,[x],st,P=>oP x st P
 |some .range,[.int j],_,P=>dC j/\P [] (dX 0 j.toNat)
 |some .range,[.int i,.int j],_,P=>dC i/\dC j/\P [] (dX i (j-i).toNat)
 |some .range,[.int i,.int j,.int c],_,P=>c = -1/\dC i/\dC j/\P [] (oC i (i-j).toNat)
 |some .zip,[.ref a,.ref b],st,P=>cF st a fun xs=>cF st b fun ys=>P [a,b] (zip2 xs ys)
 |some .enum,[.ref a],st,P=>cF st a fun xs=>P [a] (VD 0 xs)
 |some .rev,[x],st,P=>dP x st fun as xs=>P as xs.reverse
 |_,_,_,_=>False
noncomputable def boolsOf:List D->Option (List Bool)
 |[]=>some []
 |.bl b::r=>(boolsOf r).map (b :: ·)
 |_=>none
noncomputable def intsOf:List D->Option (List Int)
 |[]=>some []
 |.int i::r=>(intsOf r).map (i :: ·)
 |_=>none
noncomputable def pU:D->aB->(Nat->Prop)->Prop
 |.tup ds,_,P=>P ds.length
 |.str x,_,P=>x.length<=bK/\P x.length
 |.ref a,st,P=>dQ st a (fun ds=>P ds.length) fun ks _=>P ks.length
 |.bI ds,_,P=>P ds.length
 |_,_,_=>False
noncomputable def Aj:Int->List Int->Int
 |m,[]=>m
 |m,i::r=>Aj (if i>m then i else m) r
noncomputable def Ae:Int->List Int->Int
 |m,[]=>m
 |m,i::r=>Ae (if i<m then i else m) r
noncomputable def eR:BI->List D->aB->VK->Prop
 |.all,xs,st,Q=>cZ (boolsOf xs) fun bs=>Q (.bl (bs.all id)) st
 |.any,xs,st,Q=>cZ (boolsOf xs) fun bs=>Q (.bl (bs.any id)) st
 |.max,xs,st,Q=>cZ (intsOf xs) fun is=>match is with
  |i::r=>Q (.int (Aj i r)) st
  |[]=>False
 |.min,xs,st,Q=>cZ (intsOf xs) fun is=>match is with
  |i::r=>Q (.int (Ae i r)) st
  |[]=>False
 |.sum,xs,st,Q=>cZ (intsOf xs) fun is=>Q (.int is.sum) st
 |.list,xs,st,Q=>gE xs st Q
 |.tuple,xs,st,Q=>xs.length<=bK/\Q (.tup xs) st
 |_,_,_,_=>False
noncomputable def strsOf:List D->Option (List (List Nat))
 |[]=>some []
 |.str w::r=>(strsOf r).map (w :: ·)
 |_=>none
noncomputable def wR:List (List Nat)->List (List Nat)->Nat
 |_,[]=>0
 |seen,w::r=>(if seen.any (·== w)then 0 else 1)+wR (seen++[w]) r
noncomputable def gP:BI->List D->aB->VK->Prop
 |.len,[d],st,Q=>pU d st fun n=>Q (.int (n:Nat)) st
 |.rS,[.tup ds],st,Q=>cZ (strsOf ds) fun ws=>ws.length<4000/\Q (.int (wR [] ws:Nat)) st
 |.max,[.int i,.int j],st,Q=>Q (.int (if j>i then j else i)) st
 |.min,[.int i,.int j],st,Q=>Q (.int (if j<i then j else i)) st
 |.abs,[.int i],st,Q=>Q (.int (if i<0 then -i else i)) st
 |.int,[.int i],st,Q=>Q (.int i) st
 |.int,[.bl b],st,Q=>Q (.int (if b then 1 else 0)) st
 |.bool,[.int i],st,Q=>Q (.bl (i != 0)) st
 |.bool,[.bl b],st,Q=>Q (.bl b) st
 |f,[d],st,Q=>dP d st fun _ xs=>eR f xs st Q
 |_,_,_,_=>False
noncomputable def xD:D->aB->(List D->Prop)->Prop
 |.tup ds,_,K=>K ds
 |.ref a,st,K=>cF st a K
 |_,_,_=>False
noncomputable def findD (st:aB)(d:D):List D->Option Nat
 |[]=>none
 |e::r=>if bO st e d=true then some 0 else(findD st d r).map (·+ 1)
noncomputable def jO:MT->D->List D->aB->VK->Prop
 |.append,.ref a,[d],st,Q=>cF st a fun xs=>xs.length<bK/\Q .non (put st a (.lst (xs++[d])))
 |.extend,.ref a,[d],st,Q=>cF st a fun xs=>xD d st fun ys=>xs.length+ys.length<=bK/\Q .non (put st a (.lst (xs++ys)))
 |.pop,.ref a,[],st,Q=>cF st a fun xs=>cZ (xs[xs.length-1]?) fun d=>Q d (put st a (.lst xs.dropLast))
 |.index,x,[d],st,Q=>dP x st fun _ ds=>plainS st d/\dM st ds/\cZ (findD st d ds) fun i=>Q (.int (i:Nat)) st
 |_,_,_,_,_=>False
noncomputable def yG:MT->D->aB->Prop
 |.append,.ref a,st=>cF st a fun _=>True
 |.extend,.ref a,st=>cF st a fun _=>True
 |.pop,.ref a,st=>cF st a fun _=>True
 |.index,x,st=>dP x st fun _ _=>True
 |_,_,_=>False
noncomputable def kF:Bool->List Nat->D->St->(St->Prop)->Prop
 |true,[i],x,σ,P=>P (σ.set i (some x))
 |false,is,.tup ds,σ,P=>ds.length=is.length/\P ((is.zip ds).foldl (fun σ p=>σ.set p.1 (some p.2)) σ)
 |_,_,_,_,_=>False
noncomputable def jN (g:aB->Prop)(turn:D->aB->(Option D->aB->Prop)->Prop):List D->List D->aB->(List D->aB->Prop)->Prop
 |[],acc,st,R=>g st/\R acc st
 |x::xs,acc,st,R=>g st/\acc.length<bK/\turn x st fun o aA=>jN g turn xs (match o with|none=>acc|some d=>acc++[d]) aA R
noncomputable def same (as:List Nat)(st aA:aB):Prop:=∀ a∈as,aA a=st a
mutual
noncomputable def aI (C:bE)(sub:Nat->Nat->Bool)(E:XK):Ex->St->aB->VK->Prop
 |.c d,_,st,Q=>Q d st
 |.v i,σ,st,Q=>eD σ i fun d=>Q d st
 |.tup es,σ,st,Q=>bL C sub E es σ st fun ds aA=>Q (.tup ds) aA
 |.lst es,σ,st,Q=>bL C sub E es σ st fun ds aA=>gE ds aA Q
 |.bin op a b,σ,st,Q=>aI C sub E a σ st fun x aC=>aI C sub E b σ aC fun y aF=>iR op x y aF Q
 |.neg a,σ,st,Q=>aI C sub E a σ st fun x aC=>yD x aC Q
 |.cmp op a b,σ,st,Q=>aI C sub E a σ st fun x aC=>aI C sub E b σ aC fun y aF=>dB op x y aF fun k=>Q (.bl k) aF
 |.chain op op' a b c,σ,st,Q=>aI C sub E a σ st fun x aC=>aI C sub E b σ aC fun y aF=>dB op x y aF fun k =>
  if k=true then aI C sub E c σ aF fun z aU=>dB op' y z aU fun k=>Q (.bl k) aU else Q (.bl false) aF
 |.and_ a b,σ,st,Q=>aI C sub E a σ st fun x aC=>eB x aC fun k=>if k=true then aI C sub E b σ aC Q else Q x aC
 |.or_ a b,σ,st,Q=>aI C sub E a σ st fun x aC=>eB x aC fun k=>if k=true then Q x aC else aI C sub E b σ aC Q
 |.not_ a,σ,st,Q=>aI C sub E a σ st fun x aC=>eB x aC fun k=>Q (.bl (!k)) aC
 |.ite c a b,σ,st,Q=>aI C sub E c σ st fun x aC=>eB x aC fun k=>if k=true then aI C sub E a σ aC Q else aI C sub E b σ aC Q
 |.call f es,σ,st,Q=>bL C sub E es σ st fun ds aA=>C f ds aA Q E
 |.bi f es,σ,st,Q=>bL C sub E es σ st fun ds aA=>gP f ds aA Q
 |.isi a ts,σ,st,Q=>aI C sub E a σ st fun x aC=>vI sub x aC ts fun k=>Q (.bl k) aC
 |.cD m o es,σ,st,Q=>aI C sub E o σ st fun x aC=>yG m x aC/\bL C sub E es σ aC fun ds aF=>jO m x ds aF Q
 |.ix a b,σ,st,Q=>aI C sub E a σ st fun x aC=>aI C sub E b σ aC fun y aF=>lC x y aF Q
 |.sl a lo hi,σ,st,Q=>aI C sub E a σ st fun x aC=>bL C sub E lo σ aC fun ls aF=>oM ls fun l=>bL C sub E hi σ aF fun hs aU=>oM hs fun h=>B5 x l h aU Q
 |.bit f k es,σ,st,Q=>bL C sub E es σ st fun ds aC=>gG (some k) ds aC fun _ xs=>eR f xs aC Q
 |.comp n aK tg one k aD ifs elt,σ,st,Q=>bL C sub E aD σ st fun ds aC=>gG k ds aC fun as xs =>
  jN (same as aC) (fun x aF K=>kF one tg x (a9 n none++aK.map fun i=>(σ[i]?).getD none) fun σ' =>
  iC C sub E ifs σ' aF fun b aU=>if b=true then aI C sub E elt σ' aU fun d cN=>K (some d) cN else K none aU) xs [] aC fun ds eJ=>gE ds eJ Q
 |.dic _ _,_,_,_=>False
 |.fld c f o,σ,st,Q=>aI C sub E o σ st fun x aC=>pW c f x aC Q
 |.mk c f es,σ,st,Q=>bL C sub E es σ st fun ds aC=>∀ p,aC p=none->C f (.ref p::ds) (put aC p (.ins c [])) (fun d aF=>d=.non/\Q (.ref p) aF) E
 |.mcl c m f o es,σ,st,Q=>aI C sub E o σ st fun x aC=>DU c m x aC/\bL C sub E es σ aC fun ds aF=>C f (x::ds) aF Q E
 |.cv i es,σ,st,Q=>eD σ i fun d=>wX d st (fun _ _ _=>True)/\bL C sub E es σ st fun ds aA=>wX d aA fun a f cs=>C f (cs++ds) (del aA a) (fun d2 aF=>Q d2 (put aF a (.fn f cs))) (fun c aF=>E c (put aF a (.fn f cs)))
 |.callL f es g aK κ,σ,st,Q=>bL C sub E es σ st fun ds aC=>(∃ P,aC P=some (.cod κ))/\qH σ aK fun cs=>∀ a,aC a=none->C f (ds++[.ref a]) (put aC a (.fn g cs)) (fun d aF=>Q d (del aF a)) (fun c aF=>E c (del aF a))
 |.dnew,σ,st,Q=>∀ p,st p=none->Q (.ref p) (put st p (.tab [] []))
 |.d1 k v,σ,st,Q=>∀ p,st p=none->aI C sub E k σ (put st p (.tab [] [])) fun x aC=>aI C sub E v σ aC fun y aF=>AM x y (.ref p) aF fun aU=>Q (.ref p) aU
 |.din neg k d,σ,st,Q=>aI C sub E k σ st fun x aC=>aI C sub E d σ aC fun y aF=>uQ x y aF fun b=>Q (.bl (if neg=true then !b else b)) aF
 |.dix d k,σ,st,Q=>aI C sub E d σ st fun y aC=>aI C sub E k σ aC fun x aF=>rP x y aF Q
noncomputable def bL (C:bE)(sub:Nat->Nat->Bool)(E:XK):List Ex->St->aB->(List D->aB->Prop)->Prop
 |[],_,st,Q=>Q [] st
 |e::es,σ,st,Q=>aI C sub E e σ st fun d aA=>bL C sub E es σ aA fun ds aS=>Q (d::ds) aS
/-- all tests, one after another -/
noncomputable def iC (C:bE)(sub:Nat->Nat->Bool)(E:XK):List Ex->St->aB->(Bool->aB->Prop)->Prop
 |[],_,st,Q=>Q true st
 |e::es,σ,st,Q=>aI C sub E e σ st fun d aA=>eB d aA fun k=>if k=true then iC C sub E es σ aA Q else Q false aA
end
structure gM where
 nx:St->aB->Prop
 rt:D->aB->Prop
 bk:St->aB->Prop
 ct:St->aB->Prop
 ex:Nat->St->aB->Prop
noncomputable def notRef:D->Prop
 |.ref _=>False
 |_=>True
noncomputable def A5:D->D->D->aB->(aB->Prop)->Prop
 |.ref a,.int k,v,st,Q=>cF st a fun xs=>cZ (nW xs.length k) fun j=>Q (put st a (.lst (xs.set j v)))
 |_,_,_,_,_=>False
noncomputable def mW (C:bE)(sub:Nat->Nat->Bool)(E:XK):Tg->D->St->aB->(St->aB->Prop)->Prop
 |.nm i,d,σ,st,Q=>Q (σ.set i (some d)) st
 |.tp is,d,σ,st,Q=>kF false is d σ fun σ'=>Q σ' st
 |.ix o i,d,σ,st,Q=>aI C sub E o σ st fun x aC=>aI C sub E i σ aC fun y aF=>A5 x y d aF fun aU=>Q σ aU
 |.fl c f o,d,σ,st,Q=>aI C sub E o σ st fun x aC=>BW c f d x aC fun aF=>Q σ aF
 |.dk o i,d,σ,st,Q=>aI C sub E o σ st fun x aC=>aI C sub E i σ aC fun y aF=>AM y d x aF fun aU=>Q σ aU
noncomputable def xB (g:aB->Prop)(turn:D->(St->aB->Prop)->St->aB->Prop)(N:St->aB->Prop):List D->St->aB->Prop
 |[],σ,st=>g st/\N σ st
 |x::xs,σ,st=>g st/\turn x (xB g turn N xs) σ st
noncomputable def pJ (turn:(St->aB->Prop)->St->aB->Prop):Nat->St->aB->Prop
 |0,_,_=>False
 |n+1,σ,st=>turn (pJ turn n) σ st
noncomputable def J1 (n:Option Nat)(o:Option D)(σ:St):St:=match n with
 |some i=>σ.set i o
 |none=>σ
noncomputable def Nh (sub:Nat->Nat->Bool)(c:Nat)(n:Option Nat)(P:gM)(h:gM->St->aB->Prop):gM :=
 ⟨P.nx,P.rt,P.bk,P.ct,fun c' σ' aA=>if sub c' c=true then
 h ⟨fun σ2 aF=>P.nx (J1 n none σ2) aF,P.rt,fun _ _=>False,fun _ _=>False,fun _ _ _=>False⟩ (J1 n (some (.exc c')) σ') aA else P.ex c' σ' aA⟩
noncomputable def KP:bE:=fun _ _ _ _ _=>False
mutual
noncomputable def wpS (C:bE)(sub:Nat->Nat->Bool):Sx->gM->St->aB->Prop
 |.ex e,P,σ,st=>aI C sub (fun c aA=>P.ex c σ aA) e σ st fun _ aA=>P.nx σ aA
 |.asg t e,P,σ,st=>aI C sub (fun c aA=>P.ex c σ aA) e σ st fun d aA=>mW C sub (fun c aA=>P.ex c σ aA) t d σ aA P.nx
 |.aug i op e,P,σ,st=>eD σ i fun x=>aI C sub (fun c aA=>P.ex c σ aA) e σ st fun y aA=>notRef x/\iR op x y aA fun d aS=>P.nx (σ.set i (some d)) aS
 |.iff c a b,P,σ,st=>aI C sub (fun c aA=>P.ex c σ aA) c σ st fun d aA=>eB d aA fun k=>if k=true then cR C sub a P σ aA else cR C sub b P σ aA
 |.whl c b,P,σ,st=>∃ n,pJ (fun next σ st=>aI C sub (fun c aA=>P.ex c σ aA) c σ st fun d aA=>eB d aA fun k =>
  if k=true then cR C sub b { P with nx:=next,ct:=next,bk:=P.nx } σ aA else P.nx σ aA) n σ st
 |.hJ t k aD b,P,σ,st=>bL C sub (fun c aA=>P.ex c σ aA) aD σ st fun ds aC=>gG k ds aC fun as xs=>xB (same as aC) (fun x next σ st=>mW C sub (fun c aA=>P.ex c σ aA) t x σ st fun σ' aA=>cR C sub b { P with nx:=next,ct:=next,bk:=P.nx } σ' aA) P.nx xs σ aC
 |.ret e,P,σ,st=>aI C sub (fun c aA=>P.ex c σ aA) e σ st P.rt
 |.brk,P,σ,st=>P.bk σ st
 |.cnt,P,σ,st=>P.ct σ st
 |.pass,P,σ,st=>P.nx σ st
 |.rais c es,P,σ,st=>bL C sub (fun c aA=>P.ex c σ aA) es σ st fun _ aA=>P.ex c σ aA
 |.tryy b c n h,P,σ,st=>cR C sub b (Nh sub c n P fun P' σ' aA=>cR KP sub h P' σ' aA) σ st
noncomputable def cR (C:bE)(sub:Nat->Nat->Bool):List Sx->gM->St->aB->Prop
 |[],P,σ,st=>P.nx σ st
 |s::ss,P,σ,st=>wpS C sub s { P with nx:=cR C sub ss P } σ st
end
noncomputable def start (np nl:Nat)(ds:List D):St:=ds.map some++a9 (nl-np) none
noncomputable def aM (G:Prog):Nat->bE
 |0=>fun _ _ _ _ _=>False
 |k+1=>fun f ds st Q E=>match G.fns f with
 |none=>False
 |some fn=>ds.length=fn.np/\cR (aM G k) G.sub fn.body ⟨fun _ aA=>Q .non aA,Q,fun _ _=>False,fun _ _=>False,fun c _ aA=>E c aA⟩ (start fn.np fn.nl ds) st
end L3
end
section
namespace L3
theorem sO {σ:St}{i:Nat}{Q Q':D->Prop}(h:∀ d,Q d->Q' d):eD σ i Q->eD σ i Q':=by
 unfold eD;split
 ·exact h _
 ·exact id
theorem CA {σ:St}:∀{is:List Nat}{Q Q':List D->Prop},(∀ d,Q d->Q' d)->qH σ is Q->qH σ is Q'
 |[],_,_,h=>h _
 |_::_,_,_,h=>sO fun _=>CA fun _=>h _
theorem UY {d:D}{st:aB}{K K':Nat->Nat->List D->Prop}(h:∀ a f cs,K a f cs->K' a f cs):wX d st K->wX d st K':=by
 cases d<;>first|exact id|skip
 unfold wX
 simp only
 split
 ·exact h _ _ _
 ·exact id
theorem nH {st:aB}{a:Nat}{K K':List D->Prop}{M M':List D->List D->Prop}(h:∀ ds,K ds->K' ds)(h':∀ ks vs,M ks vs->M' ks vs):dQ st a K M->dQ st a K' M':=by
 unfold dQ;split
 ·exact h _
 ·exact h' _ _
 ·exact id
theorem dG {st:aB}{a:Nat}{K K':List D->Prop}(h:∀ ds,K ds->K' ds):cF st a K->cF st a K':=by
 unfold cF;split
 ·exact h _
 ·exact id
theorem eT {α:Type}{o:Option α}{K K':α->Prop}(h:∀ x,K x->K' x):cZ o K->cZ o K':=by
 unfold cZ;split
 ·exact h _
 ·exact id
theorem jE {d:D}{st:aB}{P P':Bool->Prop}(h:∀ b,P b->P' b):eB d st P->eB d st P':=by
 unfold eB;split
 all_goals first|exact h _|exact id|exact(fun x=>⟨x.1,h _ x.2⟩)|exact nH (fun _=>h _) fun _ _=>h _
theorem oT {ds:List D}{st:aB}{Q Q':VK}(h:∀ d st,Q d st->Q' d st):gE ds st Q->gE ds st Q':=fun x=>⟨x.1,fun p hp=>h _ _ (x.2 p hp)⟩
theorem E1 {op:tH}{x y:D}{st:aB}{Q Q':VK}(h:∀ d st,Q d st->Q' d st):iR op x y st Q->iR op x y st Q':=by
 unfold iR
 split
 all_goals first|exact h _ _|exact id|exact(fun z=>⟨z.1,h _ _ z.2⟩)|exact dG (fun _=>dG fun _=>oT h)|exact dG (fun _ z=>⟨z.1,z.2.1,oT h z.2.2⟩)
theorem O3 {x:D}{st:aB}{Q Q':VK}(h:∀ d st,Q d st->Q' d st):yD x st Q->yD x st Q':=by
 unfold yD;split
 ·exact h _ _
 ·exact id
theorem IG {x y:D}{st:aB}{P P':Bool->Prop}(h:∀ b,P b->P' b):VE x y st P->VE x y st P':=fun z=>⟨z.1,z.2.1,h _ z.2.2⟩
theorem JL {x y:D}{st:aB}{P P':Bool->Prop}(h:∀ b,P b->P' b):G4 x y st P->G4 x y st P':=by
 unfold G4
 split
 all_goals first|exact(fun z=>⟨z.1,z.2.1,h _ z.2.2⟩)|exact h _|exact id|exact nH (fun _ z=>⟨z.1,z.2.1,h _ z.2.2⟩) fun _ _ z=>⟨z.1,z.2.1,h _ z.2.2⟩
theorem sM {f:Int->Int->Bool}{x y:D}{P P':Bool->Prop}(h:∀ b,P b->P' b):vC f x y P->vC f x y P':=by
 unfold vC;split
 ·exact h _
 ·exact id
theorem JZ {x y:D}{P P':Bool->Prop}(h:∀ b,P b->P' b):CN x y P->CN x y P':=by
 unfold CN
 split
 all_goals first|exact h _|exact id
theorem yH {op:qR}{x y:D}{st:aB}{P P':Bool->Prop}(h:∀ b,P b->P' b):dB op x y st P->dB op x y st P':=by
 cases op
 ·exact IG h
 ·exact IG fun b=>h (!b)
 ·exact sM h
 ·exact sM h
 ·exact sM h
 ·exact sM h
 ·exact JZ h
 ·exact JZ fun b=>h (!b)
 ·exact JL h
 ·exact JL fun b=>h (!b)
theorem C5 {sub:Nat->Nat->Bool}{x:D}{st:aB}{t:Ty}{P P':Bool->Prop}(h:∀ b,P b->P' b):iM sub x st t P->iM sub x st t P':=by
 unfold iM
 split
 all_goals first|exact h _|exact id|exact nH (fun _=>h _) fun _ _=>h _
theorem FQ {sub:Nat->Nat->Bool}{x:D}{st:aB}{P P':Bool->Prop}(h:∀ b,P b->P' b):∀{ts:List Ty},vI sub x st ts P->vI sub x st ts P'
 |[]=>id
 |[t]=>C5 h
 |t::u::ts=>by
  unfold vI
  refine C5 fun b=>?_
  split
  ·exact h _
  ·exact FQ h
theorem S6 {x y:D}{st:aB}{Q Q':VK}(h:∀ d st,Q d st->Q' d st):lC x y st Q->lC x y st Q':=by
 unfold lC
 split
 all_goals first|exact id|exact eT (fun _=>h _ _)|exact(fun z=>⟨z.1,eT (fun _=>h _ _) z.2⟩)|exact(fun z=>⟨z.1,z.2.1,eT (fun _=>h _ _) z.2.2⟩)|skip
 refine nH (fun _=>?_) (fun _ _ z=>⟨z.1,z.2.1,eT (fun _=>h _ _) z.2.2⟩)
 split
 ·exact eT fun _=>h _ _
 ·exact id
theorem C9 {ds:List D}{P P':Option Int->Prop}(h:∀ o,P o->P' o):oM ds P->oM ds P':=by
 unfold oM;split
 all_goals first|exact h _|exact id
theorem S0 {x:D}{lo hi:Option Int}{st:aB}{Q Q':VK}(h:∀ d st,Q d st->Q' d st):B5 x lo hi st Q->B5 x lo hi st Q':=by
 unfold B5
 split
 ·exact h _ _
 ·exact dG fun _ z p hp=>h _ _ (z p hp)
 ·exact id
theorem NI {d:D}{st:aB}{K K':List Nat->List D->Prop}(h:∀ as xs,K as xs->K' as xs):oP d st K->oP d st K':=by
 unfold oP
 split
 all_goals first|exact h _ _|exact id|exact(fun z=>⟨z.1,h _ _ z.2⟩)|exact dG (fun _=>h _ _)
theorem yM {d:D}{st:aB}{K K':List Nat->List D->Prop}(h:∀ as xs,K as xs->K' as xs):dP d st K->dP d st K':=by
 unfold dP
 split
 all_goals first|exact h _ _|exact id|exact dG (fun _=>h _ _)
theorem yL {k:Option IK}{ds:List D}{st:aB}{P P':List Nat->List D->Prop}(h:∀ as xs,P as xs->P' as xs):gG k ds st P->gG k ds st P':=by
 unfold gG
 split
 ·exact NI h
 ·exact fun z=>⟨z.1,h _ _ z.2⟩
 ·exact fun z=>⟨z.1,z.2.1,h _ _ z.2.2⟩
 ·exact fun z=>⟨z.1,z.2.1,z.2.2.1,h _ _ z.2.2.2⟩
 ·exact dG fun _=>dG fun _=>h _ _
 ·exact dG fun _=>h _ _
 ·exact yM fun _ _=>h _ _
 ·exact id
theorem Q5 {d:D}{st:aB}{P P':Nat->Prop}(h:∀ n,P n->P' n):pU d st P->pU d st P':=by
 unfold pU
 split
 all_goals first|exact h _|exact id|exact(fun z=>⟨z.1,h _ z.2⟩)|exact nH (fun _=>h _) fun _ _=>h _
theorem AW {f:BI}{xs:List D}{st:aB}{Q Q':VK}(h:∀ d st,Q d st->Q' d st):eR f xs st Q->eR f xs st Q':=by
 unfold eR
 split
 all_goals first|exact id|exact oT h|exact(fun z=>⟨z.1,h _ _ z.2⟩)|exact eT (fun _=>h _ _)|skip
 all_goals refine eT fun is=>?_
 all_goals cases is
 all_goals first|exact id|exact h _ _
theorem TZ {f:BI}{ds:List D}{st:aB}{Q Q':VK}(h:∀ d st,Q d st->Q' d st):gP f ds st Q->gP f ds st Q':=by
 unfold gP
 split
 all_goals first|exact id|exact h _ _|exact Q5 (fun _=>h _ _)|exact yM (fun _ _=>AW h)|exact eT (fun _ z=>⟨z.1,h _ _ z.2⟩)
theorem PY {d:D}{st:aB}{K K':List D->Prop}(h:∀ xs,K xs->K' xs):xD d st K->xD d st K':=by
 unfold xD
 split
 all_goals first|exact h _|exact id|exact dG h
theorem NK {m:MT}{o:D}{ds:List D}{st:aB}{Q Q':VK}(h:∀ d st,Q d st->Q' d st):jO m o ds st Q->jO m o ds st Q':=by
 unfold jO
 split
 ·exact dG fun _ z=>⟨z.1,h _ _ z.2⟩
 ·exact dG fun _=>PY fun _ z=>⟨z.1,h _ _ z.2⟩
 ·exact dG fun _=>eT fun _=>h _ _
 ·exact yM fun _ _ z=>⟨z.1,z.2.1,eT (fun _=>h _ _) z.2.2⟩
 ·exact id
theorem BX {one:Bool}{tg:List Nat}{x:D}{σ:St}{P P':St->Prop}(h:∀ σ,P σ->P' σ):kF one tg x σ P->kF one tg x σ P':=by
 unfold kF
 split
 ·exact h _
 ·exact fun z=>⟨z.1,h _ z.2⟩
 ·exact id
theorem B8 {g:aB->Prop}{turn sR:D->aB->(Option D->aB->Prop)->Prop}{R R':List D->aB->Prop}
 (ht:∀ x st K K',(∀ o st,K o st->K' o st)->turn x st K->sR x st K')(h:∀ ds st,R ds st->R' ds st):∀{xs acc:List D}{st:aB},jN g turn xs acc st R->jN g sR xs acc st R'
 |[],_,_,z=>⟨z.1,h _ _ z.2⟩
 |_::_,_,_,z=>⟨z.1,z.2.1,ht _ _ _ _ (fun _ _ y=>B8 ht h y) z.2.2⟩
theorem BR {st:aB}{a:Nat}{K K':List Nat->List (List Nat×D)->Prop}(h:∀ c fs,K c fs->K' c fs):nB st a K->nB st a K':=by
 unfold nB;split
 ·exact h _ _
 ·exact id
theorem uT {st:aB}{a:Nat}{K K':List D->List D->Prop}(h:∀ c fs,K c fs->K' c fs):tabAt st a K->tabAt st a K':=by
 unfold tabAt;split
 ·exact h _ _
 ·exact id
theorem R8 {c f:List Nat}{x:D}{st:aB}{Q Q':VK}(h:∀ d st,Q d st->Q' d st):pW c f x st Q->pW c f x st Q':=by
 unfold pW;split
 ·exact BR fun _ _ z=>⟨z.1,eT (fun _=>h _ _) z.2⟩
 ·exact id
theorem UX {c f:List Nat}{v x:D}{st:aB}{Q Q':aB->Prop}(h:∀ st,Q st->Q' st):BW c f v x st Q->BW c f v x st Q':=by
 unfold BW;split
 ·exact BR fun _ _ z=>⟨z.1,z.2.1,h _ z.2.2⟩
 ·exact id
theorem RR {x y:D}{st:aB}{P P':Bool->Prop}(h:∀ b,P b->P' b):uQ x y st P->uQ x y st P':=by
 unfold uQ;split
 ·exact uT fun _ _ z=>⟨z.1,h _ z.2⟩
 ·exact id
theorem RL {x y:D}{st:aB}{Q Q':VK}(h:∀ d st,Q d st->Q' d st):rP x y st Q->rP x y st Q':=by
 unfold rP;split
 ·exact uT fun _ _ z=>⟨z.1,eT (fun _=>h _ _) z.2⟩
 ·exact id
theorem JD {x v y:D}{st:aB}{Q Q':aB->Prop}(h:∀ st,Q st->Q' st):AM x v y st Q->AM x v y st Q':=by
 unfold AM;split
 ·exact uT fun _ _ z=>⟨z.1,z.2.1,z.2.2.1,h _ z.2.2.2⟩
 ·exact id
noncomputable def bQ (C C':bE):Prop:=∀ f ds st Q Q' E E',(∀ d st,Q d st->Q' d st)->(∀ c st,E c st->E' c st)->C f ds st Q E->C' f ds st Q' E'
mutual
theorem aV {C C':bE}{sub}{E E':XK}(hC:bQ C C')(hE:∀ c st,E c st->E' c st):∀(e:Ex){σ:St}{st:aB}{Q Q':VK},(∀ d st,Q d st->Q' d st)->aI C sub E e σ st Q->aI C' sub E' e σ st Q'
 |.c d,σ,st,Q,Q',h=>by exact h _ _
 |.v i,σ,st,Q,Q',h=>by exact sO fun d=>h _ _
 |.tup es,σ,st,Q,Q',h=>by exact cS hC hE es fun _ _=>h _ _
 |.lst es,σ,st,Q,Q',h=>by exact cS hC hE es fun _ _=>oT h
 |.bin op a b,σ,st,Q,Q',h=>by exact aV hC hE a fun _ _=>aV hC hE b fun _ _=>E1 h
 |.neg a,σ,st,Q,Q',h=>by
  exact aV hC hE a fun _ _=>O3 h
 |.cmp op a b,σ,st,Q,Q',h=>by exact aV hC hE a fun _ _=>aV hC hE b fun _ _=>yH fun _=>h _ _
 |.chain op op' a b c,σ,st,Q,Q',h=>by
  refine aV hC hE a fun _ _=>aV hC hE b fun _ _=>yH fun k=>?_
  split
  ·exact aV hC hE c fun _ _=>yH fun _=>h _ _
  ·exact h _ _
 |.and_ a b,σ,st,Q,Q',h=>by
  refine aV hC hE a fun _ _=>jE fun k=>?_
  split
  ·exact aV hC hE b h
  ·exact h _ _
 |.or_ a b,σ,st,Q,Q',h=>by
  refine aV hC hE a fun _ _=>jE fun k=>?_
  split
  ·exact h _ _
  ·exact aV hC hE b h
 |.not_ a,σ,st,Q,Q',h=>by exact aV hC hE a fun _ _=>jE fun k=>h _ _
 |.ite c a b,σ,st,Q,Q',h=>by
  refine aV hC hE c fun _ _=>jE fun k=>?_
  split
  ·exact aV hC hE a h
  ·exact aV hC hE b h
 |.call f es,σ,st,Q,Q',h=>by exact cS hC hE es fun _ _=>hC _ _ _ _ _ _ _ h hE
 |.bi f es,σ,st,Q,Q',h=>by exact cS hC hE es fun _ _=>TZ h
 |.isi a ts,σ,st,Q,Q',h=>by exact aV hC hE a fun _ _=>FQ fun _=>h _ _
 |.cD m o es,σ,st,Q,Q',h=>by exact aV hC hE o fun _ _ z=>⟨z.1,cS hC hE es (fun _ _=>NK h) z.2⟩
 |.ix a b,σ,st,Q,Q',h=>by exact aV hC hE a fun _ _=>aV hC hE b fun _ _=>S6 h
 |.sl a lo hi,σ,st,Q,Q',h=>by exact aV hC hE a fun _ _=>cS hC hE lo fun _ _=>C9 fun _=>cS hC hE hi fun _ _=>C9 fun _=>S0 h
 |.bit f k es,σ,st,Q,Q',h=>by exact cS hC hE es fun _ _=>yL fun _ _=>AW h
 |.comp n aK tg one k aD ifs elt,σ,st,Q,Q',h=>by
  refine cS hC hE aD fun d aC=>yL fun as xs=>?_
  intro z
  refine B8 (fun x st K K' hK=>?_) (fun _ _=>oT h) z
  refine BX fun σ'=>GD hC hE ifs fun b st=>?_
  split
  ·exact aV hC hE elt fun _ _=>hK _ _
  ·exact hK _ _
 |.dic _ _,σ,st,Q,Q',h=>by exact id
 |.fld c f o,σ,st,Q,Q',h=>by exact aV hC hE o fun _ _=>R8 h
 |.mk c f es,σ,st,Q,Q',h=>by exact cS hC hE es fun _ _ z p hp=>hC _ _ _ _ _ _ _ (fun _ _ y=>⟨y.1,h _ _ y.2⟩) hE (z p hp)
 |.mcl c m f o es,σ,st,Q,Q',h=>by exact aV hC hE o fun _ _ z=>⟨z.1,cS hC hE es (fun _ _=>hC _ _ _ _ _ _ _ h hE) z.2⟩
 |.cv i es,σ,st,Q,Q',h=>by exact sO fun _ z=>⟨z.1,cS hC hE es (fun _ _=>UY fun _ _ _=>hC _ _ _ _ _ _ _ (fun _ _=>h _ _) (fun _ _=>hE _ _)) z.2⟩
 |.callL f es g aK κ,σ,st,Q,Q',h=>by exact cS hC hE es fun _ _ z=>⟨z.1,CA (fun _ y a ha=>hC _ _ _ _ _ _ _ (fun _ _=>h _ _) (fun _ _=>hE _ _) (y a ha)) z.2⟩
 |.dnew,σ,st,Q,Q',h=>by exact fun z p hp=>h _ _ (z p hp)
 |.d1 k v,σ,st,Q,Q',h=>by exact fun z p hp=>aV hC hE k (fun _ _=>aV hC hE v fun _ _=>JD fun _=>h _ _) (z p hp)
 |.din neg k d,σ,st,Q,Q',h=>by exact aV hC hE k fun _ _=>aV hC hE d fun _ _=>RR fun _=>h _ _
 |.dix d k,σ,st,Q,Q',h=>by exact aV hC hE d fun _ _=>aV hC hE k fun _ _=>RL h
theorem cS {C C':bE}{sub}{E E':XK}(hC:bQ C C')(hE:∀ c st,E c st->E' c st):∀(es:List Ex){σ:St}{st:aB}{Q Q':List D->aB->Prop},(∀ d st,Q d st->Q' d st)->bL C sub E es σ st Q->bL C' sub E' es σ st Q'
 |[],σ,st,Q,Q',h=>by exact h _ _
 |e::es,σ,st,Q,Q',h=>by exact aV hC hE e fun _ _=>cS hC hE es fun _ _=>h _ _
theorem GD {C C':bE}{sub}{E E':XK}(hC:bQ C C')(hE:∀ c st,E c st->E' c st):∀(es:List Ex){σ:St}{st:aB}{Q Q':Bool->aB->Prop},(∀ d st,Q d st->Q' d st)->iC C sub E es σ st Q->iC C' sub E' es σ st Q'
 |[],σ,st,Q,Q',h=>by exact h _ _
 |e::es,σ,st,Q,Q',h=>by
  refine aV hC hE e fun _ _=>jE fun k=>?_
  split
  ·exact GD hC hE es h
  ·exact h _ _
end
structure gM.Le (P P':gM):Prop where
 nx:∀ σ st,P.nx σ st->P'.nx σ st
 rt:∀ d st,P.rt d st->P'.rt d st
 bk:∀ σ st,P.bk σ st->P'.bk σ st
 ct:∀ σ st,P.ct σ st->P'.ct σ st
 ex:∀ c σ st,P.ex c σ st->P'.ex c σ st
theorem QC {o i v:D}{st:aB}{Q Q':aB->Prop}(h:∀ st,Q st->Q' st):A5 o i v st Q->A5 o i v st Q':=by
 unfold A5
 split
 ·exact dG fun _=>eT fun _=>h _
 ·exact id
theorem vK {C C':bE}{sub}{E E':XK}(hC:bQ C C')(hE:∀ c st,E c st->E' c st){d:D}{Q Q':St->aB->Prop}(h:∀ σ st,Q σ st->Q' σ st):∀(t:Tg){σ:St}{st:aB},mW C sub E t d σ st Q->mW C' sub E' t d σ st Q'
 |.nm i,_,_=>by exact h _ _
 |.tp is,_,_=>by exact BX fun _=>h _ _
 |.ix o i,_,_=>by exact aV hC hE o fun _ _=>aV hC hE i fun _ _=>QC fun _=>h _ _
 |.fl c f o,_,_=>by exact aV hC hE o fun _ _=>UX fun _=>h _ _
 |.dk o i,_,_=>by exact aV hC hE o fun _ _=>aV hC hE i fun _ _=>JD fun _=>h _ _
theorem ES {g:aB->Prop}{turn sR:D->(St->aB->Prop)->St->aB->Prop}{N N':St->aB->Prop}
 (ht:∀ x M M' σ st,(∀ σ st,M σ st->M' σ st)->turn x M σ st->sR x M' σ st)(h:∀ σ st,N σ st->N' σ st):∀{xs:List D}{σ:St}{st:aB},xB g turn N xs σ st->xB g sR N' xs σ st
 |[],_,_,z=>⟨z.1,h _ _ z.2⟩
 |_::_,_,_,z=>⟨z.1,ht _ _ _ _ _ (fun _ _=>ES ht h) z.2⟩
theorem zY {turn sR:(St->aB->Prop)->St->aB->Prop}(ht:∀ M M' σ st,(∀ σ st,M σ st->M' σ st)->turn M σ st->sR M' σ st):∀{n:Nat}{σ:St}{st:aB},pJ turn n σ st->pJ sR n σ st
 |0,_,_,z=>z
 |n+1,_,_,z=>ht _ _ _ _ (fun _ _=>zY ht) z
theorem KW:bQ KP KP:=fun _ _ _ _ _ _ _ _ _ x=>x
mutual
theorem wpS_mono {C C':bE}{sub}(hC:bQ C C'):∀(s:Sx){P P':gM}{σ:St}{st:aB},P.Le P'->wpS C sub s P σ st->wpS C' sub s P' σ st
 |.ex e,P,P',σ,st,h=>by exact aV hC (fun _ _=>h.ex _ _ _) e fun _ _=>h.nx _ _
 |.asg t e,P,P',σ,st,h=>by exact aV hC (fun _ _=>h.ex _ _ _) e fun _ _=>vK hC (fun _ _=>h.ex _ _ _) h.nx t
 |.aug i op e,P,P',σ,st,h=>by
  exact sO fun x=>aV hC (fun _ _=>h.ex _ _ _) e fun _ _ z=>⟨z.1,E1 (fun _ _=>h.nx _ _) z.2⟩
 |.iff c a b,P,P',σ,st,h=>by
  refine aV hC (fun _ _=>h.ex _ _ _) c fun _ _=>jE fun k=>?_
  split
  ·exact iK hC a h
  ·exact iK hC b h
 |.whl c b,P,P',σ,st,h=>by
  rintro⟨n,z⟩
  refine⟨n,zY (fun M M' σ st hM=>aV hC (fun _ _=>h.ex _ _ _) c fun _ _=>jE fun k=>?_) z⟩
  split
  ·exact iK hC b ⟨hM,h.rt,h.nx,hM,h.ex⟩
  ·exact h.nx _ _
 |.hJ t k aD b,P,P',σ,st,h=>by
  refine cS hC (fun _ _=>h.ex _ _ _) aD fun _ _=>yL fun as xs=>?_
  exact ES (fun x M M' σ st hM=>vK hC (fun _ _=>h.ex _ _ _) (fun _ _=>iK hC b (P:={ P with nx:=M,ct:=M,bk:=P.nx }) (P':={ P' with nx:=M',ct:=M',bk:=P'.nx }) ⟨hM,h.rt,h.nx,hM,h.ex⟩) t) h.nx
 |.ret e,P,P',σ,st,h=>by exact aV hC (fun _ _=>h.ex _ _ _) e h.rt
 |.brk,P,P',σ,st,h=>by exact h.bk _ _
 |.cnt,P,P',σ,st,h=>by exact h.ct _ _
 |.pass,P,P',σ,st,h=>by exact h.nx _ _
 |.rais c es,P,P',σ,st,h=>by exact cS hC (fun _ _=>h.ex _ _ _) es fun _ _=>h.ex _ _ _
 |.tryy b c n hh,P,P',σ,st,h=>by
  refine iK hC b ⟨h.nx,h.rt,h.bk,h.ct,fun c' σ st=>?_⟩
  show(if sub c' c=true then _ else _)->(if sub c' c=true then _ else _)
  split
  ·exact iK KW hh ⟨fun _ _=>h.nx _ _,h.rt,fun _ _=>id,fun _ _=>id,fun _ _ _=>id⟩
  ·exact h.ex _ _ _
theorem iK {C C':bE}{sub}(hC:bQ C C'):∀(ss:List Sx){P P':gM}{σ:St}{st:aB},P.Le P'->cR C sub ss P σ st->cR C' sub ss P' σ st
 |[],P,P',σ,st,h=>by exact h.nx _ _
 |s::ss,P,P',σ,st,h=>by exact wpS_mono hC s ⟨fun _ _=>iK hC ss h,h.rt,h.bk,h.ct,h.ex⟩
end
theorem kX (G:Prog):∀{j k:Nat},j<=k->bQ (aM G j) (aM G k)
 |0,k,_=>fun _ _ _ _ _ _ _ _ _ x=>x.elim
 |j+1,0,h=>by omega
 |j+1,k+1,h=>fun f ds st Q Q' E E' hQ hE=>by
  simp only[aM]
  split
  ·exact id
  ·have hj:j<=k:=by omega
   exact fun z=>⟨z.1,iK (kX G hj) _ (P:=⟨fun _ aA=>Q .non aA,Q,fun _ _=>False,fun _ _=>False,fun c _ aA=>E c aA⟩) (P':=⟨fun _ aA=>Q' .non aA,Q',fun _ _=>False,fun _ _=>False,fun c _ aA=>E' c aA⟩) ⟨fun _ _=>hQ _ _,hQ,fun _ _=>id,fun _ _=>id,fun _ _ _=>hE _ _⟩ z.2⟩
end L3
end
section
namespace L3
section
variable {C:bE}{sub:Nat->Nat->Bool}{E:XK}{σ:St}{st:aB}{Q:VK}{P:Bool->Prop}{e a b c:Ex}{es:List Ex}{x y:D}{i j:Int}{u v:List Nat}{ds xs ys ks vs:List D}{p q:Nat}{K:List D->Prop}{M:List D->List D->Prop}
theorem aE {R:gM}:cR C sub [] R σ st=R.nx σ st:=rfl
theorem R0 {R:gM}{s:Sx}{ss:List Sx}:cR C sub (s::ss) R σ st=wpS C sub s { R with nx:=cR C sub ss R } σ st:=rfl
theorem gH {R:gM}{s:Sx}{ss:List Sx}(h:wpS C sub s { R with nx:=cR C sub ss R } σ st):cR C sub (s::ss) R σ st:=h
theorem fX (h:st p=some (.lst ds)):dQ st p K M=K ds:=by unfold dQ;rw[h]
theorem aH (h:st p=some (.lst ds)):cF st p K=K ds:=by unfold cF;rw[h]
theorem aZ {α:Type}{x:α}{K:α->Prop}:cZ (some x) K=K x:=rfl
theorem P7 {α:Type}{K:α->Prop}:cZ none K=False:=rfl
theorem Cj {d:D}{r:St}{R:D->Prop}:eD (some d::r) 0 R=R d:=rfl
theorem Z8 {o:Option D}{r:St}{n:Nat}{R:D->Prop}:eD (o::r) (n+1) R=eD r n R:=rfl
theorem aW {o:MO}:put st p o p=some o:=by unfold put;rw[if_pos rfl]
theorem bD {o:MO}(h:q≠p):put st p o q=st q:=by unfold put;rw[if_neg h]
theorem yR {o u:MO}(h:st p=none)(h':st q=some u):put st p o q=some u:=by
 rw[bD];exact h'
 intro e;rw[e,h]at h';cases h'
theorem XU:eB .non st P=P false:=rfl
theorem Cc {k:Bool}:eB (.bl k) st P=P k:=rfl
theorem ZG:eB (.int i) st P=P (i != 0):=rfl
theorem XC:eB (.tup ds) st P=P (!ds.isEmpty):=rfl
theorem YY:eB (.ref p) st P=dQ st p (fun ds=>P (!ds.isEmpty)) fun ks _=>P (!ks.isEmpty):=rfl
theorem SM:eB (.bI ds) st P=P (!ds.isEmpty):=rfl
theorem Dt:dB .eq x y st P=(plainS st x/\plainS st y/\P (bO st x y)):=rfl
theorem Fs:dB .ne x y st P=(plainS st x/\plainS st y/\P (!bO st x y)):=rfl
theorem Au:dB .lt (.int i) (.int j) st P=P (decide (i<j)):=rfl
theorem ZK:dB .le (.int i) (.int j) st P=P (decide (i<=j)):=rfl
theorem cmp_gt:dB .gt (.int i) (.int j) st P=P (decide (j<i)):=rfl
theorem ZU:dB .ge (.int i) (.int j) st P=P (decide (j<=i)):=rfl
theorem Y9:dB .is_ x .non st P=P (GR x):=rfl
theorem XD {k:Bool}:dB .is_ x (.bl k) st P=P (SN k x):=rfl
theorem SV:dB .isnot x .non st P=P (!GR x):=rfl
theorem U8 {k:Bool}:dB .isnot x (.bl k) st P=P (!SN k x):=rfl
theorem NR:dB .in_ x (.tup ds) st P=(plainS st x/\dM st ds/\P (ds.any fun d=>bO st d x)):=rfl
theorem K0 {w:List Nat}:dB .in_ (.str w) (.cV ks vs) st P=P (ks.any fun d=>bN d (.str w)):=rfl
theorem N0:dB .in_ (.str u) (.str v) st P=P (occurs u v):=rfl
theorem K4:dB .jT x (.tup ds) st P=(plainS st x/\dM st ds/\P (!ds.any fun d=>bO st d x)):=rfl
theorem K5:dB .jT x (.ref p) st P=dQ st p (fun ds=>plainS st x/\dM st ds/\P (!ds.any fun d=>bO st d x)) fun ks _=>plain x/\tW ks/\P (!ks.any fun d=>bN d x):=rfl
theorem IB {w:List Nat}:dB .jT (.str w) (.cV ks vs) st P=P (!ks.any fun d=>bN d (.str w)):=rfl
theorem LA:dB .jT (.str u) (.str v) st P=P (!occurs u v):=rfl
theorem add_int:iR .add (.int i) (.int j) st Q=Q (.int (i+j)) st:=rfl
theorem add_str:iR .add (.str u) (.str v) st Q=(u.length+v.length<=bK/\Q (.str (u++v)) st):=rfl
theorem X0:iR .add (.tup xs) (.tup ys) st Q=(xs.length+ys.length<=bK/\Q (.tup (xs++ys)) st):=rfl
theorem L7:iR .add (.ref p) (.ref q) st Q=cF st p fun xs=>cF st q fun ys=>gE (xs++ys) st Q:=rfl
theorem sub_int:iR .sub (.int i) (.int j) st Q=Q (.int (i-j)) st:=rfl
theorem mul_int:iR .mul (.int i) (.int j) st Q=((oR i∨oR j)/\Q (.int (i*j)) st):=rfl
theorem X6:iR .mul (.tup xs) (.int i) st Q=((0<xs.length/\xs.length<=1000/\1<=i/\i<1000)/\Q (.tup (a9 i.toNat xs).flatten) st):=rfl
theorem SD:iR .fdiv (.int i) (.int j) st Q=((0<j/\j<1073741824)/\Q (.int (i / j)) st):=rfl
theorem mod_int:iR .mod (.int i) (.int j) st Q=(0<j/\Q (.int (i % j)) st):=rfl
theorem pow_int:iR .pow (.int i) (.int j) st Q=((0<=j/\j<=1000000/\i.natAbs<18446744073709551616)/\Q (.int (i ^ j.toNat)) st):=rfl
theorem neg_int:yD (.int i) st Q=Q (.int (-i)) st:=rfl
theorem XS {t:Ty}:vI sub x st [t] P=iM sub x st t P:=rfl
theorem YS {t t':Ty}{ts:List Ty}:vI sub x st (t::t'::ts) P=iM sub x st t fun b=>if b=true then P true else vI sub x st (t'::ts) P:=rfl
theorem kJ:lC (.tup ds) (.int i) st Q=cZ (fQ ds i) fun d=>Q d st:=rfl
theorem LW:lC (.bI ds) (.int i) st Q=cZ (fQ ds i) fun d=>Q d st:=rfl
theorem HS:lC (.str u) (.int i) st Q=(u.length<=bK/\cZ (fQ u i) fun c=>Q (.str [c]) st):=rfl
theorem YE {w:List Nat}:lC (.cV ks vs) (.str w) st Q=cZ (uZ ks vs (.str w)) fun d=>Q d st:=rfl
theorem eQ (h:st p=some (.lst ds)):lC (.ref p) (.int i) st Q=cZ (fQ ds i) fun d=>Q d st:=by
 show dQ st p _ _=_
 rw[fX h]
theorem dW {α:Type}{xs:List α}{n:Nat}(h:n<xs.length):fQ xs (n:Int)=xs[n]?:=by
 unfold fQ nW
 rw[if_pos (by omega),if_pos (by omega)]
 simp
theorem IJ {α:Type}{x:α}{r:List α}:fQ (x::r) 0=some x:=dW (n:=0) (by simp)
theorem U3 {α:Type}{x y:α}{r:List α}:fQ (x::y::r) 1=some y:=dW (n:=1) (by simp)
theorem TY {α:Type}{x y z:α}{r:List α}:fQ (x::y::z::r) 2=some z:=dW (n:=2) (by simp)
theorem Ny {α:Type}{x y z w:α}{r:List α}:fQ (x::y::z::w::r) 3=some w:=dW (n:=3) (by simp)
theorem Mw {α:Type}{x y z w t:α}{r:List α}:fQ (x::y::z::w::t::r) 4=some t:=dW (n:=4) (by simp)
theorem Bh {R:Option Int->Prop}:oM [] R=R none:=rfl
theorem Fp {R:Option Int->Prop}:oM [.int i] R=R (some i):=rfl
theorem HB {lo hi:Option Int}:B5 (.tup ds) lo hi st Q=Q (.tup (cut ds lo hi)) st:=rfl
theorem Al {lo hi:Option Int}:B5 (.ref p) lo hi st Q=cF st p fun ds=>∀ p,st p=none->Q (.ref p) (put st p (.lst (cut ds lo hi))):=rfl
theorem Ik {α:Type}{d:α}{ds:List α}:cut (d::ds) (some 1) none=ds:=by simp [cut,cE]
theorem zC {α:Type}{xs:List α}{lo hi:Option Int}:(cut xs lo hi).length<=xs.length:=by simp only[cut,n5,sj];omega
theorem ZC {R:List Nat->List D->Prop}:gG none [x] st R=oP x st R:=rfl
theorem TN {R:List Nat->List D->Prop}:oP (.tup ds) st R=R [] ds:=rfl
theorem SU {R:List Nat->List D->Prop}:oP (.str u) st R=(u.length<=bK/\R [] (u.map fun c=>.str [c])):=rfl
theorem lZ {R:List Nat->List D->Prop}:oP (.ref p) st R=cF st p fun ds=>R [p] ds:=rfl
theorem OZ {R:List Nat->List D->Prop}:oP (.bI ds) st R=R [] ds:=rfl
theorem tS {R:List Nat->List D->Prop}:dP (.tup ds) st R=R [] ds:=rfl
theorem tZ {R:List Nat->List D->Prop}:dP (.ref p) st R=cF st p fun ds=>R [p] ds:=rfl
theorem SQ {R:List Nat->List D->Prop}:dP (.bI ds) st R=R [] ds:=rfl
theorem MZ {R:List Nat->List D->Prop}:gG (some .range) [.int j] st R=(dC j/\R [] (dX 0 j.toNat)):=rfl
theorem N4 {R:List Nat->List D->Prop}:gG (some .range) [.int i,.int j] st R=(dC i/\dC j/\R [] (dX i (j-i).toNat)):=rfl
theorem CD {R:List Nat->List D->Prop}{c:Int}:gG (some .range) [.int i,.int j,.int c] st R=(c = -1/\dC i/\dC j/\R [] (oC i (i-j).toNat)):=rfl
theorem XJ {R:List Nat->List D->Prop}:gG (some .rev) [x] st R=dP x st fun as xs=>R as xs.reverse:=rfl
theorem R6:gP .len [x] st Q=pU x st fun n=>Q (.int (n:Nat)) st:=rfl
theorem Y5 {R:Nat->Prop}:pU (.tup ds) st R=R ds.length:=rfl
theorem IV {R:Nat->Prop}:pU (.bI ds) st R=R ds.length:=rfl
theorem len_str {R:Nat->Prop}:pU (.str u) st R=(u.length<=bK/\R u.length):=rfl
theorem LF {R:Nat->Prop}:pU (.ref p) st R=dQ st p (fun ds=>R ds.length) fun ks _=>R ks.length:=rfl
theorem RP:gP .all [x] st Q=dP x st fun _ xs=>eR .all xs st Q:=rfl
theorem QT:gP .any [x] st Q=dP x st fun _ xs=>eR .any xs st Q:=rfl
theorem Bd:gP .max [x] st Q=dP x st fun _ xs=>eR .max xs st Q:=by cases x<;>rfl
theorem Dc:gP .min [x] st Q=dP x st fun _ xs=>eR .min xs st Q:=by cases x<;>rfl
theorem QI:gP .sum [x] st Q=dP x st fun _ xs=>eR .sum xs st Q:=by cases x<;>rfl
theorem LX:gP .list [x] st Q=dP x st fun _ xs=>eR .list xs st Q:=rfl
theorem J2:gP .tuple [x] st Q=dP x st fun _ xs=>eR .tuple xs st Q:=rfl
theorem FR {ds:List D}:gP .rS [.tup ds] st Q=cZ (strsOf ds) fun ws=>ws.length<4000/\Q (.int (wR [] ws:Nat)) st:=rfl
theorem X7:gP .max [.int i,.int j] st Q=Q (.int (if j>i then j else i)) st:=rfl
theorem An:gP .int [.int i] st Q=Q (.int i) st:=rfl
theorem Y6 {k:Bool}:gP .int [.bl k] st Q=Q (.int (if k then 1 else 0)) st:=rfl
theorem Cy:eR .all xs st Q=cZ (boolsOf xs) fun bs=>Q (.bl (bs.all id)) st:=rfl
theorem ZJ:eR .any xs st Q=cZ (boolsOf xs) fun bs=>Q (.bl (bs.any id)) st:=rfl
theorem Ed:eR .sum xs st Q=cZ (intsOf xs) fun is=>Q (.int is.sum) st:=rfl
theorem XA:eR .list xs st Q=gE xs st Q:=rfl
theorem US:eR .tuple xs st Q=(xs.length<=bK/\Q (.tup xs) st):=rfl
theorem YM:xD (.tup ds) st K=K ds:=rfl
theorem XZ:xD (.ref p) st K=cF st p K:=rfl
theorem CB:yG .append (.ref p) st=cF st p fun _=>True:=rfl
theorem OK:yG .extend (.ref p) st=cF st p fun _=>True:=rfl
theorem ZD:yG .pop (.ref p) st=cF st p fun _=>True:=rfl
theorem xS {x:D}:yG .index x st=dP x st fun _ _=>True:=rfl
theorem AY {x d:D}:jO .index x [d] st Q=dP x st fun _ ds=>plainS st d/\dM st ds/\cZ (findD st d ds) fun i=>Q (.int (i:Nat)) st:=rfl
theorem sP:jO .append (.ref p) [x] st Q=cF st p fun xs=>xs.length<bK/\Q .non (put st p (.lst (xs++[x]))):=rfl
theorem xQ:jO .extend (.ref p) [x] st Q=cF st p fun xs=>xD x st fun ys=>xs.length+ys.length<=bK/\Q .non (put st p (.lst (xs++ys))):=rfl
theorem HI:jO .pop (.ref p) [] st Q=cF st p fun xs=>cZ (xs[xs.length-1]?) fun d=>Q d (put st p (.lst xs.dropLast)):=rfl
theorem MB {R:aB->Prop}:A5 (.ref p) (.int i) x st R=cF st p fun xs=>cZ (nW xs.length i) fun j=>R (put st p (.lst (xs.set j x))):=rfl
theorem Cu {n:Nat}{R:St->Prop}:kF true [n] x σ R=R (σ.set n (some x)):=rfl
theorem QH {is:List Nat}{R:St->Prop}:kF false is (.tup ds) σ R=(ds.length=is.length/\R ((is.zip ds).foldl (fun σ p=>σ.set p.1 (some p.2)) σ)):=by cases is<;>rfl
end
theorem Ext.refl {st:aB}:Ext st st:=fun _ _ h=>h
theorem Ext.trans {a b c:aB}(h:Ext a b)(h':Ext b c):Ext a c:=fun x o e=>h' x o (h x o e)
theorem Ext.new {st:aB}{p:Nat}{o:MO}(h:st p=none):Ext st (put st p o):=fun a u e=>yR h e
end L3
end
section
namespace L3
theorem IC {st aA:aB}:same [] st aA:=fun _ h=>nomatch h
theorem comp_map {g:aB->Prop}{turn:D->aB->(Option D->aB->Prop)->Prop}{R:List D->aB->Prop}(f:D->D):∀(xs acc:List D)(st:aB),
  (∀ aA,Ext st aA->g aA)->(∀ x∈xs,∀ aA (K:Option D->aB->Prop),Ext st aA->(∀ aS,Ext aA aS->K (some (f x)) aS)->turn x aA K) ->
  acc.length+xs.length<=bK->(∀ aA,Ext st aA->R (acc++xs.map f) aA)->jN g turn xs acc st R
 |[],acc,st,hg,_,_,hR=>⟨hg st .refl,by simpa using hR st .refl⟩
 |x::xs,acc,st,hg,ht,hl,hR=>by
  refine⟨hg st .refl,by simp at hl;omega,ht x (by simp) st _ .refl fun aS h''=>?_⟩
  refine comp_map f xs (acc++[f x]) aS (fun aA h=>hg aA (h''.trans h)) (fun y hy aA K h=>ht y (by simp [hy]) aA K (h''.trans h)) (by simp at hl ⊢;omega) fun aA h=>?_
  simpa using hR aA (h''.trans h)
mutual
theorem uU {st:aB}:∀ d:D,bC d=true->fG st d=true
 |.non,_=>rfl
 |.bl _,_=>rfl
 |.int _,_=>rfl
 |.str _,_=>rfl
 |.tup ds,h=>by simp only[bC]at h;simp only[fG];exact pE ds h
 |.ref _,h=>by simp [bC]at h
 |.cV _ _,h=>by simp [bC]at h
 |.bI _,h=>by simp [bC]at h
 |.exc _,h=>by simp [bC]at h
theorem pE {st:aB}:∀ ds:List D,bM ds=true->gX st ds=true
 |[],_=>rfl
 |d::ds,h=>by
  simp only[bM,aq]at h
  simp only[gX,aq]
  exact⟨uU d h.1,pE ds h.2⟩
end
theorem plain.s {d:D}(h:plain d){st:aB}:plainS st d:=⟨uU d h.1,h.2⟩
theorem tW.s {ds:List D}(h:tW ds){st:aB}:dM st ds:=⟨pE ds h.1,h.2⟩
theorem FT {x:List Nat}:plain (.str x):=⟨rfl,df _⟩
theorem EL {i:Int}:plain (.int i):=⟨rfl,df _⟩
theorem KD {b:Bool}:plain (.bl b):=⟨rfl,df _⟩
theorem EM:plain .non:=⟨rfl,df _⟩
theorem vM {x:List Nat}{st:aB}:plainS st (.str x):=FT.s
theorem N1 {i:Int}{st:aB}:plainS st (.int i):=EL.s
theorem xK {b:Bool}{st:aB}:plainS st (.bl b):=KD.s
theorem NQ {st:aB}:plainS st .non:=EM.s
theorem oQ:∀ xs:List (List Nat),tW (xs.map .str)
 |[]=>⟨rfl,df _⟩
 |x::xs=>by
  have h:=oQ xs
  exact⟨by simp only[aw,bM,bC,fy];exact h.1,by simp only[aw,cK,cJ];exact Nat.max_le.mpr ⟨Nat.zero_le _,h.2⟩⟩
theorem iE {st:aB}{x y:List Nat}:bO st (.str x) (.str y)=(x==y):=by simp only[bO]
theorem WJ {st:aB}{x y:Int}:bO st (.int x) (.int y)=(x==y):=by simp only[bO]
theorem Dd {st:aB}{x y:Bool}:bO st (.bl x) (.bl y)=(x==y):=by simp only[bO]
theorem XE {x y:List Nat}:bN (.str x) (.str y)=(x==y):=by simp only[bN]
theorem vL {st:aB}(x:List Nat):∀ xs:List (List Nat),((xs.map D.str).any fun d=>bO st d (.str x))=xs.contains x
 |[]=>rfl
 |y::xs=>by
  simp only[aw,j3,iE,vL x xs,mn]
  congr 1
  exact Bool.beq_comm
end L3
end
section
namespace L3
open PySem PySem.Spec PyProof.Rows L2
mutual
noncomputable def qG (w:World):D->Int
 |.str x=>hashStr w ⟨x.toArray⟩
 |.bl b=>zv (if b=true then 1 else 0)
 |.tup ds=>zv (fk (gU w ds))
 |_=>0
noncomputable def gU (w:World):List D->List Int
 |[]=>[]
 |d::ds=>qG w d::gU w ds
end
mutual
noncomputable def sJ:D->Nat
 |.tup ds=>jW ds+1
 |_=>1
noncomputable def jW:List D->Nat
 |[]=>0
 |d::ds=>sJ d+jW ds
end
noncomputable def Nz (w:World)(x:D×Addr×Value):DictEntry:=⟨qG w x.1,.ref x.2.1,x.2.2⟩
noncomputable def OF (a:Addr)(xs:List (D×Addr×Value))(w:World)(h:Heap):Prop:=∃ o es ep,h.get? a=some o/\o.ExactDict/\o.data=.dict es ep/\es.toList=xs.map (Nz w)
noncomputable def KI (a:Addr)(xs:List (D×Addr×Value)):HO:=.ext fun _ w h=>OF a xs w h
noncomputable def clsAt (K:aa)(c:List Nat)(C:Addr):Prop:=gV K cj ⟨c.toArray⟩=some (some (.ref C))
theorem clsAt.inj {K:aa}{c:List Nat}{C C':Addr}(h:clsAt K c C)(h':clsAt K c C'):C=C':=by
 have:=h.symm.trans h'
 injection this with e;injection e with e;injection e
end L3
end
section
namespace L3
open PySem PySem.Spec PyProof.Rows L2
structure jI where
 params:Arguments
 body:Expr
 scope:Scope
 aK:List Str
 ps:List Str
 q:Str
noncomputable def VF (e:Expr)(aK ps:List Str)(q:Str):jI:=match e with
 |.Lambda params body scope _=>⟨params,body,scope,aK,ps,q⟩
 |e=>⟨{ posonlyargs:=[],args:=[],vararg:=none,kwonlyargs:=[],kw_defaults:=[],kwarg:=none,defaults:=[] },e,{ kind:=.function,names:=[],isGenerator:=false,isCoroutine:=false },aK,ps,q⟩
noncomputable def VR (s:Stmt):Expr:=match s with
 |.Return (some (.Subscript (.Call _ as _ _) _ _)) _=>as.getD 2 (.Name "" ⟨0,0,0,0⟩)
 |.Return (some (.Call _ as _ _)) _=>as.getD 2 (.Name "" ⟨0,0,0,0⟩)
 |.Assign _ (.Call _ as _ _) _=>as.getD 2 (.Name "" ⟨0,0,0,0⟩)
 |_=>.Name "" ⟨0,0,0,0⟩
noncomputable abbrev bd (n:Nat):Stmt:=PySem.Challenge.pw_leastloss_k06_losses.main.body.getD n (.Pass ⟨0,0,0,0⟩)
noncomputable def eF:jI:=VF (VR ((eU (bd 43)).getD 3 (.Pass ⟨0,0,0,0⟩))) ["rules"] ["held"] "first_breaks.<locals>.<lambda>"
noncomputable def gY:jI:=VF (VR ((eU (bd 44)).getD 3 (.Pass ⟨0,0,0,0⟩))) ["rules"] ["held"] "losses.<locals>.<lambda>"
noncomputable def LT:Nat->Option jI
 |46=>some eF
 |47=>some gY
 |_=>none
end L3
end
section
namespace L3
open PySem PySem.Spec PyProof.Rows L2
noncomputable def mB (K:aa)(H:Hp)(a:Addr)(vs:List V):Prop :=
 (∃ o,H a=some (.frz o (.lst vs)))∨∃(o:Obj)(aD:Array Value)(n:Nat),K.lookup a=some o/\o.cls=.type "list" /\ o.dict=none/\o.data=.seq aD n/\aD.size<=sizeLine/\aQ vs aD.toList
theorem mB.sq {K:aa}{H:Hp}{a:Addr}{vs:List V}:mB K H a vs->eH K H a vs
 |.inl ⟨o,h⟩=>.inl (.inr ⟨o,h⟩)
 |.inr h=>.inr h
noncomputable def sA:zw->D
 |.bool b=>.bl b
 |.int i=>.int i
 |.str x=>.str x.cps.toList
 |_=>.non
noncomputable def oB:zw->Bool
 |.none=>true
 |.bool _=>true
 |.int _=>true
 |.str _=>true
 |_=>false
noncomputable def Bf (K:aa)(a:Addr)(ks vs:List D):Prop:=∃ T:List (Str×PyData),vp rj (fun b=>K.lookup b) a T=true/\(T.all fun p=>oB p.2)=true/\ks=T.map (fun p=>.str p.1.cps.toList)/\vs=T.map (fun p=>sA p.2)
mutual
inductive Rep (K:aa)(H:Hp):D->V->Prop where
 |non:Rep K H .non .non
 |bl (b:Bool):Rep K H (.bl b) (.bl b)
 |int (i:Int):Rep K H (.int i) (.int i)
 |str (x:List Nat):Rep K H (.str x) (.str ⟨x.toArray⟩)
 |tup {ds:List D}{a:Addr}{vs:List V}(h:eI K H a vs)(r:aL K H ds vs):Rep K H (.tup ds) (.ref a)
 |ref (a:Addr):Rep K H (.ref a) (.ref a)
 |bI {ds:List D}{a:Addr}{vs:List V}(h:mB K H a vs)(r:aL K H ds vs):Rep K H (.bI ds) (.ref a)
 |cV {ks vs:List D}{a:Addr}(h:Bf K a ks vs):Rep K H (.cV ks vs) (.ref a)
inductive aL (K:aa)(H:Hp):List D->List V->Prop where
 |nil:aL K H [] []
 |cons {d:D}{v:V}{ds:List D}{vs:List V}(h:Rep K H d v)(r:aL K H ds vs):aL K H (d::ds) (v::vs)
end
noncomputable def iG (K:aa)(H:Hp)(fs:List (List Nat×D))(ws:List (Str×V)):Prop:=ws.map (·.1)=fs.map (fun p=>(⟨p.1.toArray⟩:Str))/\aL K H (fs.map (·.2)) (ws.map (·.2))
noncomputable def bears:HO->Bool
 |.lst _=>true
 |.ins _ _ _=>true
 |.ext _=>true
 |.tbl _=>true
 |.frz _ (.frz _ _)=>true
 |_=>false
noncomputable def NX (oc:Obj)(q:Str):Prop:=∃ vs t,oc.data=.fields vs/\vs[1]? = some (.str q t)
inductive iY (H:Hp)(a:Addr)(clos:List (Str×Addr)):List Str->List V->Prop where
 |nil:iY H a clos [] []
 |cons {x:Str}{xs:List Str}{v:V}{vs:List V}(cl:Addr)(o:Obj)(u:Value)(l:clos.lookup x=some cl)(k:H cl=some (.frz o (.own a))) (d:o.data=.cell (some u)) (r:RelV v u) (t:iY H a clos xs vs):iY H a clos (x::xs) (v::vs)
theorem iY.of {H H':Hp}{a:Addr}{clos:List (Str×Addr)}{xs:List Str}{vs:List V}(h:iY H a clos xs vs)(k:∀ b o,H b=some (.frz o (.own a))->H' b=some (.frz o (.own a))):iY H' a clos xs vs:=by
 induction h with
 |nil=>exact .nil
 |cons cl o u l q d r t ih=>exact .cons cl o u l (k _ _ q) d r ih
inductive WC (H:Hp)(a:Addr)(f:Nat)(vs:List V):Prop where
 |mk (T:jI)(clos:List (Str×Addr))(pm ctv:Value)(c':Addr)(oc:Obj)(ne:a≠0)(t:LT f=some T)(e:H a=some (.frz (mf "<lambda>" T.q T.params T.body T.scope clos pm c' ctv) (.frz (mf "<lambda>" T.q T.params T.body T.scope clos pm c' ctv) (.own a))))(ec:H c'=some (.frz oc (.own 0)))(co:NX oc T.q)
 (inj:∀ x y c,clos.lookup x=some c->clos.lookup y=some c->x=y)(dom:∀ x c,clos.lookup x=some c->x∈T.aK)(cap:iY H a clos T.aK vs):WC H a f vs
noncomputable def M9 (K:aa)(H:Hp)(a:Addr)(κ:CK):Prop :=
 og K κ.c a=true/\(H a=some (.tbl #[])∨∃ c' oc,H a=some (.tbl #[gf κ.ln,gf κ.col,.ref c'])/\H c'=some (.frz oc (.own 0))/\NX oc ⟨κ.q.toArray⟩)
noncomputable def sV (K:aa)(H:Hp)(a:Addr):MO->Prop
 |.lst ds=>∃ vs,H a=some (.lst vs)/\aL K H ds vs
 |.dic _ _=>False
 |.ins c fs=>∃ C dx ws,clsAt K c C/\H a=some (.ins C dx ws)/\iG K H fs ws
 |.tab ks vs=>∃(xs:List (D×Addr×Value))(ws:List V),H a=some (KI a xs)/\(a==nz)=false/\xs.map (·.1)=ks/\(xs.map (·.1)).Nodup/\aL K H ks (xs.map fun x=>.ref x.2.1)/\(∀ x∈xs,keyed x.1)/\aQ ws (xs.map (·.2.2))/\aL K H vs ws
 |.fn f cs=>∃ vs,WC H a f vs/\aL K H cs vs
 |.cod κ=>M9 K H a κ
noncomputable def aR (K:aa)(st:aB)(H:Hp):Prop:=∀ a o,st a=some o->sV K H a o
noncomputable def Step (H:Hp)(st:aB)(H':Hp)(aA:aB):Prop:=∀ a o,H a=some o->st a=none->H' a=some o/\aA a=none
theorem Step.refl {H:Hp}{st:aB}:Step H st H st:=fun _ _ h n=>⟨h,n⟩
theorem Step.trans {H H1 H2:Hp}{st aC aF:aB}(a:Step H st H1 aC)(b:Step H1 aC H2 aF):Step H st H2 aF:=fun x o h n=>let⟨h1,n1⟩:=a x o h n;b x o h1 n1
section
variable {K:aa}{H H' H1:Hp}{st aA aC:aB}{a p:Addr}{d:D}{v:V}{ds:List D}{vs:List V}
theorem sV.bears {m:MO}(h:sV K H a m):∃ o,H a=some o/\L3.bears o=true:=by
 cases m with
 |lst ds=>obtain⟨vs,q,_⟩:=h;exact⟨_,q,rfl⟩
 |dic _ _=>exact h.elim
 |ins c fs=>obtain⟨_,_,_,_,q,_⟩:=h;exact⟨_,q,rfl⟩
 |tab ks vs=>obtain⟨_,_,q,_⟩:=h;exact⟨_,q,rfl⟩
 |fn f cs=>obtain⟨_,⟨_,_,_,_,_,_,_,_,q⟩,_⟩:=h;exact⟨_,q,rfl⟩
 |cod κ=>obtain⟨_,q|⟨_,_,q,_⟩⟩:=h<;>exact⟨_,q,rfl⟩
theorem aR.uI (ok:aR K st H){o:HO}(h:H a=some o)(n:L3.bears o=false):st a=none:=by
 cases e:st a with
 |none=>rfl
 |some u =>
 obtain⟨o',e1,e2⟩:=(ok a u e).bears
 rw[h]at e1;cases e1
 rw[n]at e2;cases e2
theorem aR.fresh (ok:aR K st H)(h:H a=none):st a=none:=by
 cases e:st a with
 |none=>rfl
 |some u =>
 obtain⟨o',e1,e2⟩:=(ok a u e).bears
 rw[h]at e1;cases e1
theorem vE (ok:aR K st H)(s:Step H st H' aA)(h:eI K H a vs):eI K H' a vs:=by
 rcases h with(h|⟨o,h⟩)|h
 ·exact .inl (.inl (s a _ h (ok.uI h rfl)).1)
 ·exact .inl (.inr ⟨o,(s a _ h (ok.uI h rfl)).1⟩)
 ·exact .inr h
theorem sN (ok:aR K st H)(s:Step H st H' aA)(h:mB K H a vs):mB K H' a vs:=by
 rcases h with⟨o,h⟩|h
 ·exact .inl ⟨o,(s a _ h (ok.uI h rfl)).1⟩
 ·exact .inr h
mutual
theorem Rep.step (ok:aR K st H)(s:Step H st H' aA):∀{d:D}{v:V},Rep K H d v->Rep K H' d v
 |_,_,.non=>.non
 |_,_,.bl b=>.bl b
 |_,_,.int i=>.int i
 |_,_,.str x=>.str x
 |_,_,.tup h r=>.tup (vE ok s h) (aL.step ok s r)
 |_,_,.ref a=>.ref a
 |_,_,.bI h r=>.bI (sN ok s h) (aL.step ok s r)
 |_,_,.cV h=>.cV h
theorem aL.step (ok:aR K st H)(s:Step H st H' aA):∀{ds:List D}{vs:List V},aL K H ds vs->aL K H' ds vs
 |_,_,.nil=>.nil
 |_,_,.cons h r=>.cons (Rep.step ok s h) (aL.step ok s r)
end
theorem OY (ok:aR K st H)(s:Step H st H' aA){c:Addr}{clos:List (Str×Addr)}{xs:List Str}{vs:List V}(h:iY H c clos xs vs):iY H' c clos xs vs:=by
 induction h with
 |nil=>exact .nil
 |cons cl o u l k d r t ih=>exact .cons cl o u l (s _ _ k (ok.uI k rfl)).1 d r ih
theorem sV.step (ok:aR K st H)(s:Step H st H' aA){m:MO}(h:sV K H a m)(e:H' a=H a):sV K H' a m:=by
 cases m with
 |lst ds=>obtain⟨vs,q,r⟩:=h;exact⟨vs,e.trans q,r.step ok s⟩
 |dic _ _=>exact h
 |ins c fs=>obtain⟨C,dx,ws,q,q2,q3,r⟩:=h;exact⟨C,dx,ws,q,e.trans q2,q3,r.step ok s⟩
 |tab ks vs=>obtain⟨xs,ws,q,q0,q1,q2,q3,q4,q5,r⟩:=h;exact⟨xs,ws,e.trans q,q0,q1,q2,q3.step ok s,q4,q5,r.step ok s⟩
 |fn f cs =>
 obtain⟨vs,⟨T,clos,pm,ctv,c',oc,ne0,t,q,ec,co,inj,dom,cap⟩,r⟩:=h
 exact⟨vs,⟨T,clos,pm,ctv,c',oc,ne0,t,e.trans q,(s _ _ ec (ok.uI ec rfl)).1,co,inj,dom,OY ok s cap⟩,r.step ok s⟩
 |cod κ =>
 obtain⟨q0,q|⟨c',oc,q,ec,co⟩⟩:=h
 ·exact⟨q0,.inl (e.trans q)⟩
 ·exact⟨q0,.inr ⟨c',oc,e.trans q,(s _ _ ec (ok.uI ec rfl)).1,co⟩⟩
theorem aL.length:∀{ds:List D}{vs:List V},aL K H ds vs->ds.length=vs.length
 |_,_,.nil=>rfl
 |_,_,.cons _ r=>by simp [aL.length r]
theorem aL.get:∀{ds:List D}{vs:List V}{i:Nat}{d:D},aL K H ds vs->ds[i]? = some d->∃ v,vs[i]? = some v/\Rep K H d v
 |_,_,_,_,.nil,e=>by simp at e
 |_,_,0,_,.cons h _,e=>by simp at e;subst e;exact⟨_,rfl,h⟩
 |_,_,i+1,d,.cons _ r,e=>by
  obtain⟨v,e1,e2⟩:=aL.get (i:=i) (d:=d) r (by simpa using e)
  exact⟨v,by simpa using e1,e2⟩
theorem aL.append:∀{ds es:List D}{vs us:List V},aL K H ds vs->aL K H es us->aL K H (ds++es) (vs++us)
 |_,_,_,_,.nil,s=>s
 |_,_,_,_,.cons h r,s=>.cons h (aL.append r s)
theorem aL.take:∀{ds:List D}{vs:List V}(n:Nat),aL K H ds vs->aL K H (ds.take n) (vs.take n)
 |_,_,0,_=>by simp;exact .nil
 |_,_,_+1,.nil=>by simp;exact .nil
 |_,_,n+1,.cons h r=>by simp only[List.take_succ_cons];exact .cons h (aL.take n r)
theorem aL.drop:∀{ds:List D}{vs:List V}(n:Nat),aL K H ds vs->aL K H (ds.drop n) (vs.drop n)
 |_,_,0,r=>by simpa using r
 |_,_,_+1,.nil=>by simp;exact .nil
 |_,_,n+1,.cons _ r=>by simp only[wk];exact aL.drop n r
theorem aL.set (h:Rep K H d v):∀{ds:List D}{vs:List V}(i:Nat),aL K H ds vs->aL K H (ds.set i d) (vs.set i v)
 |_,_,_,.nil=>by simp;exact .nil
 |_,_,0,.cons _ r=>by simp only[dg];exact .cons h r
 |_,_,i+1,.cons q r=>by simp only[dy];exact .cons q (aL.set h i r)
theorem aL.dropLast {ds:List D}{vs:List V}(r:aL K H ds vs):aL K H ds.dropLast vs.dropLast:=by
 rw[vc,vc,r.length]
 exact r.take _
theorem aL.reverse:∀{ds:List D}{vs:List V},aL K H ds vs->aL K H ds.reverse vs.reverse
 |_,_,.nil=>by simp;exact .nil
 |_,_,.cons h r=>by simp only[ig];exact(aL.reverse r).append (.cons h .nil)
inductive QD (K:aa)(H:Hp)(st:aB)(R:VK)(v:V)(H':Hp):Prop where
 |mk (d:D)(aA:aB)(s:Step H st H' aA)(ok:aR K aA H')(r:Rep K H' d v)(q:R d aA):QD K H st R v H'
inductive Kx (K:aa)(H:Hp)(st:aB)(R:List D->aB->Prop)(vs:List V)(H':Hp):Prop where
 |mk (ds:List D)(aA:aB)(s:Step H st H' aA)(ok:aR K aA H')(r:aL K H' ds vs)(q:R ds aA):Kx K H st R vs H'
inductive QX (K:aa)(H:Hp)(st:aB)(R:aB->Prop)(H':Hp):Prop where
 |mk (aA:aB)(s:Step H st H' aA)(ok:aR K aA H')(q:R aA):QX K H st R H'
theorem QD.here {R:VK}(ok:aR K st H)(r:Rep K H d v)(h:R d st):QD K H st R v H:=⟨d,st,.refl,ok,r,h⟩
theorem QD.after {R:VK}(s:Step H st H1 aC)(h:QD K H1 aC R v H'):QD K H st R v H':=let⟨d,aA,s',ok,r,q⟩:=h;⟨d,aA,s.trans s',ok,r,q⟩
theorem rA {o:HO}(hp:H p=none):Step H st (upd H p o) st:=fun a u h n=>by
 have e:a≠p:=fun e=>by rw[e,hp]at h;cases h
 exact⟨by rw[bG e];exact h,n⟩
theorem oY {o:HO}{m:MO}(hp:H p=none):Step H st (upd H p o) (put st p m):=fun a u h n=>by
 have e:a≠p:=fun e=>by rw[e,hp]at h;cases h
 exact⟨by rw[bG e];exact h,by rw[bD e];exact n⟩
theorem aR.new {o:HO}(ok:aR K st H)(hp:H p=none):aR K st (upd H p o):=fun a u e=>by
 have ne:a≠p:=fun z=>by obtain⟨o',q,_⟩:=(ok a u e).bears;rw[z,hp]at q;cases q
 exact(ok a u e).step ok (rA (st:=st) hp) (bG ne)
theorem aR.Et {o:HO}{m:MO}(ok:aR K st H)(hp:H p=none)(r:sV K (upd H p o) p m):aR K (put st p m) (upd H p o):=fun a u e=>by
 have s:Step H st (upd H p o) (put st p m):=oY hp
 by_cases ha:a=p
 ·subst ha
  rw[aW]at e;cases e
  exact r
 ·rw[bD ha]at e
  exact(ok a u e).step ok s (bG ha)
theorem aR.gE (ok:aR K st H)(hp:H p=none)(r:aL K H ds vs):aR K (put st p (.lst ds)) (upd H p (.lst vs)):=fun a u e=>by
 have s:Step H st (upd H p (.lst vs)) (put st p (.lst ds)):=oY hp
 by_cases ha:a=p
 ·subst ha
  rw[aW]at e;cases e
  exact⟨vs,dF,r.step ok s⟩
 ·rw[bD ha]at e
  exact(ok a u e).step ok s (bG ha)
theorem QD.IF {R:VK}(ok:aR K st H)(r:aL K H ds vs)(hp:H p=none)(h:R (.tup ds) st):QD K H st R (.ref p) (upd H p (.tup vs)) :=
 ⟨.tup ds,st,rA hp,ok.new hp,.tup (eI.of dF) (r.step ok (rA (st:=st) hp)),h⟩
theorem QD.gE {R:VK}(ok:aR K st H)(r:aL K H ds vs)(hp:H p=none)(h:∀ p,st p=none->R (.ref p) (put st p (.lst ds))):QD K H st R (.ref p) (upd H p (.lst vs)) :=
 ⟨.ref p,put st p (.lst ds),oY hp,ok.gE hp r,.ref p,h p (ok.fresh hp)⟩
theorem aR.lst (ok:aR K st H)(h:st a=some (.lst ds)):∃ vs,H a=some (.lst vs)/\aL K H ds vs:=ok a _ h
theorem lV {o:HO}{m m':MO}(h:st a=some m):Step H st (upd H a o) (put st a m'):=fun b u hb n=>by
 have e:b≠a:=fun e=>by rw[e,h]at n;cases n
 exact⟨by rw[bG e];exact hb,by rw[bD e];exact n⟩
theorem aR.set (ok:aR K st H){m:MO}(h:st a=some m)(r:aL K H ds vs):aR K (put st a (.lst ds)) (upd H a (.lst vs)):=fun b u e=>by
 have s:Step H st (upd H a (.lst vs)) (put st a (.lst ds)):=lV h
 by_cases ha:b=a
 ·subst ha
  rw[aW]at e;cases e
  exact⟨vs,dF,r.step ok s⟩
 ·rw[bD ha]at e
  exact(ok b u e).step ok s (bG ha)
theorem aR.J1 {o:HO}{m m':MO}(ok:aR K st H)(h:st a=some m)(r:sV K (upd H a o) a m'):aR K (put st a m') (upd H a o):=fun b u e=>by
 have s:Step H st (upd H a o) (put st a m'):=lV h
 by_cases ha:b=a
 ·subst ha
  rw[aW]at e;cases e
  exact r
 ·rw[bD ha]at e
  exact(ok b u e).step ok s (bG ha)
theorem QD.set {R:VK}(ok:aR K st H){m:MO}(h:st a=some m)(r:aL K H ds vs)(rd:Rep K H d v)(q:R d (put st a (.lst ds))):QD K H st R v (upd H a (.lst vs)) :=
 ⟨d,put st a (.lst ds),lV h,ok.set h r,rd.step ok (lV (m':=.lst ds) h),q⟩
end
noncomputable def dE (K:aa)(H:Hp)(σd:St)(σ:L2.St):Prop:=σd.length=σ.length/\∀(i:Nat)(d:D),σd[i]? = some (some d)->∃ v,σ[i]? = some (some v)/\Rep K H d v
theorem dE.step {K:aa}{H H':Hp}{st aA:aB}{σd:St}{σ:L2.St}(r:dE K H σd σ)(ok:aR K st H)(s:Step H st H' aA):dE K H' σd σ :=
 ⟨r.1,fun i d e=>let⟨v,e1,e2⟩:=r.2 i d e;⟨v,e1,e2.step ok s⟩⟩
theorem dE.set {K:aa}{H:Hp}{σd:St}{σ:L2.St}{d:D}{v:V}(r:dE K H σd σ)(i:Nat)(h:Rep K H d v):dE K H (σd.set i (some d)) (σ.set i (some v)):=by
 refine⟨by simpa using r.1,fun j e hj=>?_⟩
 by_cases q:j=i
 ·subst q
  by_cases hl:j<σd.length
  ·rw[ke hl]at hj
   cases hj
   exact⟨v,by rw[ke (by rw[<-r.1];exact hl)],h⟩
  ·rw[dq (by simp;omega)]at hj;cases hj
 ·rw[g5 (jc q)]at hj
  obtain⟨u,e1,e2⟩:=r.2 j e hj
  exact⟨u,by rw[g5 (jc q)];exact e1,e2⟩
noncomputable abbrev Ef:=St->aB->VK->Prop
inductive bW (K:aa)(te:Ef)(σ:L2.St)(H:Hp)(Q:L2.VK):Prop where
 |mk (σd:St)(st:aB)(R:VK)(r:dE K H σd σ)(ok:aR K st H)(q:te σd st R)(hq:∀ v H',QD K H st R v H'->Q v H'):bW K te σ H Q
inductive kD (K:aa)(te:St->aB->(List D->aB->Prop)->Prop)(σ:L2.St)(H:Hp)(Q:List V->Hp->Prop):Prop where
 |mk (σd:St)(st:aB)(R:List D->aB->Prop)(r:dE K H σd σ)(ok:aR K st H)(q:te σd st R)(hq:∀ vs H',Kx K H st R vs H'->Q vs H'):kD K te σ H Q
inductive jQ (K:aa)(te:Ef)(σ:L2.St)(H:Hp)(Q:Bool->Hp->Prop):Prop where
 |mk (σd:St)(st:aB)(R:Bool->aB->Prop)(r:dE K H σd σ)(ok:aR K st H)(q:te σd st (fun d aA=>eB d aA fun b=>R b aA))(hq:∀(b:Bool) H',QX K H st (R b) H'->Q b H'):jQ K te σ H Q
theorem _root_.L2.PE.imp {X:Cx}{e:Expr}{t t':L2.TE}(i:∀ σ H Q,t' σ H Q->t σ H Q)(h:PE X e t):PE X e t':=fun pins s σ H Q I q=>h pins s σ H Q I (i σ H Q q)
theorem _root_.L2.PT.imp {X:Cx}{e:Expr}{t t':L2.TT}(i:∀ σ H Q,t' σ H Q->t σ H Q)(h:PT X e t):PT X e t':=fun pins s σ H Q I q=>h pins s σ H Q I (i σ H Q q)
theorem _root_.L2.PW.imp {X:Cx}{e:Expr}{t t':L2.TT}(i:∀ σ H Q,t' σ H Q->t σ H Q)(h:PW X e t):PW X e t':=fun wh pins s σ H Q I q=>h wh pins s σ H Q I (i σ H Q q)
theorem _root_.L2.PA.imp {X:Cx}{es:List Expr}{t t':L2.TA}(i:∀ σ H Q,t' σ H Q->t σ H Q)(h:PA X es t):PA X es t':=fun pos pins s σ H Q I q=>h pos pins s σ H Q I (i σ H Q q)
theorem _root_.L2.PS.imp {X:Cx}{e:Stmt}{t t':L2.TS}(i:∀ D σ H,t' D σ H->t D σ H)(h:PS X e t):PS X e t':=fun pins s σ H D I q=>h pins s σ H D I (i D σ H q)
theorem _root_.L2.kL.imp {X:Cx}{e:List Stmt}{t t':L2.TS}(i:∀ D σ H,t' D σ H->t D σ H)(h:kL X e t):kL X e t':=fun pins s σ H D I q=>h pins s σ H D I (i D σ H q)
end L3
end
section
namespace L3
open PySem PySem.Spec PyProof.Rows L2
theorem gB:sizeLine=bK:=jh
section
variable {X:Cx}{C:bE}{sub:Nat->Nat->Bool}{E:XK}{a b c e:Expr}{x y z:Ex}{pos:Pos}
theorem tL {d:D}{v:V}(h:PE X e (tC v))(r:∀ H,Rep X.K H d v):PE X e (bW X.K (aI C sub E (.c d))) :=
 h.imp fun σ H Q ⟨σd,st,R,_,ok,q,hq⟩=>by
 exact hq v H (.here ok (r H) q)
theorem N3 {i:Nat}(h:PE X e (S5 i)):PE X e (bW X.K (aI C sub E (.v i))) :=
 h.imp fun σ H Q ⟨σd,st,R,r,ok,q,hq⟩=>by
 have q:eD σd i (fun d=>R d st):=q
 unfold eD at q
 split at q
 ·rename_i d ed
  obtain⟨v,e1,e2⟩:=r.2 i d ed
  exact⟨v,e1,hq v H (.here ok e2 q)⟩
 ·exact q.elim
theorem Jv:PA X [] (kD X.K (bL C sub E [])) :=
 PZ.imp fun σ H Q ⟨σd,st,R,r,ok,q,hq⟩=>by
 exact hq [] H ⟨[],st,.refl,ok,.nil,q⟩
theorem Ax {es:List Expr}{xs:List Ex}(h:PE X e (bW X.K (aI C sub E x)))(hs:PA X es (kD X.K (bL C sub E xs)))
 (dN:ah (e::es) X.env=(false,eval e X.env)::ah es X.env):PA X (e::es) (kD X.K (bL C sub E (x::xs))) :=
 (DO h hs dN).imp fun σ H Q ⟨σd,st,R,r,ok,q,hq⟩=>by
 refine⟨σd,st,_,r,ok,q,fun v H1 ⟨d,aC,s1,aO,r1,q1⟩=>?_⟩
 refine⟨σd,aC,_,r.step ok s1,aO,q1,fun vs H2 ⟨ds,aF,s2,bY,r2,q2⟩=>?_⟩
 exact hq _ _ ⟨d::ds,aF,s1.trans s2,bY,.cons (r1.step aO s2) r2,q2⟩
theorem nX:∀(xs:List Ex){σ:St}{st:aB}{R:List D->aB->Prop},bQ C C->bL C sub E xs σ st R->bL C sub E xs σ st (fun ds aA=>ds.length=xs.length/\R ds aA)
 |[],σ,st,R,_,h=>by exact⟨rfl,h⟩
 |x::xs,σ,st,R,hC,h=>by
  refine aV hC (fun _ _ z=>z) x (fun d aA h'=>?_) h
  exact cS hC (fun _ _ z=>z) xs (fun ds aS z=>⟨by simp [z.1],z.2⟩) (nX xs hC h')
theorem Jg {es:List Expr}{xs:List Ex}{k:Nat}(hC:bQ C C)(hs:PA X es (kD X.K (bL C sub E xs)))(hl:xs.length<=bK):PE X (.Tuple es k pos) (bW X.K (aI C sub E (.tup xs))) :=
 (Ec hs).imp fun σ H Q ⟨σd,st,R,r,ok,q,hq⟩=>by
 refine⟨σd,st,_,r,ok,nX xs hC q,fun vs H1 ⟨ds,aC,s1,aO,r1,l1,q1⟩=>⟨?_,fun p hp=>?_⟩⟩
 ·rw[gB,<-r1.length,l1];exact hl
 ·exact hq _ _ (.after s1 (.IF aO r1 hp q1))
theorem Jt {es:List Expr}{xs:List Ex}(hs:PA X es (kD X.K (bL C sub E xs))):PE X (.List es pos) (bW X.K (aI C sub E (.lst xs))) :=
 (Er hs).imp fun σ H Q ⟨σd,st,R,r,ok,q,hq⟩=>by
 refine⟨σd,st,_,r,ok,q,fun vs H1 ⟨ds,aC,s1,aO,r1,q1⟩=>⟨?_,fun p hp=>?_⟩⟩
 ·rw[gB,<-r1.length];exact q1.1
 ·exact hq _ _ (.after s1 (.gE aO r1 hp q1.2))
theorem two {r:R2}{te tf:Ef}{σ:L2.St}{H:Hp}{Q:L2.VK}{σd:St}{st:aB}{W:D->D->aB->Prop}{R:VK}
 (sr:dE X.K H σd σ)(ok:aR X.K st H)(q:te σd st fun d aC=>tf σd aC fun d' aF=>W d d' aF)(hq:∀ v H',QD X.K H st R v H'->Q v H')
 (op:∀ d d' v v' H2 aF,aR X.K aF H2->Rep X.K H2 d v->Rep X.K H2 d' v'->W d d' aF->r v v' H2 (QD X.K H2 aF R))
 (mono:∀ v v' H (Q Q':L2.VK),(∀ v H,Q v H->Q' v H)->r v v' H Q->r v v' H Q'):ZV r (bW X.K te) (bW X.K tf) σ H Q:=by
 refine⟨σd,st,_,sr,ok,q,fun v H1 ⟨d,aC,s1,aO,r1,q1⟩=>?_⟩
 refine⟨σd,aC,_,sr.step ok s1,aO,q1,fun v' H2 ⟨d',aF,s2,bY,r2,q2⟩=>?_⟩
 refine mono _ _ _ _ _ (fun u H' z=>hq u H' (.after (s1.trans s2) z)) (op d d' v v' H2 aF bY (r1.step aO s2) r2 q2)
theorem HV {g:Int->Int->V}(v v':V)(H:Hp)(Q Q':L2.VK)(h:∀ v H,Q v H->Q' v H)(z:HC g v v' H Q):HC g v v' H Q':=let⟨i,j,e,e',q⟩:=z;⟨i,j,e,e',h _ _ q⟩
theorem zG {P:Int->Int->Prop}{g:Int->Int->V}(v v':V)(H:Hp)(Q Q':L2.VK)(h:∀ v H,Q v H->Q' v H)(z:rI P g v v' H Q):rI P g v v' H Q':=let⟨i,j,e,e',p,q⟩:=z;⟨i,j,e,e',p,h _ _ q⟩
end
end L3
end
section
namespace L3
open PySem PySem.Spec PyProof.Rows L2
theorem A1:fillsNumberSlot (.type "tuple") "mul" = pure false:=by kernel_rfl
theorem HL:seqRepeat? (.type "tuple")=pure (some (.builtin "tuple.__mul__")):=by kernel_rfl
theorem D0 (a:Int)(t:Tok)(l:Addr)(items:Array Value)(n:Nat)(dd:Option Addr)(sl:Array (Option Value)):
 Meets (Builtin.«int.__rmul__» ⟨[.int a t,.ref l],[]⟩) (fun _ R s=>s.heap.get? l=some { cls:=.type "tuple", dict:=dd,data:=.seq items n,slots:=sl }/\R (.ok (.ret Value.notImplemented)) s) :=
 .of_wp fun prog w A R s h=>by obtain⟨hp,g,d,tk,os⟩:=s;obtain⟨hl,h⟩:=h;wp_walk;exact⟨_,rfl,h⟩
section
variable {prog:br}{w:World}{A:b7}{E:Value->af->Prop}{s:af}
theorem J3 {l:Addr}{items:Array Value}{n:Nat}{dd:Option Addr}{sl:Array (Option Value)}{k:Int}{t:Tok}{Q:PySem.Fin->af->Prop}(hl:s.heap.get? l=some { cls:=.type "tuple", dict:=dd,data:=.seq items n,slots:=sl })
  (h1:1<=k)(h2:k<1000)(hm:0<items.size)(hm2:items.size<=1000)(oI:k=1->Q (.done (.ret (.ref l))) s)
  (h:Q (.done (.ret (.ref s.heap.objs.size))) { s with heap:=s.heap.push { cls:=.type "tuple", data:=.seq ((a9 k.toNat items).foldl (·++ ·) #[]) } }):
  wpAny (model prog w) A (Builtin.«tuple.__mul__» ⟨[.ref l,.int k t],[]⟩) Q E s:=by
 have hT:s.TypeIs (.ref l) "tuple":=⟨_,hl,rfl⟩
 unfold Builtin.«tuple.__mul__»
 wp_walk
 rw[if_neg (by simp;omega)]
 show wpAny _ _ (gk (.ref l) >>= _) _ _ s
 refine ae (xm hl rfl ?_)
 have hne:items.isEmpty=false:=by
  rw[Array.isEmpty_eq_false_iff];intro z;rw[z]at hm;simp at hm
 have jp:wpAny (model prog w) A (if(decide (k<=0)||items.isEmpty)=true then do
     let __do_lift <-fx #[]
     ret __do_lift
    else
     have __do_jp:=fun(__r:Unit) =>
      have __do_jp:=fun(__r:Unit)=>do
       let __do_lift <-
        fx (oe (fun x1 x2=>x1++x2) #[] (a9 k.toNat items))
       ret __do_lift;
      if qm (↑items.size*k)=true then do
       let __r <-unsupported "tuple.__mul__:memory"
       __do_jp __r
      else __do_jp ();
     if ↑items.size*k>(2 ^ 63-1) / 8 then do
      rule "tuple.repeat.no-memory"
      let __do_lift <-Ru (fq "MemoryError") []
      let __r <-raiseNew __do_lift
      __do_jp __r
     else __do_jp ()) Q E s:=by
  rw[if_neg (by rw[hne];simp;omega)]
  have hmul:(items.size:Int)*k<=1000*1000:=Int.mul_le_mul (by omega) (by omega) (by omega) (by decide)
  have hmul0:0<=(items.size:Int)*k:=Int.mul_nonneg (by omega) (by omega)
  dsimp only
  rw[if_neg (by omega),if_neg (by simp [qm,jh];omega)]
  wp_walk
  have mM:¬(oe (fun x1 x2=>x1++x2) #[] (a9 k.toNat items)).size>sizeLine:=by
   have e1:=wc items.toList k.toNat []
   rw[av]at e1
   have e2:oe (fun x1 x2=>x1++x2) #[] (a9 k.toNat items)=(a9 k.toNat items.toList).flatten.toArray:=by simpa using e1
   rw[e2,ar,List.length_flatten,List.map_replicate,List.sum_replicate_nat,i5,jh]
   have:k.toNat*items.size<=1000*1000:=zx (by omega) hm2
   omega
  rw[if_neg mM]
  wp_walk
  exact h
 show wpAny _ _ (if(items.isEmpty||k==1)=true then _ else _) _ _ s
 by_cases hk:k=1
 ·subst hk
  rw[if_pos (by simp)]
  wp_walk
  exact oI rfl
 ·rw[if_neg (by rw[hne];simpa using hk)]
  exact jp
end
noncomputable def VP (K:aa):R2:=fun x y H Q=>∃(a:Addr)(k:Int)(xs:List V),x=.ref a/\y=.int k/\eI K H a xs/\0<xs.length/\xs.length<=1000/\1<=k/\k<1000/\(k=1->Q (.ref a) H)/\∀ p,H p=none->Q (.ref p) (upd H p (.tup (a9 k.toNat xs).flatten))
theorem XB {X:Cx}:iA X (g6 .Mult) (VP X.K):=by
 intro pins s σ H x y v u Q I rx ry h
 obtain⟨a,k,xs,rfl,rfl,hH,h0,h00,h1,h2,oI,q⟩:=h
 cases rx
 obtain⟨t,rfl⟩:=ry
 obtain⟨aD,r,⟨⟨cls,dd,data,sl⟩,ho,hc,n,hd⟩,z⟩:=I.tuple hH
 simp only at hc hd
 subst hc hd
 have hl:xs.length=aD.length:=r.length
 have hnew:oe (fun x1 x2=>x1++x2) #[] (a9 k.toNat aD.toArray)=(a9 k.toNat aD).flatten.toArray:=by
  have:=wc aD k.toNat []
  rw[av]at this
  exact this
 refine qt (T :="tuple") (U :="int") (by decide) ⟨_,ho,rfl⟩ (fun s'=>xk s' k t) A1 PySem.F.fills_int_mul vd HL PySem.F.slot_int_index.lookup
  (mj vd (xk s k t) PySem.F.entry_int_rmul (PySem.F.args_int_rmul_2 _ _) (D0 k t a aD.toArray n dd sl)
   ⟨ho,rfl,⟨_,ho,rfl⟩,fe PySem.F.slot_tuple_mul ⟨_,ho,rfl⟩ PySem.F.entry_tuple_mul (J3 ho h1 h2 (by simpa [<-hl]using h0) (by simpa [<-hl]using h00) (fun e=>?_) ?_) (PySem.F.args_tuple_mul_2 _ _)⟩)
 ·exact⟨_,rfl,.ref a,H,I,rfl,oI e⟩
 ·refine⟨_,rfl,.ref s.heap.objs.size,_,I.laid (a:=s.heap.objs.size) (o:=.tup (a9 k.toNat xs).flatten) (t':=s.toks) (fun b u e=>ag _ e) (az _) ?_,rfl,q _ (I.bS.fresh (az _))⟩
  refine⟨by rw[len_rep,jh];have:k.toNat*xs.length<=1000*1000:=zx (by omega) h00;omega,_,r.rep k.toNat,?_⟩
  rw[hnew]
  exact pR.new s.heap _
end L3
end
section
namespace L3
open PySem PySem.Spec PyProof.Rows L2
section
variable {X:Cx}
theorem Y7 {prog:br}{w:World}{A:b7}{E:Value->af->Prop}{s:af}{t b:Addr}{ws:List Value}{Q:Value->af->Prop}(ht:IsTup s.heap t #[])(hb:IsTup s.heap b ws.toArray)
  (h:Q (.ref b) s):wpAny (model prog w) A (g6 .Add (.ref t) (.ref b)) Q E s:=by
 obtain⟨⟨cls,dd,data,sl⟩,ho,hc,n,hd⟩:=id ht
 obtain⟨⟨cls2,dd2,data2,sl2⟩,ho2,hc2,n2,hd2⟩:=id hb
 simp only at hc hd hc2 hd2
 subst hc hd hc2 hd2
 exact ye ⟨_,ho,rfl⟩ ⟨_,ho2,rfl⟩ si wu nj mr (l0 _ _)
  (tuple_addW0 t b #[] ws.toArray n n2 dd dd2 sl sl2 (by simp)) ⟨ho,ho2,h⟩
noncomputable def VZ (K:aa):R2:=fun x y H Q=>∃ a b ys,x=.ref a/\y=.ref b/\eI K H a []/\eI K H b ys/\Q (.ref b) H
theorem XX:iA X (g6 .Add) (VZ X.K):=by
 intro pins s σ H x y v u Q I rx ry h
 obtain⟨a,b,ys,rfl,rfl,ha,hb,q⟩:=h
 cases rx
 cases ry
 obtain⟨aD,r1,p1,_⟩:=I.tuple ha
 obtain⟨nR,r2,p2,_⟩:=I.tuple hb
 have e:aD=[]:=r1.zH.mpr rfl
 subst e
 exact Y7 p1 p2 ⟨.ref b,H,I,rfl,q⟩
noncomputable def Hg:R2:=fun x y H Q=>∃ i j,x=.str i/\y=.str j/\i.length+j.length<=sizeLine/\Q (.str (i++j)) H
noncomputable abbrev V7 (K:aa):R2:=fun x y H Q=>HC (fun i j=>.int (i+j)) x y H Q∨Hg x y H Q∨VM K x y H Q∨VZ K x y H Q∨Bu x y H Q
theorem YG:iA X (g6 .Add) (V7 X.K):=iA.or Ff (iA.or OJ (iA.or WQ (iA.or XX Bv)))
noncomputable abbrev VC (K:aa):R2:=fun x y H Q=>rI MW (fun i j=>.int (i*j)) x y H Q∨Be x y H Q∨VP K x y H Q
theorem YV:iA X (g6 .Mult) (VC X.K):=iA.or Bl (iA.or Eh XB)
noncomputable def Ar:tH->Operator
 |.add=>.Add|.sub=>.Sub|.mul=>.Mult|.fdiv=>.FloorDiv|.mod=>.Mod|.pow=>.Pow
noncomputable def NS (K:aa):tH->R2
 |.add=>V7 K
 |.sub=>HC fun i j=>.int (i-j)
 |.mul=>VC K
 |.fdiv=>rI Z0 fun i j=>.int (i / j)
 |.mod=>rI (fun _ j=>0<j) fun i j=>.int (i % j)
 |.pow=>rI ZX fun i j=>.int (i ^ j.toNat)
theorem Bb:∀ op:tH,iA X (g6 (Ar op)) (NS X.K op)
 |.add=>YG
 |.sub=>ZL
 |.mul=>YV
 |.fdiv=>WM
 |.mod=>Dz
 |.pow=>Fb
theorem QE {K:aa}:∀(op:tH)(v v':V)(H:Hp)(Q Q':L2.VK),(∀ v H,Q v H->Q' v H)->NS K op v v' H Q->NS K op v v' H Q'
 |.add,v,v',H,Q,Q',h,z=>by
  rcases z with z|⟨i,j,e,e',l,q⟩|⟨a,b,xs,ys,e,e',s,s',n,l,q,q'⟩|⟨a,b,ys,e,e',s,s',q⟩|⟨l,b,xs,zs,e,e',s,s',n,q⟩
  ·exact .inl (HV _ _ _ _ _ h z)
  ·exact .inr (.inl ⟨i,j,e,e',l,h _ _ q⟩)
  ·exact .inr (.inr (.inl ⟨a,b,xs,ys,e,e',s,s',n,l,fun z=>h _ _ (q z),fun z p hp=>h _ _ (q' z p hp)⟩))
  ·exact .inr (.inr (.inr (.inl ⟨a,b,ys,e,e',s,s',h _ _ q⟩)))
  ·exact .inr (.inr (.inr (.inr ⟨l,b,xs,zs,e,e',s,s',n,fun p hp=>h _ _ (q p hp)⟩)))
 |.sub,v,v',H,Q,Q',h,z=>HV _ _ _ _ _ h z
 |.mul,v,v',H,Q,Q',h,z=>by
  rcases z with z|⟨l,k,xs,e,e',s,b1,b2,b3,q⟩|⟨l,k,xs,e,e',s,b1,b2,b3,b4,q0,q⟩
  ·exact .inl (zG _ _ _ _ _ h z)
  ·exact .inr (.inl ⟨l,k,xs,e,e',s,b1,b2,b3,fun p hp=>h _ _ (q p hp)⟩)
  ·exact .inr (.inr ⟨l,k,xs,e,e',s,b1,b2,b3,b4,fun z=>h _ _ (q0 z),fun p hp=>h _ _ (q p hp)⟩)
 |.fdiv,v,v',H,Q,Q',h,z=>zG _ _ _ _ _ h z
 |.mod,v,v',H,Q,Q',h,z=>zG _ _ _ _ _ h z
 |.pow,v,v',H,Q,Q',h,z=>zG _ _ _ _ _ h z
end
section
variable {K:aa}{H:Hp}{st:aB}{R:VK}
theorem Rep.int_inv {i:Int}{v:V}(r:Rep K H (.int i) v):v=.int i:=by cases r;rfl
theorem Rep.str_inv {x:List Nat}{v:V}(r:Rep K H (.str x) v):v=.str ⟨x.toArray⟩:=by cases r;rfl
theorem Rep.fJ {b:Bool}{v:V}(r:Rep K H (.bl b) v):v=.bl b:=by cases r;rfl
theorem Rep.fP {v:V}(r:Rep K H .non v):v=.non:=by cases r;rfl
theorem Rep.cI {a:Addr}{v:V}(r:Rep K H (.ref a) v):v=.ref a:=by cases r;rfl
theorem Rep.bT {ds:List D}{v:V}(r:Rep K H (.tup ds) v):∃ a vs,v=.ref a/\eI K H a vs/\aL K H ds vs:=by cases r with|tup h r=>exact⟨_,_,rfl,h,r⟩
theorem Rep.J5 {ks vs:List D}{v:V}(r:Rep K H (.cV ks vs) v):∃ a,v=.ref a/\Bf K a ks vs:=by cases r with|cV h=>exact⟨_,rfl,h⟩
theorem Rep.kR {ds:List D}{v:V}(r:Rep K H (.bI ds) v):∃ a vs,v=.ref a/\mB K H a vs/\aL K H ds vs:=by cases r with|bI h r=>exact⟨_,_,rfl,h,r⟩
theorem dU {a:Nat}{P:List D->Prop}(h:cF st a P):∃ ds,st a=some (.lst ds)/\P ds:=by
 unfold cF at h
 split at h
 ·rename_i ds e;exact⟨ds,e,h⟩
 ·exact h.elim
theorem rY {a:Nat}{P:List D->Prop}{M:List D->List D->Prop}(ok:aR K st H)(h:dQ st a P M):∃ ds,st a=some (.lst ds)/\P ds:=by
 unfold dQ at h
 split at h
 ·rename_i ds e;exact⟨ds,e,h⟩
 ·rename_i e;exact(ok _ _ e).elim
 ·exact h.elim
theorem eM {α:Type}{o:Option α}{P:α->Prop}(h:cZ o P):∃ x,o=some x/\P x:=by
 unfold cZ at h
 split at h
 ·exact⟨_,rfl,h⟩
 ·exact h.elim
theorem XW (x y:List Nat):(⟨x.toArray⟩:Str)++⟨y.toArray⟩=⟨(x++y).toArray⟩:=by
 show Str.mk _=Str.mk _
 simp
theorem aL.nil_inv {vs:List V}(r:aL K H [] vs):vs=[]:=by cases r;rfl
theorem aL.flat {ds:List D}{vs:List V}(r:aL K H ds vs):∀ k:Nat,aL K H (a9 k ds).flatten (a9 k vs).flatten
 |0=>.nil
 |k+1=>by simp only[i7,kx];exact r.append (aL.flat r k)
theorem Q9 {op:tH}{d d':D}{v v':V}(ok:aR K st H)(r:Rep K H d v)(r':Rep K H d' v')(h:iR op d d' st R):NS K op v v' H (QD K H st R):=by
 unfold iR at h
 split at h
 ·cases r.int_inv;cases r'.int_inv
  exact .inl ⟨_,_,rfl,rfl,.here ok (.int _) h⟩
 ·rename_i a b
  cases r.str_inv;cases r'.str_inv
  refine .inr (.inl ⟨_,_,rfl,rfl,?_,?_⟩)
  ·rw[gB];simpa [j2]using h.1
  ·rw[XW];exact .here ok (.str _) h.2
 ·rename_i ds es
  obtain⟨a,vs,rfl,s1,q1⟩:=r.bT
  obtain⟨b,us,rfl,s2,q2⟩:=r'.bT
  cases ds with
  |nil =>
   cases q1.nil_inv
   exact .inr (.inr (.inr (.inl ⟨a,b,us,rfl,rfl,s1,s2,.here ok r' (by simpa using h.2)⟩)))
  |cons d ds =>
   refine .inr (.inr (.inl ⟨a,b,vs,us,rfl,rfl,s1,s2,?_,?_,fun e=>?_,fun _ p hp=>.IF ok (q1.append q2) hp h.2⟩))
   ·intro e;subst e;cases q1
   ·rw[gB,<-q1.length,<-q2.length];exact h.1
   ·subst e
    cases q2
    exact .here ok r (by simpa using h.2)
 ·rename_i a b
  cases r.cI;cases r'.cI
  obtain⟨xs,e1,h⟩:=dU h
  obtain⟨ys,e2,h⟩:=dU h
  obtain⟨vs,g1,q1⟩:=ok.lst e1
  obtain⟨us,g2,q2⟩:=ok.lst e2
  refine .inr (.inr (.inr (.inr ⟨a,b,vs,us,rfl,rfl,g1,g2,?_,fun p hp=>.gE ok (q1.append q2) hp h.2⟩)))
  rw[gB,<-q1.length,<-q2.length];simpa using h.1
 ·cases r.int_inv;cases r'.int_inv
  exact⟨_,_,rfl,rfl,.here ok (.int _) h⟩
 ·cases r.int_inv;cases r'.int_inv
  exact .inl ⟨_,_,rfl,rfl,h.1.imp (fun z=>z) (fun z=>z),.here ok (.int _) h.2⟩
 ·rename_i a k
  cases r.cI;cases r'.int_inv
  obtain⟨xs,e1,h1,h2,h⟩:=dU h
  obtain⟨vs,g1,q1⟩:=ok.lst e1
  refine .inr (.inl ⟨a,k,vs,rfl,rfl,g1,by omega,by omega,?_,fun p hp=>.gE ok (q1.flat _) hp h.2⟩)
  rw[gB,<-q1.length];exact h1
 ·rename_i xs k
  obtain⟨a,vs,rfl,f,g⟩:=r.bT
  cases r'.int_inv
  obtain⟨⟨c1,c2,c3,c4⟩,h⟩:=h
  refine .inr (.inr ⟨a,k,vs,rfl,rfl,f,by rw[<-g.length];exact c1,by rw[<-g.length];exact c2,c3,c4,fun e=>?_,fun p hp=>.IF ok (g.flat _) hp h⟩)
  subst e
  have e1:(a9 (1:Int).toNat xs).flatten=xs:=by simp
  rw[e1]at h
  exact .here ok r h
 ·cases r.int_inv;cases r'.int_inv
  exact⟨_,_,rfl,rfl,h.1,.here ok (.int _) h.2⟩
 ·cases r.int_inv;cases r'.int_inv
  exact⟨_,_,rfl,rfl,h.1,.here ok (.int _) h.2⟩
 ·cases r.int_inv;cases r'.int_inv
  exact⟨_,_,rfl,rfl,h.1,.here ok (.int _) h.2⟩
 ·exact h.elim
end
section
variable {X:Cx}{C:bE}{sub:Nat->Nat->Bool}{E:XK}{a b c e:Expr}{x y z:Ex}{pos:Pos}
theorem Ki {op:tH}(ha:PE X a (bW X.K (aI C sub E x)))(hb:PE X b (bW X.K (aI C sub E y))):PE X (.BinOp a (Ar op) b pos) (bW X.K (aI C sub E (.bin op x y))) :=
 (Hk (Bb op) ha hb).imp fun σ H Q ⟨σd,st,R,r,ok,q,hq⟩=>by
 exact two (W:=fun d d' aF=>iR op d d' aF R) r ok q hq (fun d d' v v' H2 aF bY r1 r2 h=>Q9 bY r1 r2 h) (QE op)
theorem Hw (ha:PE X a (bW X.K (aI C sub E x))):PE X (.UnaryOp .USub a pos) (bW X.K (aI C sub E (.neg x))) :=
 (Ju Dq ha).imp fun σ H Q ⟨σd,st,R,r,ok,q,hq⟩=>by
 refine⟨σd,st,_,r,ok,q,fun v H1 ⟨d,aC,s1,aO,r1,q1⟩=>?_⟩
 have q1:yD d aC R:=q1
 unfold yD at q1
 split at q1
 ·cases r1.int_inv
  exact⟨_,rfl,hq _ _ (.after s1 (.here aO (.int _) q1))⟩
 ·exact q1.elim
noncomputable def Mj (d:D)(st:aB):Option Bool:=match d with
 |.non=>some false
 |.bl b=>some b
 |.int i=>some (i != 0)
 |.str x=>if x.length<=bK then some (!x.isEmpty)else none
 |.tup ds=>some (!ds.isEmpty)
 |.ref a=>match st a with
  |some (.lst ds)=>some (!ds.isEmpty)
  |some (.dic ks _)=>some (!ks.isEmpty)
  |some _=>none
  |none=>none
 |.bI ds=>some (!ds.isEmpty)
 |_=>none
theorem uY {d:D}{st:aB}{P:Bool->Prop}:eB d st P↔∃ k,Mj d st=some k/\P k:=by
 cases d with
 |str x =>
  show(x.length<=bK/\P (!x.isEmpty))↔∃ k,(if x.length<=bK then some (!x.isEmpty)else none)=some k/\P k
  split
  ·rename_i h;exact⟨fun z=>⟨_,rfl,z.2⟩,fun⟨k,e,q⟩=>⟨h,by cases e;exact q⟩⟩
  ·rename_i h;exact⟨fun z=>(h z.1).elim,fun⟨k,e,q⟩=>by cases e⟩
 |ref a =>
  show dQ st a _ _↔∃ k,(match st a with|some (.lst ds)=>some (!ds.isEmpty)|some (.dic ks _)=>some (!ks.isEmpty)|some _=>none|none=>none)=some k/\P k
  unfold dQ
  cases st a with
  |none=>exact⟨fun z=>z.elim,fun⟨k,e,q⟩=>by cases e⟩
  |some o=>cases o with
   |lst ds=>exact⟨fun z=>⟨_,rfl,z⟩,fun⟨k,e,q⟩=>by cases e;exact q⟩
   |dic ks vs=>exact⟨fun z=>⟨_,rfl,z⟩,fun⟨k,e,q⟩=>by cases e;exact q⟩
   |ins _ _=>exact⟨fun z=>z.elim,fun⟨k,e,q⟩=>by cases e⟩
   |tab _ _=>exact⟨fun z=>z.elim,fun⟨k,e,q⟩=>by cases e⟩
   |fn _ _=>exact⟨fun z=>z.elim,fun⟨k,e,q⟩=>by cases e⟩
   |cod _=>exact⟨fun z=>z.elim,fun⟨k,e,q⟩=>by cases e⟩
 |cV _ _=>exact⟨fun z=>z.elim,fun⟨k,e,q⟩=>by cases e⟩
 |exc _=>exact⟨fun z=>z.elim,fun⟨k,e,q⟩=>by cases e⟩
 |_=>exact⟨fun z=>⟨_,rfl,z⟩,fun⟨k,e,q⟩=>by cases e;exact q⟩
theorem iS {α:Type}(x:List α):(!x.isEmpty)=(((x.length:Nat):Int) != 0):=by
 cases x with
 |nil=>rfl
 |cons a r =>
 simp only[yg,j7,bj]
 symm
 rw[bne_iff_ne];omega
theorem sQ {K:aa}{H:Hp}{st:aB}{d:D}{v:V}{P:Bool->Prop}(ok:aR K st H)(r:Rep K H d v)(h:eB d st P):∃ k,TF K v H k/\P k:=by
 unfold eB at h
 split at h
 ·cases r.fP;exact⟨_,rfl,h⟩
 ·cases r.fJ;exact⟨_,rfl,h⟩
 ·cases r.int_inv;exact⟨_,rfl,h⟩
 ·rename_i x P
  cases r.str_inv
  refine⟨_,⟨by rw[gB];simpa [j2]using h.1,?_⟩,h.2⟩
  rw[iS];simp [j2]
 ·obtain⟨a,vs,rfl,s1,q1⟩:=r.bT
  refine⟨_,.inr (.inl ⟨vs,s1,?_⟩),h⟩
  rw[iS,iS,q1.length]
 ·cases r.cI
  obtain⟨ds,e,h⟩:=rY ok h
  obtain⟨vs,g,q⟩:=ok.lst e
  refine⟨_,.inl ⟨vs,eH.of g,?_⟩,h⟩
  rw[iS,iS,q.length]
 ·obtain⟨a,vs,rfl,s1,q1⟩:=r.kR
  refine⟨_,.inl ⟨vs,s1.sq,?_⟩,h⟩
  rw[iS,iS,q1.length]
 ·exact h.elim
theorem U4 (h:PE X e (bW X.K (aI C sub E x)))(he:∀ whole,yo e X.env whole=(do let v <-whole;p9 e.pos;j4 [v] (Rr v))):PT X e (jQ X.K (aI C sub E x)) :=
 (SK h he).imp fun σ H Q ⟨σd,st,R,r,ok,q,hq⟩=>by
 refine⟨σd,st,_,r,ok,q,fun v H1 ⟨d,aC,s1,aO,r1,q1⟩=>?_⟩
 obtain⟨k,t,z⟩:=sQ aO r1 q1
 exact⟨k,t,hq _ _ ⟨aC,s1,aO,z⟩⟩
theorem Ai (h:PT X e (jQ X.K (aI C sub E x))):PT X (.UnaryOp .Not e pos) (jQ X.K (aI C sub E (.not_ x))) :=
 (Dj h).imp fun σ H Q ⟨σd,st,R,r,ok,q,hq⟩=>by
 exact⟨σd,st,fun b aA=>R (!b) aA,r,ok,q,fun b H1 z=>hq _ _ z⟩
theorem Hs (h:PE X e (bW X.K (aI C sub E x))):PE X (.UnaryOp .Not e pos) (bW X.K (aI C sub E (.not_ x))):=by
 intro pins s σ H Q I ⟨σd,st,R,r,ok,q,hq⟩
 refine UnaryOp_ (bB (h pins s σ H _ I ⟨σd,st,_,r,ok,q,fun v H' z=>z⟩) fun u s1 ⟨v,H1,I1,rv,d,aC,st1s,aO,r1,q1⟩=>?_)
 obtain⟨k,t,z⟩:=sQ aO r1 q1
 exact not_of (bB (BJ pins s1 σ H1 v u (fun b H'=>Q (.bl (!b)) H') I1 rv ⟨k,t,hq _ _ (.after st1s (.here aO (.bl _) z))⟩) fun b s2 ⟨H2,I2,w⟩=>⟨.bl (!b),H2,I2,rfl,w⟩)
theorem Co {op:Rv}(h:PT X e (jQ X.K (aI C sub E x))):PW X (.BoolOp op [e] pos) (jQ X.K (aI C sub E x)):=by
 cases op
 ·exact YZ h
 ·exact Az h
theorem Am {rest:List Expr}(hC:bQ C C)(ha:PT X a (jQ X.K (aI C sub E x)))(hb:PW X (.BoolOp .And (b::rest) pos) (jQ X.K (aI C sub E y))):PW X (.BoolOp .And (a::b::rest) pos) (jQ X.K (aI C sub E (.and_ x y))) :=
 (Bq ha hb).imp fun σ H Q ⟨σd,st,R,r,ok,q,hq⟩=>by
 refine⟨σd,st,fun k aC=>if k=true then aI C sub E y σd aC (fun d aA=>eB d aA fun b=>R b aA)else R false aC,r,ok,aV hC (fun _ _ z=>z) x (fun d aC z=>?_) q,fun k H1 ⟨aC,s1,aO,z⟩=>?_⟩
 ·rw[uY]at z ⊢
  obtain⟨k,t,z⟩:=z
  refine⟨k,t,?_⟩
  cases k with
  |true=>exact z
  |false =>
  have z':eB d aC fun b=>R b aC:=z
  rw[uY]at z'
  obtain⟨k',t',z'⟩:=z'
  rw[t]at t';cases t'
  exact z'
 ·cases k with
  |true=>exact⟨σd,aC,R,r.step ok s1,aO,z,fun k H2 ⟨aF,s2,bY,w⟩=>hq _ _ ⟨aF,s1.trans s2,bY,w⟩⟩
  |false=>exact hq _ _ ⟨aC,s1,aO,z⟩
theorem Ka {rest:List Expr}(hC:bQ C C)(ha:PT X a (jQ X.K (aI C sub E x)))(hb:PW X (.BoolOp .Or (b::rest) pos) (jQ X.K (aI C sub E y))):PW X (.BoolOp .Or (a::b::rest) pos) (jQ X.K (aI C sub E (.or_ x y))) :=
 (Gv ha hb).imp fun σ H Q ⟨σd,st,R,r,ok,q,hq⟩=>by
 refine⟨σd,st,fun k aC=>if k=true then R true aC else aI C sub E y σd aC (fun d aA=>eB d aA fun b=>R b aA),r,ok,aV hC (fun _ _ z=>z) x (fun d aC z=>?_) q,fun k H1 ⟨aC,s1,aO,z⟩=>?_⟩
 ·rw[uY]at z ⊢
  obtain⟨k,t,z⟩:=z
  refine⟨k,t,?_⟩
  cases k with
  |false=>exact z
  |true =>
  have z':eB d aC fun b=>R b aC:=z
  rw[uY]at z'
  obtain⟨k',t',z'⟩:=z'
  rw[t]at t';cases t'
  exact z'
 ·cases k with
  |false=>exact⟨σd,aC,R,r.step ok s1,aO,z,fun k H2 ⟨aF,s2,bY,w⟩=>hq _ _ ⟨aF,s1.trans s2,bY,w⟩⟩
  |true=>exact hq _ _ ⟨aC,s1,aO,z⟩
theorem Hl {rest:List Expr}(ha:PE X a (bW X.K (aI C sub E x)))(hb:PE X (.BoolOp .And (b::rest) pos) (bW X.K (aI C sub E y))):PE X (.BoolOp .And (a::b::rest) pos) (bW X.K (aI C sub E (.and_ x y))):=by
 intro pins s σ H Q I ⟨σd,st,R,r,ok,q,hq⟩
 refine BoolOp_and (bB (ha pins s σ H _ I ⟨σd,st,_,r,ok,q,fun v H' z=>z⟩) fun u s1 ⟨v,H1,I1,rv,d,aC,st1s,aO,r1,q1⟩=>?_)
 obtain⟨k,t,z⟩:=sQ aO r1 q1
 refine bB (BJ pins s1 σ H1 v u (fun b H'=>b=k/\H'=H1) I1 rv ⟨k,t,rfl,rfl⟩) fun b s2 ⟨H2,I2,e,e'⟩=>?_
 subst e e'
 cases b with
 |true=>exact hb pins s2 σ H2 Q I2 ⟨σd,aC,R,r.step ok st1s,aO,z,fun v H' w=>hq _ _ (.after st1s w)⟩
 |false=>exact⟨v,H2,I2,rv,hq _ _ (.after st1s (.here aO r1 z))⟩
theorem Nu {rest:List Expr}(ha:PE X a (bW X.K (aI C sub E x)))(hb:PE X (.BoolOp .Or (b::rest) pos) (bW X.K (aI C sub E y))):PE X (.BoolOp .Or (a::b::rest) pos) (bW X.K (aI C sub E (.or_ x y))):=by
 intro pins s σ H Q I ⟨σd,st,R,r,ok,q,hq⟩
 refine BoolOp_or (bB (ha pins s σ H _ I ⟨σd,st,_,r,ok,q,fun v H' z=>z⟩) fun u s1 ⟨v,H1,I1,rv,d,aC,st1s,aO,r1,q1⟩=>?_)
 obtain⟨k,t,z⟩:=sQ aO r1 q1
 refine bB (BJ pins s1 σ H1 v u (fun b H'=>b=k/\H'=H1) I1 rv ⟨k,t,rfl,rfl⟩) fun b s2 ⟨H2,I2,e,e'⟩=>?_
 subst e e'
 cases b with
 |false=>exact hb pins s2 σ H2 Q I2 ⟨σd,aC,R,r.step ok st1s,aO,z,fun v H' w=>hq _ _ (.after st1s w)⟩
 |true=>exact⟨v,H2,I2,rv,hq _ _ (.after st1s (.here aO r1 z))⟩
theorem Il {op:Rv}(h:PE X e (bW X.K (aI C sub E x))):PE X (.BoolOp op [e] pos) (bW X.K (aI C sub E x)):=Cp h
end
end L3
end
section
namespace L3
open PySem PySem.Spec PyProof.Rows L2 PySem.SeqAt
mutual
theorem vR:∀ d:D,bC d=true->bN d d=true
 |.non,_=>rfl
 |.bl b,_=>by simp [bN]
 |.int i,_=>by simp [bN]
 |.str x,_=>by simp [bN]
 |.tup ds,h=>by simp only[bC]at h;simp only[bN];exact kO ds h
 |.ref _,h=>by simp [bC]at h
 |.cV _ _,h=>by simp [bC]at h
 |.bI _,h=>by simp [bC]at h
 |.exc _,h=>by simp [bC]at h
theorem kO:∀ ds:List D,bM ds=true->gL ds ds=true
 |[],_=>rfl
 |d::ds,h=>by
  simp only[bM,aq]at h
  simp only[gL,aq]
  exact⟨vR d h.1,kO ds h.2⟩
end
theorem mP:∀{ds:List D}{d:D},bM ds=true->d∈ds->bC d=true
 |e::ds,d,h,m=>by
  simp only[bM,aq]at h
  rcases List.mem_cons.mp m with rfl|m
  ·exact h.1
  ·exact mP h.2 m
theorem jD:∀{ds:List D}{d:D},d∈ds->cJ d<=cK ds
 |e::ds,d,m=>by
  simp only[cK]
  rcases List.mem_cons.mp m with rfl|m
  ·omega
  ·have:=jD m;omega
theorem vH:∀{ds es:List D}(e:Nat->Bool),(∀ j d d',ds[j]? = some d->es[j]? = some d'->e j=bN d d')->((ai (min ds.length es.length)).all e&&ds.length==es.length)=gL ds es
 |[],[],e,h=>by simp [gL]
 |[],_::_,e,h=>by simp [gL]
 |_::_,[],e,h=>by simp [gL]
 |d::ds,d'::es,e,h=>by
  have ih:=vH (fun j=>e (j+1)) fun j x x' e1 e2=>h (j+1) x x' (by simpa using e1) (by simpa using e2)
  have h0:=h 0 d d' rfl rfl
  simp only[gL,bj,ve,jd,om,qe,nu]
  rw[<-ih,h0]
  have hl:(ds.length+1==es.length+1)=(ds.length==es.length):=by simp
  rw[hl,zy]
theorem RX {ds es:List D}(e:Nat->Bool)(hl:ds.length=es.length)(h:∀ j d d',ds[j]? = some d->es[j]? = some d'->e j=bN d d'):(ai ds.length).all e=gL ds es:=by
 rw[<-vH e h,<-hl];simp
theorem IX:∀{ds es:List D},ds.length≠es.length->gL ds es=false
 |[],[],h=>(h rfl).elim
 |[],_::_,h=>rfl
 |_::_,[],h=>rfl
 |d::ds,d'::es,h=>by simp only[gL,IX (ds:=ds) (es:=es) (by simpa using h),cg]
section
variable {X:Cx}{pins:List (Addr×Obj)}{σ:L2.St}{H:Hp}{s:af}{st:aB}
theorem aQ.at {vs:List V}{aD:List Value}(r:aQ vs aD){j:Nat}(h:j<aD.toArray.size):∃ v,vs[j]? = some v/\RelV v aD.toArray[j]:=by
 have hl:=r.length
 have hj:j<vs.length:=by simp at h;omega
 obtain⟨u,e1,e2⟩:=aQ.get r (aj hj)
 refine⟨vs[j],aj hj,?_⟩
 rw[lq]at e1
 obtain⟨h1,e1⟩:=e1
 simp only[List.getElem_toArray,e1]
 exact e2
theorem aL.get' {K:aa}:∀{ds:List D}{vs:List V}{i:Nat}{v:V},aL K H ds vs->vs[i]? = some v->∃ d,ds[i]? = some d/\Rep K H d v
 |_,_,_,_,.nil,e=>by simp at e
 |_,_,0,_,.cons h _,e=>by simp at e;subst e;exact⟨_,rfl,h⟩
 |_,_,i+1,v,.cons _ r,e=>by
  obtain⟨d,e1,e2⟩:=aL.get' (i:=i) (v:=v) r (by simpa using e)
  exact⟨d,by simpa using e1,e2⟩
theorem zB (I:Inv X pins σ H s):∀(n:Nat){d d':D}{v:V},cJ d<=n->bC d=true->bC d'=true->Rep X.K H d v->Rep X.K H d' v->d=d':=by
 intro n
 induction n with
 |zero =>
 intro d d' v hn p p' r r'
 cases r<;>cases r'<;>first|rfl|(simp [bC]at p;done)|(simp [bC]at p';done)|(simp [cJ]at hn;done)
 |succ n ih =>
 intro d d' v hn p p' r r'
 cases r<;>cases r'<;>first|rfl|(simp [bC]at p;done)|(simp [bC]at p';done)|skip
 rename_i ds a vs h r es us r' h'
 cases I.sE h h'
 have go:∀(ds es:List D)(vs:List V),cK ds<=n->bM ds=true->bM es=true->aL X.K H ds vs->aL X.K H es vs->ds=es:=by
  intro ds
  induction ds with
  |nil=>intro es vs _ _ _ r r';cases r;cases r';rfl
  |cons d ds ihs =>
  intro es vs hd pp pp' r r'
  cases r with
  |cons r1 r2=>cases r' with
   |cons r1' r2' =>
   simp only[cK]at hd
   simp only[bM,aq]at pp pp'
   rw[ih (by omega) pp.1 pp'.1 r1 r1',ihs _ _ (by omega) pp.2 pp'.2 r2 r2']
 rw[go ds es vs (by simp only[cJ]at hn;omega) (by simpa [bC]using p) (by simpa [bC]using p') r r']
noncomputable def wB (A:b7)(s:af)(u u':Value)(b:Bool):Prop:=RcAt A s u u' b/\EqAt A s u u' b/\RcNeAt A s u u' (!b)
noncomputable def oJ:D->Bool
 |.non=>true
 |.bl _=>true
 |.int _=>true
 |.str _=>true
 |_=>false
theorem KE (x y:List Nat):((⟨x.toArray⟩:Str)==⟨y.toArray⟩)=(x==y):=by
 rw[<-Rz]
theorem uS {K:aa}{H:Hp}{A:b7}{s:af}{d d':D}{v v':V}{u u':Value}(p:oJ d=true)(p':oJ d'=true)(r:Rep K H d v)(rv:RelV v u)(r':Rep K H d' v')(bH:RelV v' u'):wB A s u u' (bN d d'):=by
 cases d with
 |non=>cases d' with
  |non =>
   cases r.fP;cases rv
   cases r'.fP;cases bH
   exact⟨RcAt.none_none,yt _,RcNeAt.none_none⟩
  |bl b' =>
   cases r.fP;cases rv
   cases r'.fJ;cases bH
   simp only[bN]
   exact⟨RcAt.none_bool _,EqAt.none_bool _,RcNeAt.none_bool _⟩
  |int i' =>
   cases r.fP;cases rv
   cases r'.int_inv;obtain⟨_,rfl⟩:=bH
   simp only[bN]
   exact⟨RcAt.none_int _ _,EqAt.none_int _ _,RcNeAt.none_int _ _⟩
  |str x' =>
   cases r.fP;cases rv
   cases r'.str_inv;obtain⟨_,rfl⟩:=bH
   simp only[bN]
   exact⟨RcAt.none_str _ _,EqAt.none_str _ _,RcNeAt.none_str _ _⟩
  |_=>cases p'
 |bl b=>cases d' with
  |non =>
   cases r.fJ;cases rv
   cases r'.fP;cases bH
   simp only[bN]
   exact⟨RcAt.bool_none _,EqAt.bool_none _,RcNeAt.bool_none _⟩
  |bl b' =>
   cases r.fJ;cases rv
   cases r'.fJ;cases bH
   simp only[bN]
   exact⟨RcAt.bool_bool _ _,vq _ _,RcNeAt.bool_bool _ _⟩
  |int i' =>
   cases r.fJ;cases rv
   cases r'.int_inv;obtain⟨_,rfl⟩:=bH
   simp only[bN]
   exact⟨RcAt.bool_int _ _ _,EqAt.bool_int _ _ _,RcNeAt.bool_int _ _ _⟩
  |str x' =>
   cases r.fJ;cases rv
   cases r'.str_inv;obtain⟨_,rfl⟩:=bH
   simp only[bN]
   exact⟨RcAt.bool_str _ _ _,wz _ _ _,RcNeAt.bool_str _ _ _⟩
  |_=>cases p'
 |int i=>cases d' with
  |non =>
   cases r.int_inv;obtain⟨_,rfl⟩:=rv
   cases r'.fP;cases bH
   simp only[bN]
   exact⟨RcAt.int_none _ _,EqAt.int_none _ _,RcNeAt.int_none _ _⟩
  |bl b' =>
   cases r.int_inv;obtain⟨_,rfl⟩:=rv
   cases r'.fJ;cases bH
   simp only[bN]
   exact⟨RcAt.int_bool _ _ _,EqAt.int_bool _ _ _,RcNeAt.int_bool _ _ _⟩
  |int i' =>
   cases r.int_inv;obtain⟨_,rfl⟩:=rv
   cases r'.int_inv;obtain⟨_,rfl⟩:=bH
   simp only[bN]
   exact⟨RcAt.int_int _ _ _ _,EqAt.int_int _ _ _ _,RcNeAt.int_int _ _ _ _⟩
  |str x' =>
   cases r.int_inv;obtain⟨_,rfl⟩:=rv
   cases r'.str_inv;obtain⟨_,rfl⟩:=bH
   simp only[bN]
   exact⟨RcAt.int_str _ _ _ _,EqAt.int_str _ _ _ _,RcNeAt.int_str _ _ _ _⟩
  |_=>cases p'
 |str x=>cases d' with
  |non =>
   cases r.str_inv;obtain⟨_,rfl⟩:=rv
   cases r'.fP;cases bH
   simp only[bN]
   exact⟨RcAt.str_none _ _,EqAt.str_none _ _,RcNeAt.str_none _ _⟩
  |bl b' =>
   cases r.str_inv;obtain⟨_,rfl⟩:=rv
   cases r'.fJ;cases bH
   simp only[bN]
   exact⟨RcAt.str_bool _ _ _,w4 _ _ _,RcNeAt.str_bool _ _ _⟩
  |int i' =>
   cases r.str_inv;obtain⟨_,rfl⟩:=rv
   cases r'.int_inv;obtain⟨_,rfl⟩:=bH
   simp only[bN]
   exact⟨RcAt.str_int _ _ _ _,EqAt.str_int _ _ _ _,RcNeAt.str_int _ _ _ _⟩
  |str x' =>
   cases r.str_inv;obtain⟨_,rfl⟩:=rv
   cases r'.str_inv;obtain⟨_,rfl⟩:=bH
   have e:bN (.str x) (.str x')=((⟨x.toArray⟩:Str)==⟨x'.toArray⟩):=by rw[KE];simp only[bN]
   rw[e]
   exact⟨RcAt.str_str _ _ _ _,yh _ _ _ _,RcNeAt.str_str _ _ _ _⟩
  |_=>cases p'
 |_=>cases p
theorem gR {K:aa}{H:Hp}{A:b7}{s:af}{l:Addr}{aD:Array Value}{d':D}{v':V}{u':Value}(hl:s.heap.IsTuple l aD)(hu:A.units<cLine)(p':oJ d'=true)(r':Rep K H d' v')(bH:RelV v' u'):wB A s (.ref l) u' false/\wB A s u' (.ref l) false:=by
 cases d' with
 |non =>
 cases r'.fP;cases bH
 exact⟨⟨RcAt.tuple_none hl hu,EqAt.tuple_none hl hu,RcNeAt.tuple_none hl hu⟩,⟨RcAt.none_tuple hl hu,EqAt.none_tuple hl hu,RcNeAt.none_tuple hl hu⟩⟩
 |bl b =>
 cases r'.fJ;cases bH
 exact⟨⟨RcAt.tuple_bool _ hl hu,zl _ hl hu,RcNeAt.tuple_bool _ hl hu⟩,⟨RcAt.bool_tuple _ hl hu,uw _ hl hu,RcNeAt.bool_tuple _ hl hu⟩⟩
 |int i =>
 cases r'.int_inv;obtain⟨_,rfl⟩:=bH
 exact⟨⟨RcAt.tuple_int _ _ hl hu,EqAt.tuple_int _ _ hl hu,RcNeAt.tuple_int _ _ hl hu⟩,⟨RcAt.int_tuple _ _ hl hu,EqAt.int_tuple _ _ hl hu,RcNeAt.int_tuple _ _ hl hu⟩⟩
 |str x =>
 cases r'.str_inv;obtain⟨_,rfl⟩:=bH
 exact⟨⟨RcAt.tuple_str _ _ hl hu,z9 _ _ hl hu,RcNeAt.tuple_str _ _ hl hu⟩,⟨RcAt.str_tuple _ _ hl hu,vt _ _ hl hu,RcNeAt.str_tuple _ _ hl hu⟩⟩
 |_=>cases p'
theorem lR {K:aa}{H:Hp}{A:b7}{s:af}{l:Addr}{aD:Array Value}{d':D}{v':V}{u':Value}(hl:s.heap.IsList l aD)(hu:A.units<cLine)(p':oJ d'=true)(r':Rep K H d' v')(bH:RelV v' u'):wB A s (.ref l) u' false/\wB A s u' (.ref l) false:=by
 cases d' with
 |non =>
 cases r'.fP;cases bH
 exact⟨⟨RcAt.list_none hl hu,EqAt.list_none hl hu,RcNeAt.list_none hl hu⟩,⟨RcAt.none_list hl hu,EqAt.none_list hl hu,RcNeAt.none_list hl hu⟩⟩
 |bl b =>
 cases r'.fJ;cases bH
 exact⟨⟨RcAt.list_bool _ hl hu,EqAt.list_bool _ hl hu,RcNeAt.list_bool _ hl hu⟩,⟨RcAt.bool_list _ hl hu,EqAt.bool_list _ hl hu,RcNeAt.bool_list _ hl hu⟩⟩
 |int i =>
 cases r'.int_inv;obtain⟨_,rfl⟩:=bH
 exact⟨⟨RcAt.list_int _ _ hl hu,EqAt.list_int _ _ hl hu,RcNeAt.list_int _ _ hl hu⟩,⟨RcAt.int_list _ _ hl hu,EqAt.int_list _ _ hl hu,RcNeAt.int_list _ _ hl hu⟩⟩
 |str x =>
 cases r'.str_inv;obtain⟨_,rfl⟩:=bH
 exact⟨⟨RcAt.list_str _ _ hl hu,EqAt.list_str _ _ hl hu,RcNeAt.list_str _ _ hl hu⟩,⟨RcAt.str_list _ _ hl hu,EqAt.str_list _ _ hl hu,RcNeAt.str_list _ _ hl hu⟩⟩
 |_=>cases p'
theorem J0 (I:Inv X pins σ H s){A:b7}{a b:Addr}{vs us:List V}{b0:Bool}(e:Nat->Bool)(ha:eI X.K H a vs)(hb:eI X.K H b us)(hu:A.units<cLine)(hs:a=b->b0=true)
  (he:∀ j v v' u u',vs[j]? = some v->us[j]? = some v'->RelV v u->RelV v' u'->EqAt A.in1 s u u' (e j))(hb0:((ai (min vs.length us.length)).all e&&vs.length==us.length)=b0):wB A s (.ref a) (.ref b) b0:=by
 obtain⟨aD,r1,p1,_⟩:=I.tuple ha
 obtain⟨jts,r2,p2,_⟩:=I.tuple hb
 have l1:aD.toArray.size=vs.length:=by rw[ar];exact r1.length.symm
 have l2:jts.toArray.size=us.length:=by rw[ar];exact r2.length.symm
 have hi:∀ j (h1:j<aD.toArray.size)(h2:j<jts.toArray.size),EqAt A.in1 s aD.toArray[j] jts.toArray[j] (e j):=fun j h1 h2=>by
  obtain⟨v,e1,q1⟩:=aQ.at r1 h1
  obtain⟨v',e2,q2⟩:=aQ.at r2 h2
  exact he j v v' _ _ e1 e2 q1 q2
 have rc:RcAt A s (.ref a) (.ref b) b0:=by
  have:=Rj (e:=e) p1 p2 hu hi
  rw[l1,l2,hb0]at this
  exact this
 have rn:RcNeAt A s (.ref a) (.ref b) (!b0):=by
  have:=RcNeAt.tuples (e:=e) p1 p2 hu hi
  rw[l1,l2,hb0]at this
  exact this
 refine⟨rc,?_,rn⟩
 by_cases q:a=b
 ·rw[hs q,q];exact yt _
 ·exact yi q rc
theorem UI (I:Inv X pins σ H s){A:b7}{a b:Addr}{vs us:List V}{b0:Bool}(e:Nat->Bool)(ha:eH X.K H a vs)(hb:eH X.K H b us)(hu:A.units<cLine)(hs:a=b->b0=true)
  (he:∀ j v v' u u',vs[j]? = some v->us[j]? = some v'->RelV v u->RelV v' u'->EqAt A.in1 s u u' (e j))(hn:vs.length≠us.length->b0=false)(hb0:vs.length=us.length->(ai vs.length).all e=b0):wB A s (.ref a) (.ref b) b0:=by
 obtain⟨aD,r1,p1,_⟩:=I.list ha
 obtain⟨jts,r2,p2,_⟩:=I.list hb
 have l1:aD.toArray.size=vs.length:=by rw[ar];exact r1.length.symm
 have l2:jts.toArray.size=us.length:=by rw[ar];exact r2.length.symm
 have hi:∀ j (h1:j<aD.toArray.size)(h2:j<jts.toArray.size),EqAt A.in1 s aD.toArray[j] jts.toArray[j] (e j):=fun j h1 h2=>by
  obtain⟨v,e1,q1⟩:=aQ.at r1 h1
  obtain⟨v',e2,q2⟩:=aQ.at r2 h2
  exact he j v v' _ _ e1 e2 q1 q2
 have both:RcAt A s (.ref a) (.ref b) b0/\RcNeAt A s (.ref a) (.ref b) (!b0):=by
  by_cases hl:vs.length=us.length
  ·have:=RcAt.lists (e:=e) p1.isList p2.isList (by rw[l1,l2,hl]) hu hi
   have rn:=RcNeAt.lists (e:=e) p1.isList p2.isList (by rw[l1,l2,hl]) hu hi
   rw[l1,hb0 hl]at this rn
   exact⟨this,rn⟩
  ·rw[hn hl]
   have hz:(aD.toArray.size != jts.toArray.size)=true:=by rw[l1,l2,bne_iff_ne];exact hl
   exact⟨RcAt.lists_lengths p1.isList p2.isList hz hu,RcNeAt.lists_lengths p1.isList p2.isList hz hu⟩
 refine⟨both.1,?_,both.2⟩
 by_cases q:a=b
 ·rw[hs q,q];exact yt _
 ·exact yi q both.1
theorem uE {d:D}(p:bC d=true):oJ d=true∨∃ ds,d=.tup ds:=by
 cases d<;>first|exact .inl rfl|exact .inr ⟨_,rfl⟩|cases p
theorem Ox (I:Inv X pins σ H s):∀(n:Nat){d d':D}{A:b7}{v v':V}{u u':Value},cJ d<=n->bC d=true->bC d'=true->Rep X.K H d v->RelV v u->Rep X.K H d' v'->RelV v' u'->A.units+n+2<cLine ->
  wB A s u u' (bN d d'):=by
 intro n
 induction n with
 |zero =>
  intro d d' A v v' u u' hn p p' r rv r' bH hu
  have jB:A.units<cLine:=by omega
  rcases uE p with q|⟨ds,rfl⟩
  ·rcases uE p' with q'|⟨jF,rfl⟩
   ·exact uS q q' r rv r' bH
   ·obtain⟨b,us,rfl,h2,q2⟩:=r'.bT
    cases bH
    obtain⟨aD,r1,p1,_⟩:=I.tuple h2
    have:=(gR p1 jB q r rv).2
    have e:bN d (.tup jF)=false:=by cases d<;>first|rfl|cases q
    rw[e];exact this
  ·simp only[cJ]at hn;omega
 |succ n ih =>
  intro d d' A v v' u u' hn p p' r rv r' bH hu
  have jB:A.units<cLine:=by omega
  rcases uE p with q|⟨ds,rfl⟩
  ·rcases uE p' with q'|⟨jF,rfl⟩
   ·exact uS q q' r rv r' bH
   ·obtain⟨b,us,rfl,h2,q2⟩:=r'.bT
    cases bH
    obtain⟨aD,r1,p1,_⟩:=I.tuple h2
    have:=(gR p1 jB q r rv).2
    have e:bN d (.tup jF)=false:=by cases d<;>first|rfl|cases q
    rw[e];exact this
  ·obtain⟨a,vs,rfl,h1,q1⟩:=r.bT
   cases rv
   rcases uE p' with q'|⟨jF,rfl⟩
   ·obtain⟨aD,r1,p1,_⟩:=I.tuple h1
    have:=(gR p1 jB q' r' bH).1
    have e:bN (.tup ds) d'=false:=by cases d'<;>first|rfl|cases q'
    rw[e];exact this
   ·obtain⟨b,us,rfl,h2,q2⟩:=r'.bT
    cases bH
    have pd:bM ds=true:=by simpa [bC]using p
    have pd':bM jF=true:=by simpa [bC]using p'
    have e0:bN (.tup ds) (.tup jF)=gL ds jF:=by simp only[bN]
    rw[e0]
    refine J0 I (fun j=>match ds[j]?,jF[j]? with|some x,some y=>bN x y|_,_=>true) h1 h2 jB (fun e=>?_) (fun j v v' u u' e1 e2 rv bH=>?_) ?_
    ·subst e
     have:=zB I (cJ (.tup ds)) (az _) p p' r r'
     cases this
     exact kO ds pd
    ·obtain⟨x,f1,g1⟩:=aL.get' q1 e1
     obtain⟨y,f2,g2⟩:=aL.get' q2 e2
     simp only[f1,f2]
     have hx:=jD (bf f1)
     simp only[cJ]at hn
     exact(ih (by omega) (mP pd (bf f1)) (mP pd' (bf f2)) g1 rv g2 bH (by simp only[fh];omega)).2.1
    ·rw[<-q1.length,<-q2.length]
     exact vH _ fun j x y e1 e2=>by simp only[e1,e2]
end
end L3
end
section
namespace L3
open PySem PySem.Spec PyProof.Rows L2 PySem.SeqAt
noncomputable def qQ (st:aB):D->Option (List D)
 |.ref a=>match st a with
  |some (.lst xs)=>some xs
  |_=>none
 |.bI xs=>some xs
 |_=>none
theorem kinds {st:aB}{d:D}(p:fG st d=true):oJ d=true∨(∃ ds,d=.tup ds/\gX st ds=true)∨∃ xs,qQ st d=some xs/\bM xs=true/\cK xs<=kW:=by
 cases d with
 |tup ds=>exact .inr (.inl ⟨ds,rfl,by simpa [fG]using p⟩)
 |ref a =>
  simp only[fG]at p
  cases q:st a with
  |none=>rw[q]at p;cases p
  |some o=>cases o with
   |lst xs =>
    rw[q]at p
    simp only[HZ,aq,decide_eq_true_eq]at p
    exact .inr (.inr ⟨xs,by simp [qQ,q],p⟩)
   |dic _ _=>rw[q]at p;cases p
   |ins _ _=>rw[q]at p;cases p
   |tab _ _=>rw[q]at p;cases p
   |fn _ _=>rw[q]at p;cases p
   |cod _=>rw[q]at p;cases p
 |bI xs =>
  simp only[fG,aq,decide_eq_true_eq]at p
  exact .inr (.inr ⟨xs,rfl,p⟩)
 |cV _ _=>cases p
 |exc _=>cases p
 |_=>exact .inl rfl
theorem B3 {st:aB}{d d':D}{xs ys:List D}(h:qQ st d=some xs)(h':qQ st d'=some ys):bO st d d'=gL xs ys:=by
 cases d with
 |ref a =>
  simp only[qQ]at h
  split at h
  ·rename_i zs e
   cases h
   cases d' with
   |ref b =>
    simp only[qQ]at h'
    split at h'
    ·rename_i ws e'
     cases h'
     simp only[bO,e,e',AQ]
    ·cases h'
   |bI ws=>cases h';simp only[bO,e,AQ]
   |_=>cases h'
  ·cases h
 |bI zs =>
  cases h
  cases d' with
  |ref b =>
   simp only[qQ]at h'
   split at h'
   ·rename_i ws e'
    cases h'
    simp only[bO,e',AQ]
   ·cases h'
  |bI ws=>cases h';simp only[bO]
  |_=>cases h'
 |_=>cases h
theorem BO {st:aB}{d d':D}{xs:List D}(h:qQ st d=some xs)(p:oJ d'=true):bO st d d'=false/\bO st d' d=false:=by
 cases d<;>first|(cases h;done)|skip
 all_goals (cases d'<;>first|(cases p;done)|exact⟨rfl,rfl⟩|(simp [bO];done))
theorem HH {st:aB}{d:D}{ds xs:List D}(h:qQ st d=some xs):bO st d (.tup ds)=false/\bO st (.tup ds) d=false:=by
 cases d<;>first|(cases h;done)|exact⟨rfl,rfl⟩|(simp [bO];done)
theorem DA {st:aB}{d d':D}(p:oJ d=true)(p':oJ d'=true):bO st d d'=bN d d':=by
 cases d<;>first|(cases p;done)|skip
 all_goals (cases d'<;>first|(cases p';done)|rfl|(simp [bO,bN];done))
theorem G5 {st:aB}{d:D}{ds:List D}(p:oJ d=true):bO st d (.tup ds)=false/\bO st (.tup ds) d=false:=by
 cases d<;>first|(cases p;done)|exact⟨rfl,rfl⟩|(simp [bO];done)
theorem gK {st:aB}:∀{ds:List D}{d:D},gX st ds=true->d∈ds->fG st d=true
 |e::ds,d,h,m=>by
  simp only[gX,aq]at h
  rcases List.mem_cons.mp m with rfl|m
  ·exact h.1
  ·exact gK h.2 m
theorem KL {st:aB}:∀{ds es:List D}(e:Nat->Bool),(∀ j d d',ds[j]? = some d->es[j]? = some d'->e j=bO st d d')->((ai (min ds.length es.length)).all e&&ds.length==es.length)=iP st ds es
 |[],[],e,h=>by simp [iP]
 |[],_::_,e,h=>by simp [iP]
 |_::_,[],e,h=>by simp [iP]
 |d::ds,d'::es,e,h=>by
  have ih:=KL (fun j=>e (j+1)) fun j x x' e1 e2=>h (j+1) x x' (by simpa using e1) (by simpa using e2)
  have h0:=h 0 d d' rfl rfl
  simp only[iP,bj,ve,jd,om,qe,nu]
  rw[<-ih,h0]
  have hl:(ds.length+1==es.length+1)=(ds.length==es.length):=by simp
  rw[hl,zy]
section
variable {X:Cx}{pins:List (Addr×Obj)}{σ:L2.St}{H:Hp}{s:af}{st:aB}
theorem fY {K:aa}{d:D}{v:V}{xs:List D}(ok:aR K st H)(h:qQ st d=some xs)(r:Rep K H d v):∃ a vs,v=.ref a/\eH K H a vs/\aL K H xs vs:=by
 cases r with
 |ref a =>
 simp only[qQ]at h
 split at h
 ·rename_i zs e
  cases h
  obtain⟨vs,g,q⟩:=ok.lst e
  exact⟨a,vs,rfl,eH.of g,q⟩
 ·cases h
 |bI f q=>cases h;exact⟨_,_,rfl,f.sq,q⟩
 |_=>cases h
theorem qO (I:Inv X pins σ H s):∀{ds es:List D}{vs:List V},bM ds=true->bM es=true->aL X.K H ds vs->aL X.K H es vs->ds=es
 |_,_,_,_,_,.nil,.nil=>rfl
 |_,_,_,p,p',.cons h r,.cons h' r'=>by
  simp only[bM,aq]at p p'
  rw[zB I _ (az _) p.1 p'.1 h h',qO I p.2 p'.2 r r']
theorem DB (I:Inv X pins σ H s){a:Addr}{vs us:List V}(h:eH X.K H a vs)(h':eI X.K H a us):False:=by
 obtain⟨aD,_,p1,_⟩:=I.list h
 obtain⟨jts,_,p2,_⟩:=I.tuple h'
 exact ne_of_list_tuple p1.isList p2 rfl
theorem W6 (I:Inv X pins σ H s)(ok:aR X.K st H):∀(n:Nat){d d':D}{v:V},cJ d<=n->fG st d=true->fG st d'=true->Rep X.K H d v->Rep X.K H d' v->bO st d d'=true:=by
 intro n
 induction n with
 |zero =>
  intro d d' v hn p p' r r'
  rcases kinds p with q|⟨ds,rfl,q⟩|⟨xs,q,q1,q2⟩
  ·rcases kinds p' with q'|⟨jF,rfl,q'⟩|⟨ys,q',q1',q2'⟩
   ·rw[DA q q']
    have pd:bC d=true:=by cases d<;>first|rfl|cases q
    have pd':bC d'=true:=by cases d'<;>first|rfl|cases q'
    rw[zB I _ (az _) pd pd' r r']
    exact vR d' pd'
   ·obtain⟨a,vs,rfl,_⟩:=r'.bT
    cases r<;>cases q
   ·obtain⟨a,vs,rfl,_⟩:=fY ok q' r'
    cases r<;>cases q
  ·simp only[cJ]at hn;omega
  ·obtain⟨a,vs,rfl,f1,g1⟩:=fY ok q r
   rcases kinds p' with q'|⟨jF,rfl,q'⟩|⟨ys,q',q1',q2'⟩
   ·cases r'<;>cases q'
   ·obtain⟨b,us,e,f2,g2⟩:=r'.bT
    cases e
    exact(DB I f1 f2).elim
   ·obtain⟨b,us,e,f2,g2⟩:=fY ok q' r'
    cases e
    cases I.rC f1 f2
    rw[B3 q q',qO I q1 q1' g1 g2]
    exact kO _ q1'
 |succ n ih =>
  intro d d' v hn p p' r r'
  rcases kinds p with q|⟨ds,rfl,q⟩|⟨xs,q,q1,q2⟩
  ·rcases kinds p' with q'|⟨jF,rfl,q'⟩|⟨ys,q',q1',q2'⟩
   ·rw[DA q q']
    have pd:bC d=true:=by cases d<;>first|rfl|cases q
    have pd':bC d'=true:=by cases d'<;>first|rfl|cases q'
    rw[zB I _ (az _) pd pd' r r']
    exact vR d' pd'
   ·obtain⟨a,vs,rfl,_⟩:=r'.bT
    cases r<;>cases q
   ·obtain⟨a,vs,rfl,_⟩:=fY ok q' r'
    cases r<;>cases q
  ·obtain⟨a,vs,rfl,f1,g1⟩:=r.bT
   rcases kinds p' with q'|⟨jF,rfl,q'⟩|⟨ys,q',q1',q2'⟩
   ·cases r'<;>cases q'
   ·obtain⟨b,us,e,f2,g2⟩:=r'.bT
    cases e
    cases I.sE f1 f2
    simp only[cJ]at hn
    have go:∀(ds es:List D)(vs:List V),cK ds<=n->gX st ds=true->gX st es=true->aL X.K H ds vs->aL X.K H es vs->iP st ds es=true:=by
     intro ds
     induction ds with
     |nil=>intro es vs _ _ _ r r';cases r;cases r';rfl
     |cons d ds ihs =>
      intro es vs hd pp pp' r r'
      cases r with
      |cons r1 r2=>cases r' with
       |cons r1' r2' =>
        simp only[cK]at hd
        simp only[gX,aq]at pp pp'
        simp only[iP,aq]
        exact⟨ih (by omega) pp.1 pp'.1 r1 r1',ihs _ _ (by omega) pp.2 pp'.2 r2 r2'⟩
    simp only[bO]
    exact go ds jF vs (by omega) q q' g1 g2
   ·obtain⟨b,us,e,f2,g2⟩:=fY ok q' r'
    cases e
    exact(DB I f2 f1).elim
  ·obtain⟨a,vs,rfl,f1,g1⟩:=fY ok q r
   rcases kinds p' with q'|⟨jF,rfl,q'⟩|⟨ys,q',q1',q2'⟩
   ·cases r'<;>cases q'
   ·obtain⟨b,us,e,f2,g2⟩:=r'.bT
    cases e
    exact(DB I f1 f2).elim
   ·obtain⟨b,us,e,f2,g2⟩:=fY ok q' r'
    cases e
    cases I.rC f1 f2
    rw[B3 q q',qO I q1 q1' g1 g2]
    exact kO _ q1'
theorem oG {A:b7}{l b:Addr}{aD jts:Array Value}(hl:s.heap.IsList l aD)(hb:s.heap.IsTuple b jts)(hu:A.units<cLine):wB A s (.ref l) (.ref b) false/\wB A s (.ref b) (.ref l) false :=
 ⟨⟨RcAt.list_tuple hl hb hu,EqAt.list_tuple hl hb hu,RcNeAt.list_tuple hl hb hu⟩,⟨RcAt.tuple_list hb hl hu,EqAt.tuple_list hb hl hu,RcNeAt.tuple_list hb hl hu⟩⟩
theorem Q7 (I:Inv X pins σ H s){A:b7}{a b:Addr}{vs us:List V}{xs ys:List D}(f1:eH X.K H a vs)(g1:aL X.K H xs vs)(f2:eH X.K H b us)(g2:aL X.K H ys us)(p1:bM xs=true)(d1:cK xs<=kW)(p2:bM ys=true)
  (hu:A.units+85<cLine):wB A s (.ref a) (.ref b) (gL xs ys):=by
 refine UI I (fun j=>match xs[j]?,ys[j]? with|some x,some y=>bN x y|_,_=>true) f1 f2 (by omega) (fun e=>?_) (fun j v v' u u' e1 e2 rv bH=>?_) (fun h=>?_) (fun h=>?_)
 ·subst e
  cases I.rC f1 f2
  rw[qO I p1 p2 g1 g2]
  exact kO _ p2
 ·obtain⟨x,h1,k1⟩:=aL.get' g1 e1
  obtain⟨y,h2,k2⟩:=aL.get' g2 e2
  simp only[h1,h2]
  have hx:=jD (bf h1)
  have hD:kW=80:=rfl
  exact(Ox I kW (by omega) (mP p1 (bf h1)) (mP p2 (bf h2)) k1 rv k2 bH (by simp only[fh];omega)).2.1
 ·exact IX (by rw[g1.length,g2.length];exact h)
 ·rw[<-g1.length]
  exact RX _ (by rw[g1.length,g2.length];exact h) fun j x y e1 e2=>by simp only[e1,e2]
theorem M0 (I:Inv X pins σ H s)(ok:aR X.K st H):∀(n:Nat){d d':D}{A:b7}{v v':V}{u u':Value},cJ d<=n->fG st d=true->fG st d'=true->Rep X.K H d v->RelV v u->Rep X.K H d' v'->RelV v' u'->A.units+n+85<cLine ->
  wB A s u u' (bO st d d'):=by
 intro n
 induction n with
 |zero =>
  intro d d' A v v' u u' hn p p' r rv r' bH hu
  have jB:A.units<cLine:=by omega
  rcases kinds p with q|⟨ds,rfl,q⟩|⟨xs,q,q1,q2⟩
  ·rcases kinds p' with q'|⟨jF,rfl,q'⟩|⟨ys,q',q1',q2'⟩
   ·rw[DA q q'];exact uS q q' r rv r' bH
   ·obtain⟨b,us,rfl,h2,g2⟩:=r'.bT
    cases bH
    obtain⟨aD,r1,p1,_⟩:=I.tuple h2
    rw[(G5 q).1]
    exact(gR p1 jB q r rv).2
   ·obtain⟨b,us,rfl,h2,g2⟩:=fY ok q' r'
    cases bH
    obtain⟨aD,r1,p1,_⟩:=I.list h2
    rw[(BO q' q).2]
    exact(lR p1.isList jB q r rv).2
  ·simp only[cJ]at hn;omega
  ·obtain⟨a,vs,rfl,f1,g1⟩:=fY ok q r
   cases rv
   obtain⟨aD,r1,p1,_⟩:=I.list f1
   rcases kinds p' with q'|⟨jF,rfl,q'⟩|⟨ys,q',q1',q2'⟩
   ·rw[(BO q q').1]
    exact(lR p1.isList jB q' r' bH).1
   ·obtain⟨b,us,rfl,h2,g2⟩:=r'.bT
    cases bH
    obtain⟨jts,r2,p2,_⟩:=I.tuple h2
    rw[(HH q).1]
    exact(oG p1.isList p2 jB).1
   ·obtain⟨b,us,rfl,h2,g2⟩:=fY ok q' r'
    cases bH
    rw[B3 q q']
    exact Q7 I f1 g1 h2 g2 q1 q2 q1' (by omega)
 |succ n ih =>
  intro d d' A v v' u u' hn p p' r rv r' bH hu
  have jB:A.units<cLine:=by omega
  rcases kinds p with q|⟨ds,rfl,q⟩|⟨xs,q,q1,q2⟩
  ·rcases kinds p' with q'|⟨jF,rfl,q'⟩|⟨ys,q',q1',q2'⟩
   ·rw[DA q q'];exact uS q q' r rv r' bH
   ·obtain⟨b,us,rfl,h2,g2⟩:=r'.bT
    cases bH
    obtain⟨aD,r1,p1,_⟩:=I.tuple h2
    rw[(G5 q).1]
    exact(gR p1 jB q r rv).2
   ·obtain⟨b,us,rfl,h2,g2⟩:=fY ok q' r'
    cases bH
    obtain⟨aD,r1,p1,_⟩:=I.list h2
    rw[(BO q' q).2]
    exact(lR p1.isList jB q r rv).2
  ·obtain⟨a,vs,rfl,f1,g1⟩:=r.bT
   cases rv
   obtain⟨aD,r1,p1,_⟩:=I.tuple f1
   rcases kinds p' with q'|⟨jF,rfl,q'⟩|⟨ys,q',q1',q2'⟩
   ·rw[(G5 q').2]
    exact(gR p1 jB q' r' bH).1
   ·obtain⟨b,us,rfl,h2,g2⟩:=r'.bT
    cases bH
    have e0:bO st (.tup ds) (.tup jF)=iP st ds jF:=by simp only[bO]
    refine J0 I (fun j=>match ds[j]?,jF[j]? with|some x,some y=>bO st x y|_,_=>true) f1 h2 jB (fun e=>?_) (fun j v v' u u' e1 e2 rv bH=>?_) ?_
    ·subst e
     exact W6 I ok _ (az _) p p' r r'
    ·obtain⟨x,k1,l1⟩:=aL.get' g1 e1
     obtain⟨y,k2,l2⟩:=aL.get' g2 e2
     simp only[k1,k2]
     have hx:=jD (bf k1)
     simp only[cJ]at hn
     exact(ih (by omega) (gK q (bf k1)) (gK q' (bf k2)) l1 rv l2 bH (by simp only[fh];omega)).2.1
    ·rw[<-g1.length,<-g2.length,e0]
     exact KL _ fun j x y e1 e2=>by simp only[e1,e2]
   ·obtain⟨b,us,rfl,h2,g2⟩:=fY ok q' r'
    cases bH
    obtain⟨jts,r2,p2,_⟩:=I.list h2
    rw[(HH q').2]
    exact(oG p2.isList p1 jB).2
  ·obtain⟨a,vs,rfl,f1,g1⟩:=fY ok q r
   cases rv
   obtain⟨aD,r1,p1,_⟩:=I.list f1
   rcases kinds p' with q'|⟨jF,rfl,q'⟩|⟨ys,q',q1',q2'⟩
   ·rw[(BO q q').1]
    exact(lR p1.isList jB q' r' bH).1
   ·obtain⟨b,us,rfl,h2,g2⟩:=r'.bT
    cases bH
    obtain⟨jts,r2,p2,_⟩:=I.tuple h2
    rw[(HH q).1]
    exact(oG p1.isList p2 jB).1
   ·obtain⟨b,us,rfl,h2,g2⟩:=fY ok q' r'
    cases bH
    rw[B3 q q']
    exact Q7 I f1 g1 h2 g2 q1 q2 q1' (by omega)
end
end L3
end
section
namespace L3
open PySem PySem.Spec PyProof.Rows L2 PySem.SeqAt
mutual
inductive jC (h:Heap):D->Value->Prop where
 |str (x:List Nat)(t:Tok):jC h (.str x) (.str ⟨x.toArray⟩ t)
 |bl (b:Bool):jC h (.bl b) (.bool b)
 |tup {ds:List D}{a:Addr}{o:Obj}{aD:Array Value}{n:Nat}(e:h.get? a=some o)(c:o.cls=.type "tuple")(d:o.data=.seq aD n)(r:fW h ds aD.toList):jC h (.tup ds) (.ref a)
inductive fW (h:Heap):List D->List Value->Prop where
 |nil:fW h [] []
 |cons {d:D}{ds:List D}{v:Value}{vs:List Value}(r:jC h d v)(rs:fW h ds vs):fW h (d::ds) (v::vs)
end
section
variable {h h':Heap}
theorem jC.str_inv {d:D}{x:Str}{t:Tok}(q:jC h d (.str x t)):∃ y,d=.str y/\x=⟨y.toArray⟩:=by
 cases q;exact⟨_,rfl,rfl⟩
theorem jC.fJ {d:D}{b:Bool}(q:jC h d (.bool b)):d=.bl b:=by
 cases q;rfl
theorem jC.cI {d:D}{a:Addr}(q:jC h d (.ref a)):∃ ds o aD n,d=.tup ds/\h.get? a=some o/\o.cls=.type "tuple" /\ o.data=.seq aD n/\fW h ds aD.toList:=by
 cases q with|tup e c d r=>exact⟨_,_,_,_,rfl,e,c,d,r⟩
mutual
theorem jC.inj:∀{x y:D}{v:Value},jC h x v->jC h y v->x=y
 |_,y,_,.str x t,q=>by
  obtain⟨z,rfl,e⟩:=q.str_inv
  have:x.toArray=z.toArray:=congrArg Sa e
  have:x=z:=by simpa using this
  rw[this]
 |_,y,_,.bl b,q=>q.fJ.symm
 |_,y,_,.tup e c d r,q=>by
  obtain⟨ds,o,aD,n,rfl,e',c',d',r'⟩:=q.cI
  rw[e]at e';cases e'
  rw[d]at d'
  injection d' with d1 d2
  subst d1
  rw[fW.inj r r']
theorem fW.inj:∀{xs ys:List D}{vs:List Value},fW h xs vs->fW h ys vs->xs=ys
 |_,_,_,.nil,q=>by cases q;rfl
 |_,_,_,.cons r rs,q=>by cases q with|cons r' rs'=>rw[jC.inj r r',fW.inj rs rs']
end
mutual
theorem jC.keeps {b:Addr}{ob:Obj}{es:Array DictEntry}{ep:Nat}(ho:h.get? b=some ob)(hd:ob.data=.dict es ep)(hs:kc b h h'):∀{x:D}{v:Value},jC h x v->jC h' x v
 |_,_,.str x t=>.str x t
 |_,_,.bl b=>.bl b
 |_,_,@jC.tup _ ds a o aD n e c d r=>.tup (by
  have ne:a≠b:=by
   intro z
   rw[z,ho]at e;cases e
   rw[hd]at d;cases d
  exact(hs.2 a ne).trans e) c d (fW.keeps ho hd hs r)
theorem fW.keeps {b:Addr}{ob:Obj}{es:Array DictEntry}{ep:Nat}(ho:h.get? b=some ob)(hd:ob.data=.dict es ep)(hs:kc b h h'):∀{xs:List D}{vs:List Value},fW h xs vs->fW h' xs vs
 |_,_,.nil=>.nil
 |_,_,.cons r rs=>.cons (jC.keeps ho hd hs r) (fW.keeps ho hd hs rs)
end
theorem fW.length:∀{xs:List D}{vs:List Value},fW h xs vs->xs.length=vs.length
 |_,_,.nil=>rfl
 |_,_,.cons _ rs=>by simp [fW.length rs]
theorem fW.get:∀{xs:List D}{vs:List Value}{j:Nat}{v:Value},fW h xs vs->vs[j]? = some v->∃ x,xs[j]? = some x/\jC h x v
 |_,_,_,_,.nil,e=>by simp at e
 |_,_,0,_,.cons r _,e=>by simp at e;subst e;exact⟨_,rfl,r⟩
 |_,_,j+1,v,.cons _ rs,e=>by
  obtain⟨x,e1,e2⟩:=fW.get (j:=j) (v:=v) rs (by simpa using e)
  exact⟨x,by simpa using e1,e2⟩
end
theorem wL (w:World):∀ a b:List D,gU w (a++b)=gU w a++gU w b
 |[],b=>by simp [gU]
 |d::a,b=>by simp [gU,wL w a b]
theorem wM:∀ a b:List D,jW (a++b)=jW a+jW b
 |[],b=>by simp [jW]
 |d::a,b=>by simp [jW,wM a b,oo]
theorem LM {prog:br}{w:World}{b:Bool}{A:b7}{E:Value->af->Prop}{s:af}{Q:Int->af->Prop}(hu:A.units<cLine)(h:Q (qG w (.bl b)) { s with toks:=s.toks+sJ (.bl b) }):wpAny (model prog w) A (pyHash (.bool b)) Q E s:=by
 refine PySem.W.pyHash_slot (T :="bool") rfl PySem.F.slot_bool_hash PySem.F.entry_int_hash (PySem.F.args_int_hash_1 _) (yu _) (.inr hu) ?_
 cases b
 ·exact(show wpAny _ _ (do ret (<-mkInt 0)) _ _ s from ae (rf (ao ⟨_,_,rfl,h⟩)))
 ·exact(show wpAny _ _ (do ret (<-mkInt 1)) _ _ s from ae (rf (ao ⟨_,_,rfl,h⟩)))
theorem YA {prog:br}{w:World}:∀(n:Nat){d:D}{v:Value}{A:b7}{E:Value->af->Prop}{s:af}{Q:Int->af->Prop},cJ d<=n->jC s.heap d v->A.units+n<cLine->Q (qG w d) { s with toks:=s.toks+sJ d } ->
  wpAny (model prog w) A (pyHash v) Q E s:=by
 intro n
 induction n with
 |zero =>
  intro d v A E s Q hn hk hu h
  cases hk with
  |str x t =>
   simp only[qG,sJ]at h
   exact(strKind prog w).pyHash (k:=⟨x.toArray⟩) (xo _ _ _ _) h
  |bl b=>exact LM (by omega) h
  |tup e c dd r=>simp only[cJ]at hn;omega
 |succ n ih =>
  intro d v A E s Q hn hk hu h
  cases hk with
  |str x t =>
   simp only[qG,sJ]at h
   exact(strKind prog w).pyHash (k:=⟨x.toArray⟩) (xo _ _ _ _) h
  |bl b=>exact LM (by omega) h
  |@tup ds a o items m ho c hd hi =>
   have hT:s.TypeIs (.ref a) "tuple":=⟨o,ho,c⟩
   simp only[cJ]at hn
   simp only[qG,sJ]at h
   unfold pyHash
   first|unfold pyHashByItsType|skip
   first|refine ae (wpAny_cRoomFor_or (.inr (by omega)) ?_)|skip
   refine ae (f6 hT PySem.F.slot_tuple_hash.lookup ?_)
   show wpAny _ _ (if(some (Value.builtin "tuple.__hash__")==some iq)=true then _ else _) Q E s
   rw[if_neg (by rw[yu];exact ei)]
   refine ae (f6 hT PySem.F.slot_tuple_hash.lookup ?_)
   show wpAny _ _ (callSpecialIfBoundUnlessNone? (.ref a) "__hash__" _ >>= _) Q E s
   refine ae (wpAny_callSpecialIfBoundUnlessNone?_slot hT sk (fe sk hT PySem.F.entry_tuple_hash ?_ (PySem.F.args_tuple_hash_1 _)))
   show wpAny _ _ (gk (.ref a) >>= _) _ _ s
   refine ae (xm ho hd ?_)
   refine ae ?_
   rw[<-xp]
   refine su _
    (fun rest (b:Array Int) s'=>∃ done left,ds=done++left/\fW s.heap left rest/\b.toList=gU w done/\s' = { s with toks:=s.toks+jW done })
    _ ?_ ?_ _ _ ⟨[],ds,rfl,hi,rfl,rfl⟩
   ·rintro x rest b s' ⟨done,left,e0,hl,hb,rfl⟩
    cases hl with
    |@cons k ks' _ _ h1 hl' =>
     have hdep:cJ k<=cK ds:=jD (by rw[e0];simp)
     refine ae (ih (s:={ s with toks:=s.toks+jW done }) (d:=k) (by omega) h1 (by simp only[fh];omega) ?_)
     have e1:jW (done++[k])=jW done+sJ k:=by rw[wM];simp [jW]
     have e2:gU w (done++[k])=gU w done++[qG w k]:=by rw[wL];simp [gU]
     first
      |exact ao ⟨done++[k],ks',by simp [e0],hl',by simp [hb,e2],by simp [e1,oo]⟩
      |exact ae (ao (ao ⟨done++[k],ks',by simp [e0],hl',by simp [hb,e2],by simp [e1,oo]⟩))
   ·rintro b s' ⟨done,left,e0,hl,hb,rfl⟩
    cases hl
    rw[el]at e0
    subst e0
    show wpAny _ _ (retInt (fk b.toList)) _ _ _
    rw[hb]
    refine wpAny_ret_mkInt ?_
    show wpAny _ _ (if(decide (-(2:Int) ^ 63<=fk (gU w ds))&&decide (fk (gU w ds)<2 ^ 63))=true then _ else _) Q E _
    unfold zv at h
    by_cases hr:(decide (-(2:Int) ^ 63<=fk (gU w ds))&&decide (fk (gU w ds)<2 ^ 63))=true
    ·rw[if_pos hr]
     rw[if_pos hr]at h
     exact ao (by simpa [oo]using h)
    ·rw[if_neg hr]
     rw[if_neg hr]at h
     exact ae (uf (ao (by simpa [oo]using h)))
mutual
theorem KH:∀ d:D,iX d=true->bC d=true
 |.str _,_=>rfl
 |.tup ds,h=>by simp only[iX]at h;simp only[bC];exact yN ds h
 |.non,h=>by cases h
 |.bl _,_=>rfl
 |.int _,h=>by cases h
 |.ref _,h=>by cases h
 |.cV _ _,h=>by cases h
 |.bI _,h=>by cases h
 |.exc _,h=>by cases h
theorem yN:∀ ds:List D,jM ds=true->bM ds=true
 |[],_=>rfl
 |d::ds,h=>by
  simp only[jM,aq]at h
  simp only[bM,aq]
  exact⟨KH d h.1,yN ds h.2⟩
end
mutual
theorem O8:∀ x y:D,iX x=true->iX y=true->bN x y=true->x=y
 |.str a,y,_,_,e=>by
  cases y with
  |str b=>simp only[bN,beq_iff_eq]at e;rw[e]
  |_=>simp [bN]at e
 |.bl a,y,_,h',e=>by
  cases y with
  |bl b=>simp only[bN,beq_iff_eq]at e;rw[e]
  |int _=>cases h'
  |_=>simp [bN]at e
 |.tup as,y,h,h',e=>by
  cases y with
  |tup bs=>simp only[bN]at e;simp only[iX]at h h';rw[LY as bs h h' e]
  |_=>simp [bN]at e
 |.non,_,h,_,_=>by cases h
 |.int _,_,h,_,_=>by cases h
 |.ref _,_,h,_,_=>by cases h
 |.cV _ _,_,h,_,_=>by cases h
 |.bI _,_,h,_,_=>by cases h
 |.exc _,_,h,_,_=>by cases h
theorem LY:∀ xs ys:List D,jM xs=true->jM ys=true->gL xs ys=true->xs=ys
 |[],[],_,_,_=>rfl
 |[],_::_,_,_,e=>by cases e
 |_::_,[],_,_,e=>by cases e
 |x::xs,y::ys,h,h',e=>by
  simp only[gL,aq]at e
  simp only[jM,aq]at h h'
  rw[O8 x y h.1 h'.1 e.1,LY xs ys h.2 h'.2 e.2]
end
noncomputable instance decD:DecidableEq D:=fun a b=>Classical.propDecidable (a=b)
theorem DH {x y:D}(h:iX x=true)(h':iX y=true):bN x y=decide (x=y):=by
 by_cases e:x=y
 ·subst e;rw[vR x (KH x h)];simp
 ·rw[decide_eq_false e]
  cases q:bN x y with
  |false=>rfl
  |true=>exact(e (O8 x y h h' q)).elim
theorem He:∀(n:Nat){x y:D}{u v:Value}{A:b7}{s:af},cJ x<=n->jC s.heap x u->jC s.heap y v->iX x=true->A.units+n+2<cLine->EqAt A s u v (bN x y):=by
 intro n
 induction n with
 |zero =>
  intro x y u v A s hn hx hy ht hu
  have jB:A.units<cLine:=by omega
  cases hx with
  |str a t =>
   cases hy with
   |str b t' =>
    have e:bN (.str a) (.str b)=((⟨a.toArray⟩:Str)==⟨b.toArray⟩):=by rw[KE];simp only[bN]
    rw[e]
    exact yh _ _ _ _
   |tup e c d r =>
    simp only[bN]
    exact vt _ _ (show s.heap.IsTuple _ _ from⟨_,e,c,_,d⟩) jB
   |bl b =>
    simp only[bN]
    exact w4 _ _ _
  |bl a =>
   cases hy with
   |str b t' =>
    simp only[bN]
    exact wz _ _ _
   |bl b=>exact vq _ _
   |tup e c d r =>
    simp only[bN]
    exact uw _ (show s.heap.IsTuple _ _ from⟨_,e,c,_,d⟩) jB
  |tup e c d r=>simp only[cJ]at hn;omega
 |succ n ih =>
  intro x y u v A s hn hx hy ht hu
  have jB:A.units<cLine:=by omega
  cases hx with
  |str a t =>
   cases hy with
   |str b t' =>
    have e:bN (.str a) (.str b)=((⟨a.toArray⟩:Str)==⟨b.toArray⟩):=by rw[KE];simp only[bN]
    rw[e]
    exact yh _ _ _ _
   |tup e c d r =>
    simp only[bN]
    exact vt _ _ (show s.heap.IsTuple _ _ from⟨_,e,c,_,d⟩) jB
   |bl b =>
    simp only[bN]
    exact w4 _ _ _
  |bl a =>
   cases hy with
   |str b t' =>
    simp only[bN]
    exact wz _ _ _
   |bl b=>exact vq _ _
   |tup e c d r =>
    simp only[bN]
    exact uw _ (show s.heap.IsTuple _ _ from⟨_,e,c,_,d⟩) jB
  |@tup ds a o aD m e c d r =>
   have hp1:s.heap.IsTuple a aD:=⟨_,e,c,_,d⟩
   cases hy with
   |str b t' =>
    simp only[bN]
    exact z9 _ _ hp1 jB
   |bl b =>
    simp only[bN]
    exact zl _ hp1 jB
   |@tup es b o' jts m' e' c' d' r' =>
    have kA:s.heap.IsTuple b jts:=⟨_,e',c',_,d'⟩
    have e0:bN (.tup ds) (.tup es)=gL ds es:=by simp only[bN]
    rw[e0]
    have hts:jM ds=true:=by simpa [iX]using ht
    by_cases q:a=b
    ·subst q
     rw[e]at e';cases e'
     rw[d]at d';injection d' with d1 d2;subst d1
     rw[fW.inj r r',kO es (yN es (by rw[<-fW.inj r r'];exact hts))]
     exact yt _
    ·refine yi q ?_
     have l1:aD.size=ds.length:=by rw[<-i5];exact r.length.symm
     have l2:jts.size=es.length:=by rw[<-i5];exact r'.length.symm
     have:=Rj (e:=fun j=>match ds[j]?,es[j]? with|some x,some y=>bN x y|_,_=>true) hp1 kA jB (fun j h1 h2=>by
      obtain⟨x,f1,g1⟩:=r.get (j:=j) (v:=aD[j]) (by simp [h1])
      obtain⟨y,f2,g2⟩:=r'.get (j:=j) (v:=jts[j]) (by simp [h2])
      simp only[f1,f2]
      have hx:=jD (bf f1)
      simp only[cJ]at hn
      have htx:iX x=true:=by
       have:∀(l:List D)(x:D),jM l=true->x∈l->iX x=true:=by
        intro l
        induction l with
        |nil=>intro x _ hm;cases hm
        |cons z l ihl =>
         intro x hh hm
         simp only[jM,aq]at hh
         rcases List.mem_cons.mp hm with rfl|hm
         ·exact hh.1
         ·exact ihl x hh.2 hm
       exact this ds x hts (bf f1)
      exact ih (by omega) g1 g2 htx (by simp only[fh];omega))
     rw[l1,l2,vH _ fun j x y e1 e2=>by simp only[e1,e2]]at this
     exact this
theorem TJ {prog:br}{w:World}:∀(n:Nat){d:D}{v:Value}{A:b7}{E:Value->af->Prop}{s:af}{Q:Bool->af->Prop},cJ d<=n->jC s.heap d v->Q true s->wpAny (model prog w) A (eqIsQuiet n v) Q E s:=by
 intro n
 induction n with
 |zero =>
  intro d v A E s Q hn hk h
  cases hk with
  |str x t=>rw[nv _ rfl];exact ao h
  |bl b=>rw[nv _ rfl];exact ao h
  |tup e c dd r=>simp only[cJ]at hn;omega
 |succ n ih =>
  intro d v A E s Q hn hk h
  cases hk with
  |str x t=>rw[nv _ rfl];exact ao h
  |bl b=>rw[nv _ rfl];exact ao h
  |@tup ds a o items m ho c hd hi =>
   have hT:s.TypeIs (.ref a) "tuple":=⟨o,ho,c⟩
   simp only[cJ]at hn
   unfold eqIsQuiet
   refine ae (f6 hT PySem.F.slot_tuple_eq.lookup ?_)
   show wpAny _ _ (isInstance (.ref a) (.type "tuple") >>= _) _ _ s
   refine ae (lh hT isSubtype_tuple_tuple ?_)
   simp only[fb,ak,if_false]
   refine ae (Pr ho hd ?_)
   refine ae ?_
   show wpAny _ _ (forIn items _ _) _ _ s
   rw[<-xp]
   refine su _ (fun rest r s'=>r.1=none/\s'=s/\∃ ks,fW s.heap ks rest/\cK ks<=n) _ ?_ ?_ _ _ ⟨rfl,rfl,ds,hi,by omega⟩
   ·rintro v rest r s' ⟨hr,rfl,ks,hks,hdep⟩
    cases hks with
    |@cons k ks' _ _ h1 h2 =>
     simp only[cK]at hdep
     refine ae (ih (d:=k) (by omega) h1 ?_)
     simp only[fb,ak,if_false]
     exact ao ⟨rfl,rfl,ks',h2,by omega⟩
   ·rintro⟨r1,r2⟩ s' ⟨hr,rfl,_⟩
    simp only at hr
    subst hr
    exact ao h
theorem keyed.aN {d:D}(h:keyed d):cJ d<=8:=by
 cases d with
 |tup ds=>have:=h.2;simp only[cJ];omega
 |_=>exact h.elim
theorem keyed.txt {d:D}(h:keyed d):iX d=true:=by
 cases d with
 |tup ds=>simp only[iX];exact h.1
 |_=>exact h.elim
noncomputable def yZ (prog:br)(w:World):HeapKind prog w D where
 is:=fun h d a=>keyed d/\jC h d (.ref a)
 hash:=qG w
 draws:=sJ
 room:=fun A=>A.units+12<cLine
 inj:=fun hx hy=>hx.2.inj hy.2
 keeps:=fun x ho hd hs=>⟨x.1,x.2.keeps ho hd hs⟩
 pyHash:=fun hu hk h=>YA 8 hk.1.aN hk.2 (by omega) h
 eqBool:=fun{A E s x y a b Q} hu hx hy h=>by
  have:=He 8 hx.1.aN hx.2 hy.2 hx.1.txt (A:=A) (by omega) prog w E Q
  rw[DH hx.1.txt hy.1.txt]at this
  exact this h
 quiet:=fun hk h=>TJ 8 hk.1.aN hk.2 h
end L3
end
section
namespace L3
open PySem PySem.Spec PyProof.Rows L2 PySem.SeqAt
noncomputable def nY (X:Cx)(op:CmpOp)(W:D->D->aB->(Bool->Prop)->Prop):Prop :=
 ∀(pins:List (Addr×Obj))(s:af)(σ:L2.St)(H:Hp)(st:aB)(d d':D)(v v':V)(u u':Value)(P:Bool->Prop),Inv X pins σ H s->aR X.K st H->Rep X.K H d v->RelV v u->Rep X.K H d' v'->RelV v' u'->W d d' st P ->
 wpAny (model X.prog X.w) X.A (sd op u u') (fun r s'=>∃ k,r=.bool k/\P k/\Inv X pins σ H s') X.xe s
theorem B4 (w:List Nat):∀ z:List Nat,occurs w z=true↔∃ i,i+w.length<=z.length/\(z.drop i).take w.length=w
 |[]=>by
  unfold occurs
  constructor
  ·intro h;rw[yv]at h;subst h;exact⟨0,by simp,by simp⟩
  ·rintro⟨i,h,_⟩;rw[yv];exact List.length_eq_zero_iff.mp (by simp only[bc]at h;omega)
 |c::r=>by
  unfold occurs
  rw[ph,B4 w r,List.isPrefixOf_iff_prefix]
  constructor
  ·rintro(h|⟨i,h1,h2⟩)
   ·exact⟨0,by have:=h.length_le;omega,by rw[qo];exact(List.prefix_iff_eq_take.mp h).symm⟩
   ·exact⟨i+1,by simp;omega,by simpa using h2⟩
  ·rintro⟨i,h1,h2⟩
   cases i with
   |zero=>exact .inl (by rw[qo]at h2;rw[List.prefix_iff_eq_take];exact h2.symm)
   |succ i=>exact .inr ⟨i,by simp at h1;omega,by simpa using h2⟩
theorem EH (w z:List Nat):(!(mq ⟨z.toArray⟩ ⟨w.toArray⟩ 0 (⟨z.toArray⟩:Str).length 1).isEmpty)=occurs w z:=by
 rw[Bool.eq_iff_iff,PySem.StrLaws.found_iff,B4]
 refine⟨fun⟨i,h1,h2⟩=>⟨i,by simpa [j2]using h1,?_⟩,fun⟨i,h1,h2⟩=>⟨i,by simpa [j2]using h1,?_⟩⟩
 ·unfold yj at h2
  have:=eq_of_beq h2
  simp only[j2,ar]at this
  have e:=congrArg xw this
  simp only[vw,qv,sv]at e
  exact e
 ·unfold yj
  rw[beq_iff_eq]
  simp only[j2,ar]
  apply Array.toList_inj.mp
  simp only[vw,qv,sv]
  exact h2
section
variable {X:Cx}{C:bE}{sub:Nat->Nat->Bool}{E:XK}{a b c e:Expr}{x y z:Ex}{pos:Pos}
theorem Oa (hu:X.A.units+180<cLine):nY X .Eq (dB .eq):=by
 intro pins s σ H st d d' v v' u u' P I ok r rv r' bH ⟨p,p',q⟩
 have hD:kW=80:=rfl
 exact(M0 I ok 80 (by have:=p.2;omega) p.1 p'.1 r rv r' bH (by omega)).1 _ _ _ _ ⟨_,rfl,q,I⟩
theorem Ob (hu:X.A.units+180<cLine):nY X .NotEq (dB .ne):=by
 intro pins s σ H st d d' v v' u u' P I ok r rv r' bH ⟨p,p',q⟩
 have hD:kW=80:=rfl
 exact(M0 I ok 80 (by have:=p.2;omega) p.1 p'.1 r rv r' bH (by omega)).2.2 _ _ _ _ ⟨_,rfl,q,I⟩
theorem GZ {op:CmpOp}{o:qR}{f:Int->Int->Bool}(hW:∀ d d' st P,dB o d d' st P=vC f d d' P)
  (rule:∀(i j:Int)(t u:Tok)(Q:Value->af->Prop)(s:af),Q (.bool (f i j)) s->wpAny (model X.prog X.w) X.A (sd op (.int i t) (.int j u)) Q X.xe s):nY X op (dB o):=by
 intro pins s σ H st d d' v v' u u' P I ok r rv r' bH q
 rw[hW]at q
 unfold vC at q
 split at q
 ·cases r.int_inv;cases r'.int_inv
  obtain⟨t,rfl⟩:=rv
  obtain⟨t',rfl⟩:=bH
  exact rule _ _ _ _ _ _ ⟨_,rfl,q,I⟩
 ·exact q.elim
theorem Oe:nY X .Lt (dB .lt):=GZ (fun _ _ _ _=>rfl) fun _ _ _ _ _ _ h=>lt_int h
theorem Ls:nY X .LtE (dB .le):=GZ (fun _ _ _ _=>rfl) fun _ _ _ _ _ _ h=>le_int h
theorem Mg:nY X .Gt (dB .gt):=GZ (fun _ _ _ _=>rfl) fun _ _ _ _ _ _ h=>gt_int h
theorem Ms:nY X .GtE (dB .ge):=GZ (fun _ _ _ _=>rfl) fun _ _ _ _ _ _ h=>ge_int h
theorem PD {pins:List (Addr×Obj)}{s:af}{σ:L2.St}{H:Hp}{a:Addr}{vs us:List V}(I:Inv X pins σ H s)(h:H a=some (.lst vs))(f:mB X.K H a us):False:=by
 rcases f with⟨o,e⟩|⟨o,_,_,e,_⟩
 ·rw[h]at e;cases e
 ·have:=(I.bs a o (I.ok.mod.kin a o e)).2
  rw[h]at this;cases this
theorem HP {pins:List (Addr×Obj)}{s:af}{σ:L2.St}{H:Hp}{st:aB}(I:Inv X pins σ H s)(ok:aR X.K st H):∀(n:Nat){d d':D}{v:V},cJ d<=n->fG st d=true->fG st d'=true->Rep X.K H d v->Rep X.K H d' v->d=d':=by
 have lists:∀{d d':D}{v:V}{xs ys:List D},qQ st d=some xs->qQ st d'=some ys->bM xs=true->bM ys=true->Rep X.K H d v->Rep X.K H d' v->d=d':=by
  intro d d' v xs ys q q' p p' r r'
  cases r with
  |ref a=>cases r' with
   |ref _=>rfl
   |bI f g =>
    simp only[qQ]at q
    split at q
    ·rename_i e
     obtain⟨vs,h,_⟩:=ok.lst e
     exact(PD I h f).elim
    ·cases q
   |_=>cases q'
  |bI f g=>cases r' with
   |ref _ =>
    simp only[qQ]at q'
    split at q'
    ·rename_i e
     obtain⟨vs,h,_⟩:=ok.lst e
     exact(PD I h f).elim
    ·cases q'
   |bI f' g' =>
    cases q;cases q'
    cases I.rC f.sq f'.sq
    rw[qO I p p' g g']
   |_=>cases q'
  |_=>cases q
 intro n
 induction n with
 |zero =>
  intro d d' v hn p p' r r'
  rcases kinds p with q|⟨ds,rfl,q⟩|⟨xs,q,q1,q2⟩
  ·cases r<;>cases r'<;>first|rfl|(cases q;done)|skip
  ·simp only[cJ]at hn;omega
  ·obtain⟨a,vs,rfl,f1,g1⟩:=fY ok q r
   rcases kinds p' with q'|⟨jF,rfl,q'⟩|⟨ys,q',q1',q2'⟩
   ·cases r'<;>cases q'
   ·obtain⟨b,us,e,f2,g2⟩:=r'.bT
    cases e
    exact(DB I f1 f2).elim
   ·exact lists q q' q1 q1' r r'
 |succ n ih =>
  intro d d' v hn p p' r r'
  rcases kinds p with q|⟨ds,rfl,q⟩|⟨xs,q,q1,q2⟩
  ·cases r<;>cases r'<;>first|rfl|(cases q;done)|skip
  ·obtain⟨a,vs,rfl,f1,g1⟩:=r.bT
   rcases kinds p' with q'|⟨jF,rfl,q'⟩|⟨ys,q',q1',q2'⟩
   ·cases r'<;>cases q'
   ·obtain⟨b,us,e,f2,g2⟩:=r'.bT
    cases e
    cases I.sE f1 f2
    simp only[cJ]at hn
    have go:∀(ds es:List D)(vs:List V),cK ds<=n->gX st ds=true->gX st es=true->aL X.K H ds vs->aL X.K H es vs->ds=es:=by
     intro ds
     induction ds with
     |nil=>intro es vs _ _ _ r r';cases r;cases r';rfl
     |cons d ds ihs =>
      intro es vs hd pp pp' r r'
      cases r with
      |cons r1 r2=>cases r' with
       |cons r1' r2' =>
        simp only[cK]at hd
        simp only[gX,aq]at pp pp'
        rw[ih (by omega) pp.1 pp'.1 r1 r1',ihs _ _ (by omega) pp.2 pp'.2 r2 r2']
    rw[go ds jF vs (by omega) q q' g1 g2]
   ·obtain⟨b,us,e,f2,g2⟩:=fY ok q' r'
    cases e
    exact(DB I f2 f1).elim
  ·obtain⟨a,vs,rfl,f1,g1⟩:=fY ok q r
   rcases kinds p' with q'|⟨jF,rfl,q'⟩|⟨ys,q',q1',q2'⟩
   ·cases r'<;>cases q'
   ·obtain⟨b,us,e,f2,g2⟩:=r'.bT
    cases e
    exact(DB I f1 f2).elim
   ·exact lists q q' q1 q1' r r'
theorem FC {pins:List (Addr×Obj)}{s:af}{σ:L2.St}{H:Hp}{st:aB}(I:Inv X pins σ H s)(ok:aR X.K st H){ds:List D}{vs:List V}{aD:List Value}{d:D}{v:V}{u:Value}{A:b7}
  (g:aL X.K H ds vs)(r:aQ vs aD)(p:dM st ds)(pd:plainS st d)(rd:Rep X.K H d v)(rv:RelV v u)(hu:A.units+178<cLine):
  ∃ e:Value->Bool,(∀ y,y∈aD.toArray->EqAt A.in1 s y u (e y))/\aD.toArray.any e=ds.any fun d'=>bO st d' d:=by
 classical
 have hD:kW=80:=rfl
 have item:∀(d':D)(v':V)(y:Value),d'∈ds->Rep X.K H d' v'->RelV v' y->EqAt A.in1 s y u (bO st d' d):=fun d' v' y m r' bH=>by
  have h1:=jD m
  have h2:=p.2
  exact(M0 I ok 80 (by omega) (gK p.1 m) pd.1 r' bH rd rv (by simp only[fh];omega)).2.1
 let e:Value->Bool:=fun y=>decide (∃ d' v',d'∈ds/\Rep X.K H d' v'/\RelV v' y/\bO st d' d=true)
 have he:∀(d':D)(v':V)(y:Value),d'∈ds->Rep X.K H d' v'->RelV v' y->e y=bO st d' d:=fun d' v' y m r' bH=>by
  show decide _=_
  cases q:bO st d' d with
  |true=>exact decide_eq_true ⟨d',v',m,r',bH,q⟩
  |false =>
   refine decide_eq_false fun⟨d2,v2,m2,r2,rv2,q2⟩=>?_
   cases RelV.inj bH rv2
   have:=HP I ok _ (az _) (gK p.1 m) (gK p.1 m2) r' r2
   subst this
   rw[q]at q2;cases q2
 refine⟨e,fun y hy=>?_,?_⟩
 ·obtain⟨j,hj,rfl⟩:=Array.mem_iff_getElem.mp hy
  obtain⟨v',e1,e2⟩:=aQ.at r hj
  obtain⟨d',e3,e4⟩:=aL.get' g e1
  rw[he d' v' _ (bf e3) e4 e2]
  exact item d' v' _ (bf e3) e4 e2
 ·have go:∀(es:List D)(vs:List V)(aD:List Value),(∀ d∈es,d∈ds)->aL X.K H es vs->aQ vs aD->aD.any e=es.any fun d'=>bO st d' d:=by
   intro es
   induction es with
   |nil=>intro vs aD _ g r;cases g;cases r;rfl
   |cons d1 es ih =>
    intro vs aD hm g r
    cases g with
    |cons g1 g2=>cases r with
     |cons r1 r2 =>
      simp only[j3]
      rw[he d1 _ _ (hm d1 (by simp)) g1 r1,ih _ _ (fun d m=>hm d (by simp [m])) g2 r2]
  rw[List.any_toArray]
  exact go ds vs aD (fun _ m=>m) g r
theorem QW (k x:Str):(decide (k=x))=(x.cps.toList==k.cps.toList):=by
 by_cases h:k=x
 ·subst h;simp
 ·rw[decide_eq_false h]
  symm
  refine beq_eq_false_iff_ne.mpr fun e=>h ?_
  obtain⟨⟨k⟩⟩:=k
  obtain⟨⟨x⟩⟩:=x
  have e:x=k:=e
  subst e;rfl
theorem DL {pins:List (Addr×Obj)}{s:af}{σ:L2.St}{H:Hp}{a:Addr}{T:List (Str×PyData)}(I:Inv X pins σ H s)(h:vp rj (fun b=>X.K.lookup b) a T=true):KTD.Here s.heap s.heap a (T.map fun p=>(p.1,ug p.2)) :=
 ⟨(KTD.tab_of_look (fun d v=>KTD.flat_of_looks) (fun a o e=>I.iU a o e) h).text,fun _ _ e=>e⟩
theorem MH (k:List Nat):∀(T:List (Str×PyData)),KTD.inKeys (⟨k.toArray⟩:Str) (T.map fun p=>(p.1,ug p.2))=(T.map fun p=>D.str p.1.cps.toList).any fun d=>bN d (.str k)
 |[]=>rfl
 |(x,d)::T=>by
  show(decide ((⟨k.toArray⟩:Str)=x)||KTD.inKeys _ _)=((x.cps.toList==k)||_)
  rw[MH k T,QW]
theorem Cs (hu:X.A.units+180<cLine):nY X .In (dB .in_)/\nY X .NotIn (dB .jT):=by
 have main:∀(neg:Bool)(pins:List (Addr×Obj))(s:af)(σ:L2.St)(H:Hp)(st:aB)(d d':D)(v v':V)(u u':Value)(P:Bool->Prop),Inv X pins σ H s->aR X.K st H->Rep X.K H d v->RelV v u->Rep X.K H d' v'->RelV v' u' ->
   G4 d d' st (fun b=>P (if neg then !b else b))->wpAny (model X.prog X.w) X.A (sd (if neg then .NotIn else .In) u u') (fun r s'=>∃ k,r=.bool k/\P k/\Inv X pins σ H s') X.xe s:=by
  intro neg pins s σ H st d d' v v' u u' P I ok r rv r' bH q
  have lst:∀(a:Addr)(vs:List V)(ds:List D),eH X.K H a vs->aL X.K H ds vs->plainS st d->dM st ds->P (if neg then !(ds.any fun d'=>bO st d' d)else ds.any fun d'=>bO st d' d) ->
    wpAny (model X.prog X.w) X.A (sd (if neg then .NotIn else .In) u (.ref a)) (fun r s'=>∃ k,r=.bool k/\P k/\Inv X pins σ H s') X.xe s:=by
   intro a vs ds f g pd ps q
   obtain⟨aD,r1,p1,_⟩:=I.list f
   obtain⟨e,he,ha⟩:=FC I ok g r1 ps pd r rv (A:=X.A) (by omega)
   rw[<-ha]at q
   cases neg with
   |true=>exact notIn_listAt e p1.isList he ⟨_,rfl,q,I⟩
   |false=>exact in_listAt e p1.isList he ⟨_,rfl,q,I⟩
  unfold G4 at q
  split at q
  ·obtain⟨a,vs,rfl,f,g⟩:=r'.bT
   cases bH
   obtain⟨aD,r1,p1,_⟩:=I.tuple f
   obtain⟨pd,ps,q⟩:=q
   obtain⟨e,he,ha⟩:=FC I ok g r1 ps pd r rv (A:=X.A) (by omega)
   rw[<-ha]at q
   cases neg with
   |true=>exact notIn_tupleAt e p1 he ⟨_,rfl,q,I⟩
   |false=>exact in_tupleAt e p1 he ⟨_,rfl,q,I⟩
  ·cases r'.cI
   cases bH
   obtain⟨ds,e1,pd,ps,q⟩:=rY ok q
   obtain⟨vs,g1,g2⟩:=ok.lst e1
   exact lst _ vs ds (eH.of g1) g2 pd ps q
  ·obtain⟨a,rfl,T,h1,_,h2,_⟩:=r'.J5
   cases bH
   cases r.str_inv
   obtain⟨t,rfl⟩:=rv
   rw[h2,<-MH]at q
   cases neg with
   |true=>exact KTD.notin_text (DL I h1) ⟨_,rfl,q,I.tok _⟩
   |false=>exact KTD.in_text (DL I h1) ⟨_,rfl,q,I.tok _⟩
  ·obtain⟨a,vs,rfl,f,g⟩:=r'.kR
   cases bH
   exact lst a vs _ f.sq g q.1 q.2.1 q.2.2
  ·cases r.str_inv;cases r'.str_inv
   cases neg with
   |true =>
    refine bB (HD (X:=X) pins s σ H _ _ _ _ (fun v H'=>H'=H/\∃ k,v=.bl k/\P k) I rv bH ⟨_,_,rfl,rfl,rfl,_,rfl,?_⟩) fun r s1 ⟨v,H',I1,r1,e,k,e',q'⟩=>?_
    ·rw[EH];exact q
    ·subst e e';cases r1;exact⟨k,rfl,q',I1⟩
   |false =>
    refine bB (RE (X:=X) pins s σ H _ _ _ _ (fun v H'=>H'=H/\∃ k,v=.bl k/\P k) I rv bH ⟨_,_,rfl,rfl,rfl,_,rfl,?_⟩) fun r s1 ⟨v,H',I1,r1,e,k,e',q'⟩=>?_
    ·rw[EH];exact q
    ·subst e e';cases r1;exact⟨k,rfl,q',I1⟩
  ·exact q.elim
 exact⟨fun pins s σ H st d d' v v' u u' P I ok r rv r' bH q=>main false pins s σ H st d d' v v' u u' P I ok r rv r' bH q,fun pins s σ H st d d' v v' u u' P I ok r rv r' bH q=>main true pins s σ H st d d' v v' u u' P I ok r rv r' bH q⟩
theorem E4 {K:aa}{H:Hp}{d:D}{v:V}{u:Value}(r:Rep K H d v)(rv:RelV v u):(u==iq)=GR d:=by
 rw[rv.UG]
 cases r<;>rfl
theorem Fg:nY X .Is (dB .is_)/\nY X .IsNot (dB .isnot):=by
 constructor
 ·intro pins s σ H st d d' v v' u u' P I ok r rv r' bH q
  have q:CN d d' P:=q
  unfold CN at q
  split at q
  ·cases r'.fP;cases bH
   exact is_none_gen ⟨_,rfl,by rw[E4 r rv];exact q,I⟩
  ·rename_i b
   cases r'.fJ;cases bH
   cases r with
   |bl c=>cases rv;exact is_bool ⟨_,rfl,q,I⟩
   |non=>cases rv;exact j8 rfl (by intro z;cases z) ⟨_,rfl,q,I⟩
   |int i=>obtain⟨t,rfl⟩:=rv;exact j8 rfl (by intro z;cases z) ⟨_,rfl,q,I⟩
   |str z=>obtain⟨t,rfl⟩:=rv;exact j8 rfl (by intro z;cases z) ⟨_,rfl,q,I⟩
   |tup _ _=>cases rv;exact j8 rfl (by intro z;cases z) ⟨_,rfl,q,I⟩
   |ref _=>cases rv;exact j8 rfl (by intro z;cases z) ⟨_,rfl,q,I⟩
   |bI _ _=>cases rv;exact j8 rfl (by intro z;cases z) ⟨_,rfl,q,I⟩
   |cV _=>cases rv;exact j8 rfl (by intro z;cases z) ⟨_,rfl,q,I⟩
  ·exact q.elim
 ·intro pins s σ H st d d' v v' u u' P I ok r rv r' bH q
  have q:CN d d' (fun b=>P (!b)):=q
  unfold CN at q
  split at q
  ·cases r'.fP;cases bH
   exact isnot_none_gen ⟨_,rfl,by rw[E4 r rv];exact q,I⟩
  ·rename_i b
   cases r'.fJ;cases bH
   cases r with
   |bl c=>cases rv;exact isnot_bool ⟨_,rfl,q,I⟩
   |non=>cases rv;exact ij rfl (by intro z;cases z) ⟨_,rfl,q,I⟩
   |int i=>obtain⟨t,rfl⟩:=rv;exact ij rfl (by intro z;cases z) ⟨_,rfl,q,I⟩
   |str z=>obtain⟨t,rfl⟩:=rv;exact ij rfl (by intro z;cases z) ⟨_,rfl,q,I⟩
   |tup _ _=>cases rv;exact ij rfl (by intro z;cases z) ⟨_,rfl,q,I⟩
   |ref _=>cases rv;exact ij rfl (by intro z;cases z) ⟨_,rfl,q,I⟩
   |bI _ _=>cases rv;exact ij rfl (by intro z;cases z) ⟨_,rfl,q,I⟩
   |cV _=>cases rv;exact ij rfl (by intro z;cases z) ⟨_,rfl,q,I⟩
  ·exact q.elim
noncomputable def pD:qR->CmpOp
 |.eq=>.Eq|.ne=>.NotEq|.lt=>.Lt|.le=>.LtE|.gt=>.Gt|.ge=>.GtE|.is_=>.Is|.isnot=>.IsNot|.in_=>.In|.jT=>.NotIn
theorem GY (hu:X.A.units+180<cLine):∀ o:qR,nY X (pD o) (dB o)
 |.eq=>Oa hu
 |.ne=>Ob hu
 |.lt=>Oe
 |.le=>Ls
 |.gt=>Mg
 |.ge=>Ms
 |.is_=>Fg.1
 |.isnot=>Fg.2
 |.in_=>(Cs hu).1
 |.jT=>(Cs hu).2
theorem Jn {o:qR}(hu:X.A.units+180<cLine)(ha:PE X a (bW X.K (aI C sub E x)))(hb:PE X b (bW X.K (aI C sub E y)))(hm:l5 (pD o) b=false):PE X (.Compare a [pD o] [b] pos) (bW X.K (aI C sub E (.cmp o x y))):=by
 intro pins s σ H Q I ⟨σd,st,R,r,ok,q,hq⟩
 refine wpAny_Compare1 (bB (ha pins s σ H _ I ⟨σd,st,_,r,ok,q,fun v H' z=>z⟩) fun u s1 ⟨v,H1,I1,rv,d,aC,dA,aO,r1,q1⟩ =>
 bB (hb pins s1 σ H1 _ I1 ⟨σd,aC,_,r.step ok dA,aO,q1,fun v H' z=>z⟩) fun u' s2 ⟨v',H2,I2,bH,d',aF,iO,bY,r2,q2⟩ =>
 bB (GY hu o pins s2 σ H2 aF d d' v v' u u' _ I2 bY (r1.step aO iO) rv r2 bH q2) fun w s3 ⟨k,e,q3,I3⟩=>?_) hm
 subst e
 exact⟨.bl k,H2,I3,rfl,hq _ _ (.after (dA.trans iO) (.here bY (.bl k) q3))⟩
theorem Aw {o:qR}(hu:X.A.units+180<cLine)(ha:PE X a (bW X.K (aI C sub E x)))(hb:PE X b (bW X.K (aI C sub E y)))(hm:l5 (pD o) b=false):PT X (.Compare a [pD o] [b] pos) (jQ X.K (aI C sub E (.cmp o x y))):=by
 intro pins s σ H Q I ⟨σd,st,R,r,ok,q,hq⟩
 refine vf (bB (ha pins s σ H _ I ⟨σd,st,_,r,ok,q,fun v H' z=>z⟩) fun u s1 ⟨v,H1,I1,rv,d,aC,dA,aO,r1,q1⟩ =>
 bB (hb pins s1 σ H1 _ I1 ⟨σd,aC,_,r.step ok dA,aO,q1,fun v H' z=>z⟩) fun u' s2 ⟨v',H2,I2,bH,d',aF,iO,bY,r2,q2⟩ =>
 bB (GY hu o pins s2 σ H2 aF d d' v v' u u' _ I2 bY (r1.step aO iO) rv r2 bH q2) fun w s3 ⟨k,e,q3,I3⟩=>?_) hm
 subst e
 exact kr ⟨H2,I3,hq _ _ ⟨aF,dA.trans iO,bY,q3⟩⟩
theorem YH {o o':qR}(hu:X.A.units+180<cLine)(ha:PE X a (bW X.K (aI C sub E x)))(hb:PE X b (bW X.K (aI C sub E y)))(hc:PE X c (bW X.K (aI C sub E z)))(hm:lastMarks [pD o,pD o'] [b,c]=false):
 PE X (.Compare a [pD o,pD o'] [b,c] pos) (bW X.K (aI C sub E (.chain o o' x y z))):=by
 intro pins s σ H Q I ⟨σd,st,R,r,ok,q,hq⟩
 refine Compare_chain (bB (ha pins s σ H _ I ⟨σd,st,_,r,ok,q,fun v H' z=>z⟩) fun u s1 ⟨v,H1,I1,rv,d,aC,dA,aO,r1,q1⟩ =>
 chain_link (bB (hb pins s1 σ H1 _ I1 ⟨σd,aC,_,r.step ok dA,aO,q1,fun v H' z=>z⟩) fun u' s2 ⟨v',H2,I2,bH,d',aF,iO,bY,r2,q2⟩ =>
 bB (GY hu o pins s2 σ H2 aF d d' v v' u u' _ I2 bY (r1.step aO iO) rv r2 bH q2) fun w s3 ⟨k,e,q3,I3⟩=>?_)) hm
 subst e
 refine kr ?_
 cases k with
 |false=>exact ite_ff ⟨.bl false,H2,I3,rfl,hq _ _ (.after (dA.trans iO) (.here bY (.bl _) q3))⟩
 |true =>
 refine ite_tt (chain_last (bB (hc pins s3 σ H2 _ I3 ⟨σd,aF,_,(r.step ok dA).step aO iO,bY,q3,fun v H' z=>z⟩) fun u3 s4 ⟨v3,H4,I4,rv3,d3,cN,s4s,MV,r4,q4⟩ =>
  bB (GY hu o' pins s4 σ H4 cN d' d3 v' v3 u' u3 _ I4 MV (r2.step bY s4s) bH r4 rv3 q4) fun w s5 ⟨k,e,q5,I5⟩=>?_))
 subst e
 exact⟨.bl k,H4,I5,rfl,hq _ _ (.after ((dA.trans iO).trans s4s) (.here MV (.bl k) q5))⟩
end
end L3
end
section
namespace L3
open PySem PySem.Spec PyProof.Rows PyProof.V L2
section
variable {X:Cx}{C:bE}{sub:Nat->Nat->Bool}{E:XK}{a b c e:Expr}{x y z:Ex}{pos:Pos}
theorem Ap (n:Nat)(i:Int):L2.nW n i=nW n i:=rfl
theorem DP {K:aa}{H:Hp}{ds:List D}{vs:List V}{i:Int}{d:D}(r:aL K H ds vs)(h:fQ ds i=some d):∃ v,L2.fQ vs i=some v/\Rep K H d v:=by
 unfold fQ at h
 unfold L2.fQ
 rw[Ap,<-r.length]
 cases e:nW ds.length i with
 |none=>rw[e]at h;cases h
 |some j =>
 rw[e]at h
 obtain⟨v,e1,e2⟩:=r.get (i:=j) h
 exact⟨v,e1,e2⟩
noncomputable def El (K:aa):R2:=fun x y H Q=>∃(p:Addr)(T:List (Str×PyData))(k:Str)(d:zw),x=.ref p/\y=.str k/\vp rj (fun b=>K.lookup b) p T=true/\ou k T=some d/\oB d=true/\∀ v u,RelV v u->Flat u d->Q v H
noncomputable def OQ (K:aa):R2:=fun x y H Q=>Lj K x y H Q∨El K x y H Q
theorem uV {k:Str}{d:zw}:∀{T:List (Str×PyData)},ou k T=some d->ou k (T.map fun p=>(p.1,ug p.2))=some (.flat d)
 |[],h=>by cases h
 |(x,e)::T,h=>by
  show(if decide (k=x)=true then some (ug e)else _)=_
  have h:(if decide (k=x)=true then some e else ou k T)=some d:=h
  by_cases c:decide (k=x)=true
  ·rw[if_pos c]at h ⊢;cases h;rfl
  ·rw[if_neg c]at h ⊢;exact uV h
theorem Hx {X:Cx}:wN X (El X.K):=by
 intro value slice pins s σ H x y v u Q I rx ry h hs
 obtain⟨p,T,k,d,rfl,rfl,hT,hd,hsd,q⟩:=h
 cases rx
 obtain⟨t,rfl⟩:=ry
 have hh:=DL I hT
 refine subscriptTail_builtin_flat hh.typeIs slot_dict_getitem.lookup ?_ hs
 unfold ub
 try with_reducible refine jf ?_
 refine ae (rb hh.typeIs (by decide) ?_)
 refine ae (h9 (name:=jz "__getitem__") hh.typeIs yk
  (fe yk hh.typeIs entry_dict_getitem ?_ (args_dict_getitem _ _)))
 show wpAny _ _ (dictGet p (.str k t) >>= _) _ _ s
 refine ae (KTD.dictGet_text hh (fun d' v ha hv=>?_) fun hn=>?_)
 ·rw[uV hd]at ha
  cases ha
  have hv:Flat v d:=hv
  refine ao ⟨v,rfl,ao ⟨Flat.notRef hv,?_⟩⟩
  obtain⟨w,rw'⟩:∃ w,RelV w v:=by
   cases d with
   |none=>cases Flat.none_inv hv;exact⟨.non,rfl⟩
   |bool b=>cases Flat.bool_inv hv;exact⟨.bl b,rfl⟩
   |int i=>obtain⟨t,rfl⟩:=Flat.int_inv hv;exact⟨.int i,⟨t,rfl⟩⟩
   |str x=>obtain⟨t,rfl⟩:=Flat.str_inv hv;exact⟨.str x,⟨t,rfl⟩⟩
   |_=>cases hsd
  exact⟨w,H,I.tok _,rw',q w v rw' hv⟩
 ·rw[uV hd]at hn;cases hn
theorem Dg {X:Cx}:wN X (OQ X.K):=Ds.or Hx
theorem R4 {K:aa}(v v':V)(H:Hp)(Q Q':L2.VK)(h:∀ v H,Q v H->Q' v H)(z:OQ K v v' H Q):OQ K v v' H Q':=by
 rcases z with z|⟨p,T,k,d,e,e',e1,e2,e3,q⟩
 ·refine .inl ?_
  rcases z with⟨p,xs,i,v,e,e',s,t,q⟩|⟨p,xs,i,v,e,e',s,t,q⟩|⟨z,i,c,e,e',s,t,q⟩
  ·exact .inl ⟨p,xs,i,v,e,e',s,t,h _ _ q⟩
  ·exact .inr (.inl ⟨p,xs,i,v,e,e',s,t,h _ _ q⟩)
  ·exact .inr (.inr ⟨z,i,c,e,e',s,t,h _ _ q⟩)
 ·exact .inr ⟨p,T,k,d,e,e',e1,e2,e3,fun v u r f=>h _ _ (q v u r f)⟩
theorem JM {k:List Nat}{d:D}:∀{T:List (Str×PyData)},(T.all fun p=>oB p.2)=true->uZ (T.map fun p=>.str p.1.cps.toList) (T.map fun p=>sA p.2) (.str k)=some d->∃ e,ou (⟨k.toArray⟩:Str) T=some e/\oB e=true/\d=sA e
 |[],_,h=>by cases h
 |(x,e)::T,a,h=>by
  simp only[om,aq]at a
  have h:(if(x.cps.toList==k)=true then some (sA e)else uZ (T.map fun p=>.str p.1.cps.toList) (T.map fun p=>sA p.2) (.str k))=some d:=h
  show ∃ e',(if decide ((⟨k.toArray⟩:Str)=x)=true then some e else ou _ T)=some e'/\_
  rw[QW]
  by_cases c:(x.cps.toList==k)=true
  ·rw[if_pos c]at h;cases h
   exact⟨e,if_pos c,a.1,rfl⟩
  ·rw[if_neg c]at h
   obtain⟨e',h1,h2⟩:=JM a.2 h
   exact⟨e',(if_neg c).trans h1,h2⟩
theorem U7 {K:aa}{H:Hp}{e:zw}{v:V}{u:Value}(s:oB e=true)(r:RelV v u)(f:Flat u e):Rep K H (sA e) v:=by
 cases e with
 |none=>cases Flat.none_inv f;cases RelV.inj r (show RelV .non .none from rfl);exact .non
 |bool b=>cases Flat.bool_inv f;cases RelV.inj r (show RelV (.bl b) (.bool b)from rfl);exact .bl b
 |int i=>obtain⟨t,rfl⟩:=Flat.int_inv f;cases RelV.inj r (show RelV (.int i) (.int i t)from⟨t,rfl⟩);exact .int i
 |str x=>obtain⟨t,rfl⟩:=Flat.str_inv f;cases RelV.inj r (show RelV (.str x) (.str x t)from⟨t,rfl⟩);exact .str x.cps.toList
 |_=>cases s
theorem S3 {K:aa}{H:Hp}{st:aB}{R:VK}{d d':D}{v v':V}(ok:aR K st H)(r:Rep K H d v)(r':Rep K H d' v')(h:lC d d' st R):OQ K v v' H (QD K H st R):=by
 unfold lC at h
 split at h
 ·obtain⟨a,vs,rfl,f,g⟩:=r.bT
  cases r'.int_inv
  obtain⟨d,e,q⟩:=eM h
  obtain⟨v,e1,e2⟩:=DP g e
  exact .inl (.inr (.inl ⟨a,vs,_,v,rfl,rfl,f,e1,.here ok e2 q⟩))
 ·obtain⟨a,vs,rfl,f,g⟩:=r.kR
  cases r'.int_inv
  obtain⟨d,e,q⟩:=eM h
  obtain⟨v,e1,e2⟩:=DP g e
  exact .inl (.inl ⟨a,vs,_,v,rfl,rfl,f.sq,e1,.here ok e2 q⟩)
 ·cases r.str_inv
  cases r'.int_inv
  obtain⟨l,h⟩:=h
  obtain⟨c,e,q⟩:=eM h
  exact .inl (.inr (.inr ⟨_,_,c,rfl,rfl,by rw[gB];simpa [j2]using l,e,.here ok (.str [c]) q⟩))
 ·obtain⟨a,rfl,T,h1,h2,h3,h4⟩:=r.J5
  cases r'.str_inv
  obtain⟨d,e,q⟩:=eM h
  rw[h3,h4]at e
  obtain⟨e',e1,e2,rfl⟩:=JM h2 e
  exact .inr ⟨a,T,_,e',rfl,rfl,h1,e1,e2,fun v u r f=>.here ok (U7 e2 r f) q⟩
 ·cases r.cI
  obtain⟨ds,e,q⟩:=rY ok h
  obtain⟨vs,g1,g2⟩:=ok.lst e
  split at q
  ·cases r'.int_inv
   obtain⟨d,e,q⟩:=eM q
   obtain⟨v,e1,e2⟩:=DP g2 e
   exact .inl (.inl ⟨_,vs,_,v,rfl,rfl,eH.of g1,e1,.here ok e2 q⟩)
  ·exact q.elim
 ·exact h.elim
theorem Of (ha:PE X a (bW X.K (aI C sub E x)))(hb:PE X b (bW X.K (aI C sub E y)))(hp:tR b):PE X (.Subscript a b pos) (bW X.K (aI C sub E (.ix x y))) :=
 (VL Dg ha hb hp).imp fun σ H Q ⟨σd,st,R,r,ok,q,hq⟩=>by
 exact two (W:=fun d d' aF=>lC d d' aF R) r ok q hq (fun d d' v v' H2 aF bY r1 r2 h=>S3 bY r1 r2 h) R4
theorem wQ {prog:br}{w:World}{A:b7}{E:Value->af->Prop}{s:af}{t sl:Addr}{items:Array Value}{vl vu:Value}{lo hi:Option Int}{Q:Value->af->Prop}(ht:IsTup s.heap t items)(hs:s.heap.IsSliceOf sl vl vu .none)(pl:ua vl lo)(pu:ua vu hi)
  (hw:HT.cE items.size 0 lo=0/\HT.cE items.size items.size hi=items.size)(h:Q (.ref t) s):wpAny (model prog w) A (ub (.ref t) (.ref sl)) Q E s:=by
 obtain⟨os,hos,hcs,hds⟩:=id hs
 have hTs:s.TypeIs (.ref sl) "slice":=⟨os,hos,hcs⟩
 unfold ub
 try with_reducible refine jf ?_
 first|refine ae (ao ?_)|skip
 refine ae (rb ht.typeIs (by decide) ?_)
 refine ae (h9 (name:=jz "__getitem__") ht.typeIs gv
  (fe gv ht.typeIs wg ?_ (xi _ _)))
 show wpAny _ _ (gk (.ref t) >>= _) _ _ s
 refine ae (wx ht ?_)
 refine ae (uc hTs ?_)
 rw[if_pos (by decide)]
 refine ae (HT.rN hs pl pu ?_)
 have hyes:(((HT.cE items.size 0 lo:Nat):Int)==0&&(1:Int)==1&&(HT.cE items.size items.size hi-HT.cE items.size 0 lo)==items.size)=true:=by
  rw[hw.1,hw.2];simp
 show wpAny _ _ (if(((HT.cE items.size 0 lo:Nat):Int)==0&&(1:Int)==1&&(HT.cE items.size items.size hi-HT.cE items.size 0 lo)==items.size)=true then _ else _) _ _ s
 rw[if_pos hyes]
 have hex:∀{Q:Bool->af->Prop},Q true s->wpAny (model prog w) A.in1 (qp (.ref t)) Q E s:=fun h=>by
  unfold qp
  exact ae (uc ht.typeIs (ao h))
 refine ae (hex ?_)
 rw[if_pos rfl]
 exact ae (uf (ao ⟨_,rfl,ao h⟩))
theorem RZ (n d:Nat)(o:Option Int):HT.cE n d o=cE n d o:=rfl
theorem aL.cut {K:aa}{H:Hp}{ds:List D}{vs:List V}(r:aL K H ds vs)(lo hi:Option Int):aL K H (cut ds lo hi) (cut vs lo hi):=by
 unfold L3.cut
 rw[r.length]
 exact(r.drop _).take _
noncomputable def Cf (K:aa):V->Option Int->Option Int->Hp->L2.VK->Prop:=fun x lo hi H Q=>∃ a xs,x=.ref a/\eI K H a xs/\(HT.cE xs.length 0 lo=0/\HT.cE xs.length xs.length hi=xs.length)/\Q (.ref a) H
theorem Y1:yJ X (Cf X.K):=by
 intro pins s σ H x v vl vu lo hi sl Q I rx hs pl pu h
 obtain⟨a,xs,rfl,hx,hw,q⟩:=h
 cases rx
 obtain⟨aD,r,ht,hz⟩:=I.tuple hx
 have hlen:aD.toArray.size=xs.length:=by rw[ar];exact r.length.symm
 refine⟨"tuple", _,PyProof.Rows.slot_tuple_getitem.lookup,ht.typeIs,?_⟩
 exact wQ ht hs pl pu (by rw[hlen];exact hw) ⟨.ref a,H,I,rfl,q⟩
noncomputable abbrev Cw (K:aa):V->Option Int->Option Int->Hp->L2.VK->Prop:=fun x lo hi H Q=>Dn K x lo hi H Q∨Cf K x lo hi H Q∨Ek K x lo hi H Q
theorem Ak:yJ X (Cw X.K):=yJ.or L2.HB (yJ.or Y1 XQ)
theorem TQ {K:aa}{H:Hp}{st:aB}{R:VK}{Q:L2.VK}{d:D}{v:V}{lo hi:Option Int}(ok:aR K st H)(r:Rep K H d v)(h:B5 d lo hi st R)(hq:∀ v H',QD K H st R v H'->Q v H'):Cw K v lo hi H Q:=by
 unfold B5 at h
 split at h
 ·rename_i ds0
  obtain⟨a,vs,rfl,f,g⟩:=r.bT
  by_cases hw:HT.cE vs.length 0 lo=0/\HT.cE vs.length vs.length hi=vs.length
  ·refine .inr (.inl ⟨a,vs,rfl,f,hw,hq _ _ (.here ok r ?_)⟩)
   have e:L3.cut ds0 lo hi=ds0:=by
    unfold L3.cut
    rw[g.length,<-RZ,<-RZ,hw.1,hw.2,qo,Nat.sub_zero,<-g.length,yw]
   rw[e]at h
   exact h
  ·exact .inl ⟨a,vs,rfl,f,hw,fun p hp=>hq _ _ (.IF ok (g.cut lo hi) hp h)⟩
 ·cases r.cI
  obtain⟨ds,e,h⟩:=dU h
  obtain⟨vs,g1,g2⟩:=ok.lst e
  exact .inr (.inr ⟨_,vs,rfl,eH.of g1,fun p hp=>hq _ _ (.gE ok (g2.cut lo hi) hp h)⟩)
 ·exact h.elim
inductive D2 (K:aa)(te:St->aB->(List D->aB->Prop)->Prop)(σ:L2.St)(H:Hp)(Q:Option Int->Hp->Prop):Prop where
 |mk (σd:St)(st:aB)(R:Option Int->aB->Prop)(r:dE K H σd σ)(ok:aR K st H)(q:te σd st (fun ds aA=>oM ds fun o=>R o aA))(hq:∀(o:Option Int) H',QX K H st (R o) H'->Q o H'):D2 K te σ H Q
theorem _root_.L2.PO.imp {X:Cx}{e:Option Expr}{t t':TO}(i:∀ σ H Q,t' σ H Q->t σ H Q)(h:PO X e t):PO X e t':=fun pins s σ H Q I q=>h pins s σ H Q I (i σ H Q q)
theorem YO:PO X none (D2 X.K (bL C sub E [])) :=
 YI.imp fun σ H Q ⟨σd,st,R,r,ok,q,hq⟩=>by
 exact hq _ _ ⟨st,.refl,ok,q⟩
theorem X4 (h:PE X e (bW X.K (aI C sub E x))):PO X (some e) (D2 X.K (bL C sub E [x])) :=
 (X1 h).imp fun σ H Q ⟨σd,st,R,r,ok,q,hq⟩=>by
 refine⟨σd,st,_,r,ok,q,fun v H1 ⟨d,aC,s1,aO,r1,q1⟩=>?_⟩
 cases d with
 |int i=>cases r1.int_inv;exact⟨i,rfl,hq _ _ ⟨aC,s1,aO,q1⟩⟩
 |_=>exact q1.elim
theorem Nf {lo hi:Option Expr}{xl xh:List Ex}{p2:Pos}(ha:PE X a (bW X.K (aI C sub E x)))(hl:PO X lo (D2 X.K (bL C sub E xl)))(hh:PO X hi (D2 X.K (bL C sub E xh))):
 PE X (.Subscript a (.Slice lo hi none p2) pos) (bW X.K (aI C sub E (.sl x xl xh))) :=
 (UC Ak ha hl hh).imp fun σ H Q ⟨σd,st,R,r,ok,q,hq⟩=>by
 refine⟨σd,st,_,r,ok,q,fun v H1 ⟨d,aC,s1,aO,r1,q1⟩=>?_⟩
 refine⟨σd,aC,_,r.step ok s1,aO,q1,fun lo H2 ⟨aF,s2,bY,q2⟩=>?_⟩
 refine⟨σd,aF,_,(r.step ok s1).step aO s2,bY,q2,fun hi H3 ⟨aU,s3,pL,q3⟩=>?_⟩
 exact TQ pL ((r1.step aO s2).step bY s3) q3 fun v H' z=>hq _ _ (.after ((s1.trans s2).trans s3) z)
noncomputable def wI (X:Cx)(f:Value)(W:List D->aB->VK->Prop):Prop :=
 ∀(pins:List (Addr×Obj))(s:af)(σ:L2.St)(H:Hp)(st:aB)(ds:List D)(vs:List V)(us:List Value)(R:VK),Inv X pins σ H s->aR X.K st H->aL X.K H ds vs->aQ vs us->W ds st R ->
 wpAny (model X.prog X.w) X.A (call f us) (EP X pins σ (QD X.K H st R)) X.xe s
inductive Cr (K:aa)(W:List D->aB->VK->Prop)(vs:List V)(H:Hp)(Q:L2.VK):Prop where
 |mk (ds:List D)(st:aB)(R:VK)(r:aL K H ds vs)(ok:aR K st H)(q:W ds st R)(hq:∀ v H',QD K H st R v H'->Q v H'):Cr K W vs H Q
theorem wI.call {f:Value}{W:List D->aB->VK->Prop}(h:wI X f W):vQ X f (Cr X.K W):=fun pins s σ H vs us Q I rv ⟨ds,st,R,r,ok,q,hq⟩ =>
 bB (h pins s σ H st ds vs us R I ok r rv q) fun u s' ⟨v,H',I',r',z⟩=>⟨v,H',I',r',hq _ _ z⟩
theorem J8 {K:aa}{W:List D->aB->VK->Prop}{xs:List Ex}{σ:L2.St}{H:Hp}{Q:L2.VK}(h:bW K (fun σ st R=>bL C sub E xs σ st fun ds aA=>W ds aA R) σ H Q):Bj (Cr K W) (kD K (bL C sub E xs)) σ H Q:=by
 obtain⟨σd,st,R,r,ok,q,hq⟩:=h
 refine⟨σd,st,_,r,ok,q,fun vs H1 ⟨ds,aC,s1,aO,r1,q1⟩=>?_⟩
 exact⟨ds,aC,R,r1,aO,q1,fun v H' z=>hq _ _ (.after s1 z)⟩
theorem Ic {W:List D->aB->VK->Prop}{n:Str}{id:String}{p:Pos}{es:List Expr}{xs:List Ex}(hW:wI X (.builtin id) W)(hg:Gl X n)(hm:X.mg n=none)(hv:cp n=some (.builtin id))(ha:PA X (e::es) (kD X.K (bL C sub E xs)))
 (hn:n ≠"__name__")(hdb:(n==("__debug__" : Str))=false)(he:ah (e::es) X.env=(false,eval e X.env)::ah es X.env)(cG:(dh pos (ah es X.env)).any (·.1)=false):
 PE X (.Call (.Name n p) (e::es) [] pos) (bW X.K fun σ st R=>bL C sub E xs σ st fun ds aA=>W ds aA R) :=
 (JV hW.call hg hm hv ha hn hdb he cG).imp fun σ H Q h=>J8 h
theorem Dy {W:List D->aB->VK->Prop}{n:Str}{T:String}{p:Pos}{es:List Expr}{xs:List Ex}(hW:wI X (.type T) W)(hg:Gl X n)(hm:X.mg n=none)(hv:cp n=some (.type T))(ha:PA X (e::es) (kD X.K (bL C sub E xs)))
 (hn:n ≠"__name__")(hdb:(n==("__debug__" : Str))=false)(he:ah (e::es) X.env=(false,eval e X.env)::ah es X.env)(cG:(dh pos (ah es X.env)).any (·.1)=false):
 PE X (.Call (.Name n p) (e::es) [] pos) (bW X.K fun σ st R=>bL C sub E xs σ st fun ds aA=>W ds aA R) :=
 (P6 hW.call hg hm hv ha hn hdb he cG).imp fun σ H Q h=>J8 h
theorem aL.one {K:aa}{H:Hp}{d:D}{vs:List V}(r:aL K H [d] vs):∃ v,vs=[v]/\Rep K H d v:=by
 cases r with|cons h r=>cases r;exact⟨_,rfl,h⟩
theorem PJ {K:aa}{H:Hp}{st:aB}{d:D}{v:V}{P:Nat->Prop}(ok:aR K st H)(r:Rep K H d v)(h:pU d st P):∃ n,Em K v H n/\P n:=by
 unfold pU at h
 split at h
 ·obtain⟨a,vs,rfl,f,g⟩:=r.bT
  exact⟨_,.inr ⟨vs,f,g.length⟩,h⟩
 ·cases r.str_inv
  exact⟨_,⟨by rw[gB];simpa [j2]using h.1,by simp [j2]⟩,h.2⟩
 ·cases r.cI
  obtain⟨ds,e,h⟩:=rY ok h
  obtain⟨vs,g1,g2⟩:=ok.lst e
  exact⟨_,.inl ⟨vs,eH.of g1,g2.length⟩,h⟩
 ·obtain⟨a,vs,rfl,f,g⟩:=r.kR
  exact⟨_,.inl ⟨vs,f.sq,g.length⟩,h⟩
 ·exact h.elim
theorem cW:wI X (.builtin "len") (gP .len):=by
 intro pins s σ H st ds vs us R I ok r rv q
 match ds,q with
 |[d],q =>
 have q:pU d st fun n=>R (.int (n:Nat)) st:=q
 obtain⟨v,rfl,rd⟩:=r.one
 obtain⟨n,l,q⟩:=PJ ok rd q
 exact S7 pins s σ H _ us _ I rv ⟨v,n,rfl,l,.here ok (.int _) q⟩
 |[],q=>exact(show False from q).elim
 |_::_::_,q=>exact(show False from q).elim
end
end L3
end
section
namespace L3
open PySem PySem.Spec PyProof.Rows L2
section
variable {X:Cx}{pins:List (Addr×Obj)}{σ:L2.St}{H:Hp}{s:af}
noncomputable def PL (K:aa)(H:Hp)(a:Addr)(vs:List V):Prop:=eH K H a vs∨eI K H a vs
theorem A4 {A:b7}{E:Value->af->Prop}{a:Addr}{vs:List V}{Q:Value->af->Prop}(hh:A.handled=none)(I:Inv X pins σ H s)(h:PL X.K H a vs)
  (hQ:∀(aD:List Value)(I0:Addr)(fp wr:List Addr)(St:Nat->Heap->Prop)(s₂:af),aQ vs aD->Walks X.prog X.w A I0 fp wr aD.length (fun i v=>aD[i]? = some v) St->St 0 s₂.heap->(∀ b∈fp,b<s₂.heap.objs.size) ->
   (∀ h' tk,(∀ b o,b∉wr->s₂.heap.get? b=some o->h'.get? b=some o)->Inv X pins σ H { s₂ with heap:=h',toks:=tk })->Q (.ref I0) s₂):wpAny (model X.prog X.w) A (tq (.ref a)) Q E s:=by
 rcases h with h|h
 ·obtain⟨aD,r,p,hz⟩:=I.list h
  have hl:=p.isList
  have cY:a<s.heap.objs.size:=by obtain⟨_,e,_⟩:=hl;exact bg e
  have W:=Walks.list (prog:=X.prog) (w:=X.w) (A:=A) hh s.heap.objs.size a (b9 cY) aD.toArray
  have e1:aD.toArray.size=aD.length:=by simp
  have e2:(fun(i:Nat)(v:Value)=>aD.toArray[i]? = some v)=fun i v=>aD[i]? = some v:=by funext i v;simp
  rw[e1,e2]at W
  refine yl hl (hQ aD s.heap.objs.size _ _ _ _ r W ⟨⟨_,bh _ rfl,rfl,rfl⟩,hl.push _⟩ (fun b hb=>?_) fun h' tk hk=>?_)
  ·show b<(s.heap.push _).objs.size
   rw[jm]
   rcases List.mem_cons.mp hb with rfl|hb
   ·exact f9 _
   ·rcases List.mem_cons.mp hb with rfl|hb
    ·exact j0 cY
    ·cases hb
  ·exact I.kept (t':=tk) (old_kept hk)
 ·obtain⟨aD,r,p,hz⟩:=I.tuple h
  have hl:s.heap.IsTuple a aD.toArray:=p
  have cY:a<s.heap.objs.size:=by obtain⟨_,e,_⟩:=hl;exact bg e
  have W:=Rk (prog:=X.prog) (w:=X.w) (A:=A) hh s.heap.objs.size a (b9 cY) aD.toArray
  have e1:aD.toArray.size=aD.length:=by simp
  have e2:(fun(i:Nat)(v:Value)=>aD.toArray[i]? = some v)=fun i v=>aD[i]? = some v:=by funext i v;simp
  rw[e1,e2]at W
  refine qr hl (hQ aD s.heap.objs.size _ _ _ _ r W ⟨⟨_,bh _ rfl,rfl,rfl⟩,hl.push _⟩ (fun b hb=>?_) fun h' tk hk=>?_)
  ·show b<(s.heap.push _).objs.size
   rw[jm]
   rcases List.mem_cons.mp hb with rfl|hb
   ·exact f9 _
   ·rcases List.mem_cons.mp hb with rfl|hb
    ·exact j0 cY
    ·cases hb
  ·refine I.kept (t':=tk) fun b o e=>hk b o (fun hm=>?_) (ag _ e)
   rcases List.mem_cons.mp hm with e1|hm
   ·exact absurd (e1▸Heap.lt_size e) (ey _)
   ·cases hm
theorem mK {K:aa}{st:aB}{d:D}{v:V}{P:List Nat->List D->Prop}(ok:aR K st H)(r:Rep K H d v)(h:dP d st P):∃ a vs as ds,v=.ref a/\PL K H a vs/\aL K H ds vs/\P as ds:=by
 unfold dP at h
 split at h
 ·obtain⟨a,vs,rfl,f,g⟩:=r.bT
  exact⟨a,vs,_,_,rfl,.inr f,g,h⟩
 ·cases r.cI
  obtain⟨ds,e,h⟩:=dU h
  obtain⟨vs,g1,g2⟩:=ok.lst e
  exact⟨_,vs,_,ds,rfl,.inl (eH.of g1),g2,h⟩
 ·obtain⟨a,vs,rfl,f,g⟩:=r.kR
  exact⟨a,vs,_,_,rfl,.inl f.sq,g,h⟩
 ·exact h.elim
theorem A9 {K:aa}:∀{ds:List D}{vs:List V}{aD:List Value}{bs:List Bool},boolsOf ds=some bs->aL K H ds vs->aQ vs aD->aD=bs.map qg
 |_,_,_,_,h,.nil,.nil=>by cases h;rfl
 |d::ds,_,_,bs,h,.cons r1 r2,.cons v1 v2=>by
  cases d with
  |bl b =>
   simp only[boolsOf,c9]at h
   obtain⟨bs',e,rfl⟩:=h
   cases r1.fJ
   cases v1
   rw[A9 e r2 v2];rfl
  |_=>simp [boolsOf]at h
theorem all_range (bs:List Bool):(ai bs.length).all (fun i=>(bs[i]?).getD true)=bs.all id:=by
 induction bs with
 |nil=>rfl
 |cons b bs ih =>
 simp only[bj,jd,om,qe,nu,mx,my,jj,id]
 rw[<-ih]
theorem any_range (bs:List Bool):(ai bs.length).any (fun i=>(bs[i]?).getD true)=bs.any id:=by
 induction bs with
 |nil=>rfl
 |cons b bs ih =>
 simp only[bj,jd,j3,ki,nu,mx,my,jj,id]
 rw[<-ih]
theorem AD {prog:br}{w:World}{A:b7}(bs:List Bool):TruthOf prog w A (fun i v=>(bs.map qg)[i]? = some v) (fun i=>(bs[i]?).getD true):=fun i v s Q E hP hQ=>by
 have hP:(bs.map qg)[i]? = some v:=hP
 rw[bb,c9]at hP
 obtain⟨b,e,rfl⟩:=hP
 simp only[e,jj]at hQ
 exact kr hQ
theorem iN (hh:X.A.handled=none):wI X (.builtin "all") (gP .all):=by
 intro pins s σ H st ds vs us R I ok r rv q
 match ds,q with
 |[d],q =>
 have q:gP .all [d] st R:=q
 rw[RP]at q
 obtain⟨v,rfl,rd⟩:=r.one
 obtain⟨u,rfl,ru⟩:=vals1 rv
 obtain⟨a,ws,as,xs,rfl,sa,g,q⟩:=mK ok rd q
 cases ru
 obtain⟨bs,e,q⟩:=eM q
 refine call_all_walk (A4 (A:=X.A.in1) hh I sa fun aD I0 fp wr St s₂ rr W h0 hfp hk=>?_)
 cases A9 e g rr
 refine⟨I0,fp,wr,_,_,St,_,rfl,W,h0,AD bs,fun h' tk hk'=>⟨.bl _,H,hk h' tk hk',rfl,?_⟩⟩
 rw[ab,all_range]
 exact .here ok (.bl _) q
 |[],q=>exact(show False from q).elim
 |_::_::_,q=>exact(show False from q).elim
theorem EN (hh:X.A.handled=none):wI X (.builtin "any") (gP .any):=by
 intro pins s σ H st ds vs us R I ok r rv q
 match ds,q with
 |[d],q =>
 have q:gP .any [d] st R:=q
 rw[QT]at q
 obtain⟨v,rfl,rd⟩:=r.one
 obtain⟨u,rfl,ru⟩:=vals1 rv
 obtain⟨a,ws,as,xs,rfl,sa,g,q⟩:=mK ok rd q
 cases ru
 obtain⟨bs,e,q⟩:=eM q
 refine call_any_walk (A4 (A:=X.A.in1) hh I sa fun aD I0 fp wr St s₂ rr W h0 hfp hk=>?_)
 cases A9 e g rr
 refine⟨I0,fp,wr,_,_,St,_,rfl,W,h0,AD bs,fun h' tk hk'=>⟨.bl _,H,hk h' tk hk',rfl,?_⟩⟩
 rw[ab,any_range]
 exact .here ok (.bl _) q
 |[],q=>exact(show False from q).elim
 |_::_::_,q=>exact(show False from q).elim
theorem vU:wI X (.type "list") (gP .list):=by
 intro pins s σ H st ds vs us R I ok r rv q
 match ds,q with
 |[d],q =>
 have q:gP .list [d] st R:=q
 rw[LX]at q
 obtain⟨v,rfl,rd⟩:=r.one
 obtain⟨a,ws,as,xs,rfl,sa,g,q⟩:=mK ok rd q
 exact G9 pins s σ H _ us _ I rv ⟨a,ws,rfl,sa,fun l hl=>.gE ok g hl q.2⟩
 |[],q=>exact(show False from q).elim
 |_::_::_,q=>exact(show False from q).elim
theorem fS:wI X (.type "tuple") (gP .tuple):=by
 intro pins s σ H st ds vs us R I ok r rv q
 match ds,q with
 |[d],q =>
 have q:gP .tuple [d] st R:=q
 rw[J2]at q
 obtain⟨v,rfl,rd⟩:=r.one
 obtain⟨a,ws,as,xs,rfl,sa,g,q⟩:=mK ok rd q
 rcases sa with sa|sa
 ·exact wK pins s σ H _ us _ I rv ⟨a,ws,rfl,.inl ⟨sa,fun l hl=>.IF ok g hl q.2⟩⟩
 ·exact wK pins s σ H _ us _ I rv ⟨a,ws,rfl,.inr ⟨sa,.here ok (.tup sa g) q.2⟩⟩
 |[],q=>exact(show False from q).elim
 |_::_::_,q=>exact(show False from q).elim
theorem L6 {K:aa}:∀{ds:List D}{vs:List V}{aD:List Value}{is:List Int},intsOf ds=some is->aL K H ds vs->aQ vs aD->ue aD is
 |_,_,_,_,h,.nil,.nil=>by cases h;exact .nil
 |d::ds,_,_,bs,h,.cons r1 r2,.cons v1 v2=>by
  cases d with
  |int i =>
   simp only[intsOf,c9]at h
   obtain⟨bs',e,rfl⟩:=h
   cases r1.int_inv
   obtain⟨t,rfl⟩:=v1
   exact .cons _ _ (L6 e r2 v2)
  |_=>simp [intsOf]at h
noncomputable def JC (is:List Int)(i:Nat):Int:=(is[i]?).getD 0
theorem PB:∀{aD:List Value}{is:List Int},ue aD is->∀(i:Nat)(v:Value),aD[i]? = some v->∃ t,v=.int (JC is i) t
 |_,_,.nil,i,v,e=>by simp at e
 |_,_,.cons n t r,0,v,e=>by simp at e;exact⟨t,e.symm⟩
 |_,_,.cons n t r,i+1,v,e=>by
  obtain⟨t',e'⟩:=PB r i v (by simpa using e)
  exact⟨t',by simpa [JC]using e'⟩
theorem LK:∀{aD:List Value}{is:List Int},ue aD is->aD.length=is.length
 |_,_,.nil=>rfl
 |_,_,.cons _ _ r=>by simp [LK r]
theorem take_snoc {r:List Int}{k:Nat}(h:k<r.length):r.take (k+1)=r.take k++[r[k]]:=by rw[List.take_succ_eq_append_getElem h]
theorem CZ (is:List Int):∀ n,n<=is.length->preSum (JC is) n=(is.take n).sum
 |0,_=>rfl
 |n+1,h=>by
  rw[take_snoc (by omega),List.sum_append,<-CZ is n (by omega)]
  simp [preSum,JC,aj (show n<is.length by omega)]
theorem E9 (hh:X.A.handled=none):wI X (.builtin "sum") (gP .sum):=by
 intro pins s σ H st ds vs us R I ok r rv q
 match ds,q with
 |[d],q =>
 have q:gP .sum [d] st R:=q
 rw[QI]at q
 obtain⟨v,rfl,rd⟩:=r.one
 obtain⟨u,rfl,ru⟩:=vals1 rv
 obtain⟨a,ws,as,xs,rfl,sa,g,q⟩:=mK ok rd q
 cases ru
 obtain⟨is,e,q⟩:=eM q
 refine call_sum_walkG (A4 (A:=X.A.in1) hh I sa fun aD I0 fp wr St s₂ rr W h0 hfp hk=>?_)
 have ia:=L6 e g rr
 have hl:=LK ia
 refine⟨I0,fp,wr,_,_,St,JC is,rfl,W,h0,hfp,fun j v e=>PB ia j v e,fun h' tk t' hk'=>?_⟩
 refine⟨.int _,H,hk h' tk hk',⟨t',rfl⟩,?_⟩
 rw[hl,CZ is is.length (az _),yw]
 exact .here ok (.int _) q
 |[],q=>exact(show False from q).elim
 |_::_::_,q=>exact(show False from q).elim
theorem Pe {K:aa}{a:Addr}{vs:List V}(h:H a=some (.lst vs)):PR K "list" (.ref a) H:=.inl ⟨rfl,vs,eH.of h⟩
theorem zO (l:Addr)(items:Array Value)(n:Nat)(b:Addr)(items2:Array Value)(n2:Nat)(dd:Option Addr)(sl:Array (Option Value))(hs0:¬(!items.isEmpty&&dw (items.size+items2.size))=true)(hs1:items.size<=sizeLine)(hs2:items.size+items2.size<=sizeLine+1):
 Meets (Builtin.«list.extend» ⟨[.ref l,.ref b],[]⟩) (fun _ R s=>s.heap.get? l=some { cls:=.type "list", dict:=none,data:=.seq items n,slots:=#[] }/\s.heap.get? b=some { cls:=.type "tuple", dict:=dd,data:=.seq items2 n2,slots:=sl }/\R (.ok (.ret iq)) { s with heap:=s.heap.update l (jo fun x=>x++items2),toks:=s.toks }) :=
 .of_wp fun prog w A R s h=>by
 obtain⟨hp,g,d,tk,os⟩:=s;obtain⟨hl,hb,h⟩:=h;have f1:=AutoSeq1.idx_int;have f2:=AutoSeq1.sub_tuple_tuple;have f3:=AutoSeq1.sub_list_list;have f4:=AutoSeq1.sub_tuple_list;have f5:=AutoSeq1.sub_list_tuple;
 have hz':(items++items2).size<=sizeLine+1:=by rw[Array.size_append];exact hs2
 wp_walk using(pj hl rfl (hz:=hs1) (_hz':=hz')),rk hl,rk hb;exact⟨_,rfl,h⟩
noncomputable def TR (K:aa):V->List V->Hp->L2.VK->Prop:=fun x vs H Q=>∃ l b xs zs,x=.ref l/\vs=[.ref b]/\H l=some (.lst xs)/\eI K H b zs/\xs.length+zs.length<=sizeLine/\Q .non (upd H l (.lst (xs++zs)))
theorem N5:VV X "list.extend" (TR X.K):=by
 intro pins s σ H x vs v us Q I rx rv h
 obtain⟨l,b,xs,zs,rfl,rfl,hH,hB,hz,q⟩:=h
 cases rx
 obtain⟨u,rfl,ru⟩:=rv.one
 cases ru
 obtain⟨z,aD,n,r,hl,e⟩:=I.vS hH
 obtain⟨nR,r2,p2,_⟩:=I.tuple hB
 have hl2:=r2.length
 obtain⟨⟨cls,dd,data,sl⟩,ho,hc,n2,hd⟩:=id p2
 simp only at hc hd
 subst hc hd
 have mM:aD.toArray.size+nR.toArray.size<=sizeLine:=by rw[ar,ar];omega
 have hlong:¬(!aD.toArray.isEmpty&&dw (aD.toArray.size+nR.toArray.size))=true:=by
  rw[A7 mM,cg]
  exact ei
 refine mj xj ⟨_,e,rfl⟩ wj (vn _ _)
  (zO l aD.toArray n b nR.toArray n2 dd sl hlong (by rw[ar];omega) (by omega)) ⟨e,ho,?_⟩
 refine⟨.non,_,I.M6 (lG:=aD++nR) hH e (by simp) (r.append r2) ?_,rfl,q⟩
 rw[bq]
 omega
noncomputable def HK (X:Cx)(T id:String)(W:D->List D->aB->VK->Prop):Prop :=
 ∀(pins:List (Addr×Obj))(s:af)(σ:L2.St)(H:Hp)(st:aB)(d:D)(ds:List D)(v:V)(vs:List V)(u:Value)(us:List Value)(R:VK),Inv X pins σ H s->aR X.K st H->Rep X.K H d v->RelV v u->aL X.K H ds vs->aQ vs us->W d ds st R ->
 wpAny (model X.prog X.w) X.A (call (.builtin id) (u::us)) (EP X pins σ (QD X.K H st R)) X.xe s
inductive Fh (K:aa)(W:D->List D->aB->VK->Prop)(v:V)(vs:List V)(H:Hp)(Q:L2.VK):Prop where
 |mk (d:D)(ds:List D)(st:aB)(R:VK)(r:Rep K H d v)(rs:aL K H ds vs)(ok:aR K st H)(q:W d ds st R)(hq:∀ v H',QD K H st R v H'->Q v H'):Fh K W v vs H Q
theorem HK.mt {T id:String}{W:D->List D->aB->VK->Prop}(h:HK X T id W):VV X id (Fh X.K W):=fun pins s σ H v vs u us Q I rv rvs ⟨d,ds,st,R,r,rs,ok,q,hq⟩ =>
 bB (h pins s σ H st d ds v vs u us R I ok r rv rs rvs q) fun u s' ⟨v,H',I',r',z⟩=>⟨v,H',I',r',hq _ _ z⟩
theorem QY:HK X "list" "list.append" (jO .append):=by
 intro pins s σ H st d ds v vs u us R I ok r rv rs rvs q
 cases d<;>first|exact(show False from q).elim|skip
 match ds,q with
 |[d],q =>
 cases r.cI
 obtain⟨w,rfl,rd⟩:=rs.one
 obtain⟨xs,e,q⟩:=dU (st:=st) q
 obtain⟨ys,g1,g2⟩:=ok.lst e
 exact L2.sP pins s σ H _ _ u us _ I rv rvs ⟨_,ys,w,rfl,rfl,g1,by rw[gB,<-g2.length];exact q.1,.set ok e (g2.append (.cons rd .nil)) .non q.2⟩
 |[],q=>exact(show False from q).elim
 |_::_::_,q=>exact(show False from q).elim
theorem QS:HK X "list" "list.extend" (jO .extend):=by
 intro pins s σ H st d ds v vs u us R I ok r rv rs rvs q
 cases d<;>first|exact(show False from q).elim|skip
 match ds,q with
 |[d],q =>
 cases r.cI
 obtain⟨w,rfl,rd⟩:=rs.one
 obtain⟨xs,e,q⟩:=dU (st:=st) q
 obtain⟨ys,g1,g2⟩:=ok.lst e
 have q:xD d st fun zs=>xs.length+zs.length<=bK/\R .non (put st _ (.lst (xs++zs))):=q
 cases d<;>first|exact(show False from q).elim|skip
 ·obtain⟨b,ws,rfl,f,g⟩:=rd.bT
  exact N5 pins s σ H _ _ u us _ I rv rvs ⟨_,b,ys,ws,rfl,rfl,g1,f,by rw[gB,<-g2.length,<-g.length];exact q.1,.set ok e (g2.append g) .non q.2⟩
 ·cases rd.cI
  obtain⟨zs,e2,q⟩:=dU (st:=st) q
  obtain⟨ws,k1,k2⟩:=ok.lst e2
  exact L2.xQ pins s σ H _ _ u us _ I rv rvs ⟨_,_,ys,ws,rfl,rfl,g1,k1,by rw[gB,<-g2.length,<-k2.length];exact q.1,.set ok e (g2.append k2) .non q.2⟩
 |[],q=>exact(show False from q).elim
 |_::_::_,q=>exact(show False from q).elim
theorem Br:HK X "list" "list.pop" (jO .pop):=by
 intro pins s σ H st d ds v vs u us R I ok r rv rs rvs q
 cases d<;>first|exact(show False from q).elim|skip
 match ds,q with
 |[],q =>
 cases r.cI
 cases rs
 obtain⟨xs,e,q⟩:=dU (st:=st) q
 obtain⟨ys,g1,g2⟩:=ok.lst e
 obtain⟨d,e2,q⟩:=eM q
 obtain⟨w,k1,k2⟩:=g2.get e2
 exact L2.HI pins s σ H _ _ u us _ I rv rvs ⟨_,ys,w,rfl,rfl,g1,by rw[<-g2.length];exact k1,.set ok e g2.dropLast k2 q⟩
 |_::_,q=>exact(show False from q).elim
theorem R5 {K:aa}{m:MT}{st:aB}{d:D}{v:V}(hm:m≠.index)(ok:aR K st H)(r:Rep K H d v)(h:yG m d st):PR K "list" v H:=by
 unfold yG at h
 split at h
 all_goals first|(exact h.elim;done)|(exact absurd rfl hm;done)|skip
 all_goals
 cases r.cI
 obtain⟨ds,e,_⟩:=dU h
 obtain⟨vs,g,_⟩:=ok.lst e
 exact Pe g
end
section
variable {X:Cx}{C:bE}{sub:Nat->Nat->Bool}{E:XK}{a b c e o:Expr}{x y z:Ex}{pos apos kE:Pos}
theorem PV {m:MT}{name:Str}{id:String}{es:List Expr}{xs:List Ex}(hmi:m≠.index)(slot:Slot "list" name id)(hty:Rt (.builtin id)=pure (.type "method_descriptor"))(hm:HK X "list" id (jO m))(ho:PE X o (bW X.K (aI C sub E x)))(ha:PA X (e::es) (kD X.K (bL C sub E xs)))
 (jR:fw o name X.env (eval o X.env)=eval o X.env)
 (vZ:((dh kE (ah (e::es) X.env)).all (fun x=>!x.1)&&(ni kE (jx [] X.env)).all (fun x=>x.1.isSome)&&decide ((e::es).length+([]:List qd).length+(if([]:List qd).isEmpty then 0 else 1)<30))=true)(jS:(apos.endLine==kE.line)=true)
 (hs:ah (e::es) X.env=(false,eval e X.env)::ah es X.env)(rR:(dh kE (ah es X.env)).any (·.1)=false):
 PE X (.Call (.Attribute o name apos) (e::es) [] kE) (bW X.K (aI C sub E (.cD m x xs))) :=
 (Je mz slot hty hm.mt ho ha jR vZ jS hs rR).imp fun σ H Q ⟨σd,st,R,r,ok,q,hq⟩=>by
 refine⟨σd,st,_,r,ok,q,fun v H1 ⟨d,aC,s1,aO,r1,q1⟩=>⟨R5 hmi aO r1 q1.1,?_⟩⟩
 refine⟨σd,aC,_,r.step ok s1,aO,q1.2,fun vs H2 ⟨ds,aF,s2,bY,r2,q2⟩=>?_⟩
 exact⟨d,ds,aF,R,r1.step aO s2,r2,bY,q2,fun v H' z=>hq _ _ (.after (s1.trans s2) z)⟩
theorem W8 {m:MT}{name:Str}{id:String}(hmi:m≠.index)(slot:Slot "list" name id)(hty:Rt (.builtin id)=pure (.type "method_descriptor"))(hm:HK X "list" id (jO m))(ho:PE X o (bW X.K (aI C sub E x)))
 (jR:fw o name X.env (eval o X.env)=eval o X.env)(jS:(apos.endLine==kE.line)=true):
 PE X (.Call (.Attribute o name apos) [] [] kE) (bW X.K (aI C sub E (.cD m x []))) :=
 (Ci mz slot hty hm.mt ho jR jS).imp fun σ H Q ⟨σd,st,R,r,ok,q,hq⟩=>by
 refine⟨σd,st,_,r,ok,q,fun v H1 ⟨d,aC,s1,aO,r1,q1⟩=>⟨R5 hmi aO r1 q1.1,?_⟩⟩
 exact⟨d,[],aC,R,r1,.nil,aO,q1.2,fun v H' z=>hq _ _ (.after s1 z)⟩
inductive fO (K:aa)(C:bE)(f:Nat)(vs:List V)(H:Hp)(Q:L2.VK)(E:L2.XK):Prop where
 |mk (ds:List D)(st:aB)(R:VK)(r:aL K H ds vs)(ok:aR K st H)(q:C f ds st R (fun _ _=>False))(hq:∀ v H',QD K H st R v H'->Q v H'):fO K C f vs H Q E
theorem Eg {CX:zT}{k:Nat}{f:Addr}{fid:Nat}{fd:gj}{ps:List Str}{n:Str}{p:Pos}{es:List Expr}{xs:List Ex}(F:fF X.prog X.w X.K X.mg X.base CX k f fd ps (fO X.K C fid))(hr:cX k X.A)(hg:Gl X n)(hm:X.mg n=some (.ref f))
 (hk:ek X.K (.ref f)=true)(hb:Binds X.K fd ps [])(hx:pC CX X E0)(ha:PA X (e::es) (kD X.K (bL C sub (fun _ _=>False) xs)))
 (hdb:(n==("__debug__" : Str))=false)(he:ah (e::es) X.env=(false,eval e X.env)::ah es X.env)(cG:(dh pos (ah es X.env)).any (·.1)=false):
 PE X (.Call (.Name n p) (e::es) [] pos) (bW X.K (aI C sub (fun _ _=>False) (.call fid xs))) :=
 (Y0 F hr hg hm hk hb .nil hx ha hdb he cG).imp fun σ H Q ⟨σd,st,R,r,ok,q,hq⟩=>by
 refine⟨σd,st,_,r,ok,q,fun vs H1 ⟨ds,aC,s1,aO,r1,q1⟩=>?_⟩
 show fO X.K C fid (vs++[]) H1 Q E0
 rw[el]
 exact⟨ds,aC,R,r1,aO,q1,fun v H' z=>hq _ _ (.after s1 z)⟩
end
end L3
end
section
namespace L3
open PySem PySem.Spec PyProof.Rows L2
noncomputable abbrev EF:XK:=fun _ _=>False
structure B9 (K:aa)(H:Hp)(st:aB)(P:gM)(D:Ends):Prop where
 nx:∀ σ' H' dR aA,dE K H' dR σ'->Step H st H' aA->aR K aA H'->P.nx dR aA->D.nx σ' H'
 rt:∀ v H',QD K H st P.rt v H'->D.rt v H'
 bk:∀ σ' H' dR aA,dE K H' dR σ'->Step H st H' aA->aR K aA H'->P.bk dR aA->D.bk σ' H'
 ct:∀ σ' H' dR aA,dE K H' dR σ'->Step H st H' aA->aR K aA H'->P.ct dR aA->D.ct σ' H'
 ex:∀ c σd st,¬P.ex c σd st
theorem B9.after {K:aa}{H H1:Hp}{st aC:aB}{P:gM}{D:Ends}(h:B9 K H st P D)(s:Step H st H1 aC):B9 K H1 aC P D :=
 ⟨fun σ' H' dR aA r t ok q=>h.nx σ' H' dR aA r (s.trans t) ok q,fun v H' z=>h.rt v H' (.after s z),fun σ' H' dR aA r t ok q=>h.bk σ' H' dR aA r (s.trans t) ok q,fun σ' H' dR aA r t ok q=>h.ct σ' H' dR aA r (s.trans t) ok q,h.ex⟩
inductive iD (K:aa)(ts:gM->St->aB->Prop)(D:Ends)(σ:L2.St)(H:Hp):Prop where
 |mk (σd:St)(st:aB)(P:gM)(r:dE K H σd σ)(ok:aR K st H)(q:ts P σd st)(h:B9 K H st P D):iD K ts D σ H
section
variable {X:Cx}{C:bE}{sub:Nat->Nat->Bool}{a b c e:Expr}{x y z:Ex}{pos:Pos}{s:Stmt}{ss:List Stmt}{xs:List Sx}{sx:Sx}
theorem Im:kL X [] (iD X.K (cR C sub [])) :=
 YT.imp fun D σ H ⟨σd,st,P,r,ok,q,h⟩=>by
 exact h.nx _ _ _ _ r .refl ok q
theorem Av (h1:PS X s (iD X.K (wpS C sub sx)))(h2:kL X ss (iD X.K (cR C sub xs))):kL X (s::ss) (iD X.K (cR C sub (sx::xs))) :=
 (U5 h1 h2).imp fun D σ H ⟨σd,st,P,r,ok,q,h⟩=>by
 exact⟨σd,st,_,r,ok,q,⟨fun σ' H' dR aA r' s' fK q'=>⟨dR,aA,P,r',fK,q',h.after s'⟩,h.rt,h.bk,h.ct,h.ex⟩⟩
theorem rK {P:gM}{σd:St}{st:aB}{x:Ex}{Q:VK}(hC:bQ C C)(he:∀ c σd st,¬P.ex c σd st)(q:aI C sub (fun c aA=>P.ex c σd aA) x σd st Q):aI C sub EF x σd st Q :=
 aV hC (fun c st z=>he _ _ _ z) x (fun _ _ z=>z) q
theorem Hr {P:gM}{σd:St}{st:aB}{xs:List Ex}{Q:List D->aB->Prop}(hC:bQ C C)(he:∀ c σd st,¬P.ex c σd st)(q:bL C sub (fun c aA=>P.ex c σd aA) xs σd st Q):bL C sub EF xs σd st Q :=
 cS hC (fun c st z=>he _ _ _ z) xs (fun _ _ z=>z) q
theorem Gk (hC:bQ C C)(h:PE X e (bW X.K (aI C sub EF x))):PS X (.Return (some e) pos) (iD X.K (wpS C sub (.ret x))) :=
 (Ft h).imp fun D σ H ⟨σd,st,P,r,ok,q,h⟩=>by
 exact⟨σd,st,_,r,ok,rK hC h.ex q,h.rt⟩
theorem Z5:PS X (.Return none pos) (iD X.K (wpS C sub (.ret (.c .non)))) :=
 YX.imp fun D σ H ⟨σd,st,P,r,ok,q,h⟩=>by
 exact h.rt _ _ (.here ok .non q)
theorem Lm (hC:bQ C C)(h:PE X e (bW X.K (aI C sub EF x)))(hs:lb e none pos.line X.env=pure false):PS X (.Expr e pos) (iD X.K (wpS C sub (.ex x))) :=
 (W7 h hs).imp fun D σ H ⟨σd,st,P,r,ok,q,h⟩=>by
 exact⟨σd,st,_,r,ok,rK hC h.ex q,fun v H' ⟨d,aA,s',fK,_,q'⟩=>h.nx _ _ _ _ (r.step ok s') s' fK q'⟩
theorem Lx {as bs:List Stmt}{ax bx:List Sx}(hC:bQ C C)(hc:PT X c (jQ X.K (aI C sub EF x)))(ha:kL X as (iD X.K (cR C sub ax)))(hb:kL X bs (iD X.K (cR C sub bx))):PS X (.If c as bs pos) (iD X.K (wpS C sub (.iff x ax bx))) :=
 (Ji hc ha hb).imp fun D σ H ⟨σd,st,P,r,ok,q,h⟩=>by
 refine⟨σd,st,fun k aA=>if k=true then cR C sub ax P σd aA else cR C sub bx P σd aA,r,ok,rK hC h.ex q,fun k H' ⟨aA,s',fK,q'⟩=>?_⟩
 cases k with
 |true=>exact⟨σd,aA,P,r.step ok s',fK,q',h.after s'⟩
 |false=>exact⟨σd,aA,P,r.step ok s',fK,q',h.after s'⟩
theorem Cm {cl:Nat}{es:List Ex}(hC:bQ C C)(hn:∀ σd st,¬bL C sub EF es σd st fun _ _=>False):PS X s (iD X.K (wpS C sub (.rais cl es))) :=
 UQ.imp fun D σ H ⟨σd,st,P,r,ok,q,h⟩=>by
 exact hn σd st (cS hC (fun c st z=>(h.ex _ _ _ z).elim) es (fun _ _ z=>(h.ex _ _ _ z).elim) q)
inductive J4 (K:aa)(g:D->St->aB->(St->aB->Prop)->Prop)(v:V)(σ:L2.St)(H:Hp)(Q:L2.St->Hp->Prop):Prop where
 |mk (d:D)(σd:St)(st:aB)(M:St->aB->Prop)(r:Rep K H d v)(sr:dE K H σd σ)(ok:aR K st H)(q:g d σd st M)(hq:∀ σ' H' dR aA,dE K H' dR σ'->Step H st H' aA->aR K aA H'->M dR aA->Q σ' H'):J4 K g v σ H Q
theorem _root_.L2.PG.imp {X:Cx}{e:Expr}{t t':TG}(i:∀ v σ H Q,t' v σ H Q->t v σ H Q)(h:PG X e t):PG X e t':=fun pins s σ H v u Q I r q=>h pins s σ H v u Q I r (i v σ H Q q)
theorem M5 {E:XK}{i:Nat}(h:PG X e (B6 i)):PG X e (J4 X.K (mW C sub E (.nm i))) :=
 h.imp fun v σ H Q ⟨d,σd,st,M,rd,r,ok,q,hq⟩=>by
 exact hq _ _ _ _ (r.set i rd) .refl ok q
theorem NV {tg:Expr}{t:Tg}(hC:bQ C C)(he:PE X e (bW X.K (aI C sub EF x)))(hg:PG X tg (J4 X.K (mW C sub EF t)))
 (hs:oi [tg] e pos.line X.env=pure false)(hw:oj [tg] e X.env=pure none)(h1:(eh [tg] X.env).map (·.2)=[lx tg X.env]):PS X (.Assign [tg] e pos) (iD X.K (wpS C sub (.asg t x))) :=
 (Bz he hg hs hw h1).imp fun D σ H ⟨σd,st,P,r,ok,q,h⟩=>by
 refine⟨σd,st,_,r,ok,rK hC h.ex q,fun v H' ⟨d,aA,s',fK,rd,q'⟩=>?_⟩
 refine⟨d,σd,aA,P.nx,rd,r.step ok s',fK,vK hC (fun c st z=>h.ex _ _ _ z) (fun _ _ z=>z) t q',fun σ2 H2 sS aF r2 s2 bY q2=>?_⟩
 exact h.nx _ _ _ _ r2 (s'.trans s2) bY q2
theorem WO {bs:List Stmt}{bx:List Sx}(hC:bQ C C)(hp:n4 (model X.prog X.w) X.A X.env X.xe)(hc:PT X c (jQ X.K (aI C sub EF x)))(hb:kL X bs (iD X.K (cR C sub bx))):PS X (.While c bs [] pos) (iD X.K (wpS C sub (.whl x bx))) :=
 (UE hp hc hb).imp fun D σ H ⟨σd,st,P,r,ok,q,h⟩=>by
 obtain⟨n,q⟩:=q
 refine⟨fun m σ' H'=>∃ dR aA,dE X.K H' dR σ'/\Step H st H' aA/\aR X.K aA H'/\pJ _ m dR aA,⟨n,σd,st,r,.refl,ok,q⟩,fun m σ1 H1 ⟨σd1,aC,r1,s1,aO,q1⟩=>?_⟩
 cases m with
 |zero=>exact q1.elim
 |succ m =>
  simp only[pJ]at q1
  refine⟨σd1,aC,fun k aA=>if k=true then cR C sub bx _ σd1 aA else P.nx σd1 aA,r1,aO,rK hC h.ex q1,fun k H2 ⟨aF,s2,bY,q2⟩=>?_⟩
  cases k with
  |false=>exact h.nx _ _ _ _ (r1.step aO s2) (s1.trans s2) bY q2
  |true =>
  refine⟨fun σ' H'=>∃ dR aA,dE X.K H' dR σ'/\Step H st H' aA/\aR X.K aA H'/\pJ _ m dR aA,fun σ' H' z=>⟨m,f9 _,z⟩,?_⟩
  refine⟨σd1,aF,_,r1.step aO s2,bY,q2,⟨fun σ' H' dR aA r' s' fK q'=>⟨dR,aA,r',(s1.trans s2).trans s',fK,q'⟩,fun v H' z=>h.rt _ _ (.after (s1.trans s2) z),fun σ' H' dR aA r' s' fK q'=>h.nx _ _ _ _ r' ((s1.trans s2).trans s') fK q',
   fun σ' H' dR aA r' s' fK q'=>⟨dR,aA,r',(s1.trans s2).trans s',fK,q'⟩,h.ex⟩⟩
end
end L3
end
section
namespace L3
open PySem PySem.Spec PyProof.Rows L2
noncomputable def VU (x:Str):It:=⟨fun i _=>i<x.cps.size,fun i H v H'=>H'=H/\∃ c,x.cps[i]? = some c/\v=.str ⟨#[c]⟩,fun i _=>x.cps.size<=i⟩
theorem JY {P:br}{w:World}{K:aa}{tg:Expr}(it:Addr)(x:Str)(t:Tok)(ty:String)(hty:["enumerate","zip","dict_itemiterator","dict_reverseitemiterator","odict_iterator","itertools.zip_longest","itertools.pairwise"].contains ty=false)
  (W:∀ A:b7,A.handled=none->Walks P w A it [it] [it] x.cps.size (SignAt x) (fun i h=>h.IsStrIter it ty x t i))
  (hd:∀(A:b7)(i:Nat)(s:af)(Q:Option Value->af->Prop)(E:Value->af->Prop),A.handled=none->s.heap.IsStrIter it ty x t i->x.cps.size<=i->(∀ h',(∀ b o,b≠it->s.heap.get? b=some o->h'.get? b=some o)->Q none { s with heap:=h' })->wpAny (model P w) A (tm (.ref it)) Q E s)
  (hself:∀(A:b7)(i:Nat)(s:af)(Q:Value->af->Prop)(E:Value->af->Prop),s.heap.IsStrIter it ty x t i->Q (.ref it) s->wpAny (model P w) A (tq (.ref it)) Q E s):Turn P w K tg (VU x) [it] it (fun i h=>h.IsStrIter it ty x t i) where
 mem:=by simp
 obj:=fun i h st b hb=>by
  have e:b=it:=by simpa using hb
  subst e
  obtain⟨o,e,c,d⟩:=st
  exact⟨o,e,fun v z=>by rw[d]at z;cases z⟩
 keep:=fun i h h' st k=>let⟨o,e,r⟩:=st;⟨o,k it (by simp) o e,r⟩
 item:=by
  intro X hP hw hK hc i pins s σ H E I hf st hg
  subst hP hw hK
  obtain⟨f0,f1,f2,f3,f4,f5⟩:=hf it (by simp)
  refine(W X.A (I.ok.hd hc)).item i s _ _ hg st fun v h' tk hv aA kk=>?_
  obtain⟨c,u,hc',rfl⟩:=hv
  have I1:Inv X pins σ H { s with heap:=h',toks:=tk }:=I.turned (fun b o hb e=>kk b o (by simpa using hb) e) f0 f1 f3 f4 f5
  obtain⟨o,e,c1,d⟩:=id aA
  exact⟨_,rfl,B1 (s:={ s with heap:=h',toks:=tk }) e c1 d hty ⟨.str ⟨#[c]⟩,H,I1,⟨u,rfl⟩,⟨rfl,c,hc',rfl⟩,aA,fun b hb=>(hf b hb).1⟩⟩
 done:=by
  intro X hP hw hK hc i pins s σ H E I hf st hg
  subst hP hw hK
  obtain⟨f0,f1,f2,f3,f4,f5⟩:=hf it (by simp)
  exact hd X.A i s _ _ (I.ok.hd hc) st hg fun h' eb=>⟨rfl,I.turned (t':=s.toks) (fun b o hb e=>eb b o hb e) f0 f1 f3 f4 f5⟩
 self:=fun A i s Q E st h=>hself A i s Q E st h
structure zX (K:aa)(J:It)(as:List Nat)(xs:List D)(H1:Hp)(aC:aB):Prop where
 go:∀ i H st d,Step H1 aC H st->aR K st H->same as aC st->xs[i]? = some d->J.go i H
 yld:∀ i H st d x H',Step H1 aC H st->aR K st H->same as aC st->xs[i]? = some d->J.yld i H x H'->Step H st H' st/\aR K st H'/\Rep K H' d x
 stop:∀ i H st,Step H1 aC H st->aR K st H->same as aC st->xs.length<=i->J.stop i H
inductive QJ (K:aa)(H:Hp)(st:aB)(M:List Nat->List D->aB->Prop)(J:It)(H1:Hp):Prop where
 |mk (as:List Nat)(xs:List D)(aC:aB)(s:Step H st H1 aC)(ok:aR K aC H1)(j:zX K J as xs H1 aC)(q:M as xs aC):QJ K H st M J H1
inductive BD (K:aa)(te:St->aB->(List Nat->List D->aB->Prop)->Prop)(σ:L2.St)(H:Hp)(R:It->Hp->Prop):Prop where
 |mk (σd:St)(st:aB)(M:List Nat->List D->aB->Prop)(r:dE K H σd σ)(ok:aR K st H)(q:te σd st M)(hq:∀ J H1,QJ K H st M J H1->R J H1):BD K te σ H R
section
variable {K:aa}{H1:Hp}{aC:aB}{a:Addr}{xs:List D}{vs:List V}
theorem XH (aO:aR K aC H1)(f:eI K H1 a vs)(g:aL K H1 xs vs):zX K (Dx K a) [] xs H1 aC where
 go:=fun i H st d s ok _ e=>let⟨v,e1,_⟩:=g.get e;⟨vs,v,vE aO s f,e1⟩
 yld:=fun i H st d x H' s ok _ e ⟨e',h⟩=>by
  subst e'
  obtain⟨v,e1,e2⟩:=g.get e
  have:=h vs (vE aO s f)
  rw[e1]at this;cases this
  exact⟨.refl,ok,e2.step aO s⟩
 stop:=fun i H st s ok _ l=>⟨vs,vE aO s f,by rw[<-g.length];exact l⟩
theorem SI (aO:aR K aC H1)(f:mB K H1 a vs)(g:aL K H1 xs vs):zX K (VG K a) [] xs H1 aC where
 go:=fun i H st d s ok _ e=>let⟨v,e1,_⟩:=g.get e;⟨vs,v,(sN aO s f).sq,e1⟩
 yld:=fun i H st d x H' s ok _ e ⟨e',h⟩=>by
  subst e'
  obtain⟨v,e1,e2⟩:=g.get e
  have:=h vs (sN aO s f).sq
  rw[e1]at this;cases this
  exact⟨.refl,ok,e2.step aO s⟩
 stop:=fun i H st s ok _ l=>⟨vs,(sN aO s f).sq,by rw[<-g.length];exact l⟩
theorem W9 (aO:aR K aC H1)(e0:aC a=some (.lst xs)):zX K (VG K a) [a] xs H1 aC where
 go:=fun i H st d s ok sm e=>by
  have e':st a=some (.lst xs):=(sm a (by simp)).trans e0
  obtain⟨us,g1,g2⟩:=ok.lst e'
  obtain⟨v,e1,_⟩:=g2.get e
  exact⟨us,v,eH.of g1,e1⟩
 yld:=fun i H st d x H' s ok sm e ⟨e',h⟩=>by
  subst e'
  have e':st a=some (.lst xs):=(sm a (by simp)).trans e0
  obtain⟨us,g1,g2⟩:=ok.lst e'
  obtain⟨v,e1,e2⟩:=g2.get e
  have:=h us (eH.of g1)
  rw[e1]at this;cases this
  exact⟨.refl,ok,e2⟩
 stop:=fun i H st s ok sm l=>by
  have e':st a=some (.lst xs):=(sm a (by simp)).trans e0
  obtain⟨us,g1,g2⟩:=ok.lst e'
  exact⟨us,eH.of g1,by rw[<-g2.length];exact l⟩
theorem PK (lo:Int)(n:Nat):zX K (VI lo n) [] (dX lo n) H1 aC where
 go:=fun i H st d s ok _ e=>by
  have:=(List.getElem?_eq_some_iff.mp e).1
  show i<n
  simpa [dX]using this
 yld:=fun i H st d x H' s ok _ e ⟨e',h⟩=>by
  subst e' h
  simp only[dX,bb,c9]at e
  obtain⟨k,e1,rfl⟩:=e
  have:k=i:=by
   rw[lq]at e1
   obtain⟨_,e2⟩:=e1
   simp at e2
   exact e2.symm
  subst this
  exact⟨.refl,ok,.int _⟩
 stop:=fun i H st s ok _ l=>by show n<=i;simpa [dX]using l
theorem MD (x:List Nat):zX K (VU ⟨x.toArray⟩) [] (x.map fun c=>.str [c]) H1 aC where
 go:=fun i H st d s ok _ e=>by
  have:=(List.getElem?_eq_some_iff.mp e).1
  show i<(⟨x.toArray⟩:Str).cps.size
  simpa using this
 yld:=fun i H st d v H' s ok _ e ⟨e',c,ec,ev⟩=>by
  subst e' ev
  simp only[bb,c9]at e
  obtain⟨c',e1,rfl⟩:=e
  have:c=c':=by
   have ec:x.toArray[i]? = some c:=ec
   simp at ec
   rw[ec]at e1;exact cz e1
  subst this
  exact⟨.refl,ok,.str [c]⟩
 stop:=fun i H st s ok _ l=>by
  show(⟨x.toArray⟩:Str).cps.size<=i
  simpa using l
end
section
variable {X:Cx}{C:bE}{sub:Nat->Nat->Bool}{a b c e tg:Expr}{x y z:Ex}{pos:Pos}
theorem _root_.L2.PI.imp {X:Cx}{tg e:Expr}{t t':TI}(i:∀ σ H Q,t' σ H Q->t σ H Q)(h:PI X tg e t):PI X tg e t':=fun pins s σ H Q I q=>h pins s σ H Q I (i σ H Q q)
theorem Eb {E:XK}(h:PE X e (bW X.K (aI C sub E x))):PI X tg e (BD X.K fun σ st M=>bL C sub E [x] σ st fun ds aC=>gG none ds aC fun as xs=>M as xs aC):=by
 intro pins s σ H R I ⟨σd,st,M,r,ok,q,hq⟩
 refine bB (h pins s σ H _ I ⟨σd,st,_,r,ok,q,fun v H' z=>z⟩) fun u s1 ⟨v,H1,I1,rv,d,aC,dA,aO,r1,q1⟩=>?_
 have fresh:∀{b:Addr},b∈[s1.heap.objs.size]->mQ X pins H1 b:=fun{b} hb=>by
  have e:b=s1.heap.objs.size:=by simpa using hb
  subst e
  exact I1.ED (az _) (I1.bS.fresh (az _))
 have tup:∀(a:Addr)(vs:List V)(as:List Nat)(xs:List D),v=.ref a->eI X.K H1 a vs->zX X.K (Dx X.K a) as xs H1 aC->M as xs aC->wpAny (model X.prog X.w) X.A (tq u) (RF X pins σ tg R) X.xe s1:=by
  intro a vs as xs e f j q
  subst e
  cases rv
  obtain⟨aD,rr,p,hz⟩:=I1.tuple f
  exact qr (show s1.heap.IsTuple a aD.toArray from p) ⟨s1.heap.objs.size,[s1.heap.objs.size],_,_,H1,rfl,I1.kept (t':=s1.toks) fun b o e=>ag _ e,NL a _,⟨_,bh _ rfl,rfl,rfl⟩,fun b hb=>fresh hb,hq _ _ ⟨as,xs,aC,dA,aO,j,q⟩⟩
 have lst:∀(a:Addr)(vs:List V)(as:List Nat)(xs:List D),v=.ref a->eH X.K H1 a vs->zX X.K (VG X.K a) as xs H1 aC->M as xs aC->wpAny (model X.prog X.w) X.A (tq u) (RF X pins σ tg R) X.xe s1:=by
  intro a vs as xs e f j q
  subst e
  cases rv
  obtain⟨aD,rr,p,hz⟩:=I1.list f
  exact yl p.isList ⟨s1.heap.objs.size,[s1.heap.objs.size],_,_,H1,rfl,I1.kept (t':=s1.toks) fun b o e=>ag _ e,QA a _,⟨_,bh _ rfl,rfl,rfl⟩,fun b hb=>fresh hb,hq _ _ ⟨as,xs,aC,dA,aO,j,q⟩⟩
 have q1:oP d aC fun as xs=>M as xs aC:=q1
 cases d with
 |tup ds =>
  obtain⟨a,vs,e,f,g⟩:=r1.bT
  exact tup a vs _ _ e f (XH aO f g) q1
 |str z =>
  have q1:z.length<=bK/\M [] (z.map fun c=>.str [c]) aC:=q1
  cases r1.str_inv
  obtain⟨t,rfl⟩:=rv
  cases ha:(⟨z.toArray⟩:Str).cps.all (·< 128)
  ·exact wpAny_pyIter_wide ha ⟨s1.heap.objs.size,[s1.heap.objs.size],_,VU ⟨z.toArray⟩,H1,rfl,I1.kept (t':=s1.toks) fun b o e=>ag _ e,
   JY s1.heap.objs.size ⟨z.toArray⟩ t "str_iterator" (by decide) (fun A hA=>Walks.strWide hA _ _ t) (fun A i s Q E hA hi hn hQ=>wpAny_pyNext_wide_end hA hi (by simpa using hn) fun h' he=>hQ h' he) (fun A i s Q E hi hQ=>wpAny_pyIter_striter_wide hi hQ),
   ⟨_,bh _ rfl,rfl,rfl⟩,fun b hb=>fresh hb,hq _ _ ⟨_,_,aC,dA,aO,MD z,q1.2⟩⟩
  ·exact wpAny_pyIter_ascii ha ⟨s1.heap.objs.size,[s1.heap.objs.size],_,VU ⟨z.toArray⟩,H1,rfl,I1.kept (t':=s1.toks) fun b o e=>ag _ e,
   JY s1.heap.objs.size ⟨z.toArray⟩ t "str_ascii_iterator" (by decide) (fun A hA=>Walks.strAscii hA _ _ t) (fun A i s Q E hA hi hn hQ=>wpAny_pyNext_ascii_end hA hi (by simpa using hn) fun h' he=>hQ h' he) (fun A i s Q E hi hQ=>wpAny_pyIter_striter_ascii hi hQ),
   ⟨_,bh _ rfl,rfl,rfl⟩,fun b hb=>fresh hb,hq _ _ ⟨_,_,aC,dA,aO,MD z,q1.2⟩⟩
 |ref a =>
  cases r1.cI
  obtain⟨ds,e,q1⟩:=dU (st:=aC) q1
  obtain⟨vs,g1,g2⟩:=aO.lst e
  exact lst _ vs _ _ rfl (eH.of g1) (W9 aO e) q1
 |bI ds =>
  obtain⟨a,vs,e,f,g⟩:=r1.kR
  exact lst a vs _ _ e f.sq (SI aO f g) q1
 |_=>exact(show False from q1).elim
theorem Y3 {E:XK}{p:Pos}(hC:bQ C C)(hg:Gl X "range")(hm:X.mg "range" = none)(ha:PA X [a] (kD X.K (bL C sub E [x])))(hs:ah [a] X.env=[(false,eval a X.env)]):
 PI X tg (.Call (.Name "range" p) [a] [] pos) (BD X.K fun σ st M=>bL C sub E [x] σ st fun ds aC=>gG (some .range) ds aC fun as xs=>M as xs aC) :=
 (O1 hg hm ha hs).imp fun σ H R ⟨σd,st,M,r,ok,q,hq⟩=>by
 refine⟨σd,st,_,r,ok,nX [x] hC q,fun vs H1 ⟨ds,aC,s1,aO,r1,l1,q1⟩=>?_⟩
 match ds,l1,q1 with
 |[d],_,q1 =>
  obtain⟨v,rfl,rd⟩:=r1.one
  have q1:gG (some .range) [d] aC fun as xs=>M as xs aC:=q1
  cases d with
  |int j =>
  cases rd.int_inv
  exact⟨j,rfl,q1.1.1,q1.1.2,hq _ _ ⟨_,_,aC,s1,aO,PK 0 _,q1.2⟩⟩
  |_=>exact(show False from q1).elim
theorem NJ {k:Option IK}{aD:List Ex}{iter:Expr}{t:Tg}{bs:List Stmt}{bx:List Sx}(hC:bQ C C)(hp:n4 (model X.prog X.w) X.A X.env X.xe)(hc:X.calm=true)
 (hi:PI X tg iter (BD X.K fun σ st M=>bL C sub EF aD σ st fun ds aC=>gG k ds aC fun as xs=>M as xs aC))(hg:PG X tg (J4 X.K (mW C sub EF t)))(hb:kL X bs (iD X.K (cR C sub bx)))
 (hs:∀ x,fv iter X.env x=pure x):PS X (.For tg iter bs [] pos) (iD X.K (wpS C sub (.hJ t k aD bx))) :=
 (Fk hp hc hi hg hb hs).imp fun DD σ H ⟨σd,st,P,r,ok,q,h⟩=>by
 refine⟨σd,st,_,r,ok,Hr hC h.ex q,fun J H1 ⟨as,xs,aC,s1,aO,j,q1⟩=>?_⟩
 refine⟨fun i m σ' H'=>∃ dR aA,dE X.K H' dR σ'/\Step H1 aC H' aA/\aR X.K aA H'/\m+i=xs.length/\xB (same as aC) (fun(x:L3.D) next σ st=>mW C sub (fun c aA=>P.ex c σ aA) t x σ st fun σ' aA=>cR C sub bx { P with nx:=next,ct:=next,bk:=P.nx } σ' aA) P.nx (xs.drop i) dR aA,⟨xs.length,σd,aC,r.step ok s1,.refl,aO,by omega,by simpa using q1⟩,fun i m σ2 H2 ⟨sS,aF,r2,s2,bY,e2,q2⟩=>?_⟩
 by_cases hi':i<xs.length
 ·have ed:xs.drop i=xs[i]::xs.drop (i+1):=bz hi'
  rw[ed]at q2
  obtain⟨g2,q2⟩:=q2
  refine .inr ⟨j.go i H2 aF xs[i] s2 bY g2 (aj hi'),fun σ' H'=>∃ dR aA,dE X.K H' dR σ'/\Step H1 aC H' aA/\aR X.K aA H'/\xB (same as aC) (fun(x:L3.D) next σ st=>mW C sub (fun c aA=>P.ex c σ aA) t x σ st fun σ' aA=>cR C sub bx { P with nx:=next,ct:=next,bk:=P.nx } σ' aA) P.nx (xs.drop (i+1)) dR aA,
  fun σ' H' ⟨dR,aA,r',s',fK,q'⟩=>⟨m-1,by omega,dR,aA,r',s',fK,by omega,q'⟩,fun v H3 y3=>?_⟩
  obtain⟨s3,pL,r3⟩:=j.yld i H2 aF xs[i] v H3 s2 bY g2 (aj hi') y3
  refine⟨xs[i],sS,aF,_,r3,r2.step bY s3,pL,vK hC (fun c st z=>h.ex _ _ _ z) (fun _ _ z=>z) t q2,fun σ4 H4 σd4 cN r4 s4 MV q4=>?_⟩
  refine⟨σd4,cN,_,r4,MV,q4,⟨fun σ' H' dR aA r' s' fK q'=>⟨dR,aA,r',((s2.trans s3).trans s4).trans s',fK,q'⟩,fun v H' z=>h.rt _ _ (.after (((s1.trans s2).trans s3).trans s4) z),
  fun σ' H' dR aA r' s' fK q'=>h.nx _ _ _ _ r' ((((s1.trans s2).trans s3).trans s4).trans s') fK q',fun σ' H' dR aA r' s' fK q'=>⟨dR,aA,r',((s2.trans s3).trans s4).trans s',fK,q'⟩,h.ex⟩⟩
 ·have ed:xs.drop i=[]:=fj (by omega)
  rw[ed]at q2
  exact .inl ⟨j.stop i H2 aF s2 bY q2.1 (by omega),h.nx _ _ _ _ r2 (s1.trans s2) bY q2.2⟩
end
end L3
end
section
namespace L3
open PySem PySem.Spec PyProof.Rows L2
section
variable {X:Cx}{C:bE}{sub:Nat->Nat->Bool}{a b c e o i tg:Expr}{x y z:Ex}{pos:Pos}
noncomputable def lB (is:List Nat)(vs:List V)(σ:L2.St):L2.St:=(is.zip vs).foldl (fun σ p=>σ.set p.1 (some p.2)) σ
noncomputable def uM (is:List Nat):EX:=fun vs σ H Q=>vs.length=is.length/\Q (lB is vs σ) H
theorem Bt:C2 X [] (uM []):=fun pins s σ H vs us Q I r h=>by
 have:vs=[]:=List.length_eq_zero_iff.mp h.1
 subst this
 exact ZA pins s σ H [] us Q I r ⟨rfl,h.2⟩
theorem WY {es:List Expr}{i:Nat}{is:List Nat}(h1:PG X e (B6 i))(h2:C2 X es (uM is))(hs:(eh (e::es) X.env).map (·.2)=lx e X.env::(eh es X.env).map (·.2)):C2 X (e::es) (uM (i::is)):=fun pins s σ H vs us Q I r h=>by
 obtain⟨hl,h⟩:=h
 cases vs with
 |nil=>simp at hl
 |cons v vs=>exact UD h1 h2 hs pins s σ H (v::vs) us Q I r ⟨v,vs,rfl,by simpa using hl,h⟩
theorem dE.TV {K:aa}{H:Hp}:∀(is:List Nat){ds:List D}{vs:List V}{σd:St}{σ:L2.St},dE K H σd σ->aL K H ds vs->dE K H ((is.zip ds).foldl (fun σ p=>σ.set p.1 (some p.2)) σd) (lB is vs σ)
 |[],_,_,_,_,r,_=>by simpa [lB]using r
 |_::_,_,_,_,_,r,.nil=>by simpa [lB]using r
 |i::is,_,_,_,_,r,.cons h t=>by
  have:=dE.TV is (r.set i h) t
  simpa [lB]using this
theorem Mc {E:XK}{es:List Expr}{k:Nat}{is:List Nat}(hc:X.calm=true)(h:C2 X es (uM is))(hn:(eh es X.env).length=is.length)(dN:(eh es X.env).findIdx? (·.1)=none):
 PG X (.Tuple es k pos) (J4 X.K (mW C sub E (.tp is))) :=
 (PH hc h hn dN).imp fun v σ H Q ⟨d,σd,st,M,rd,r,ok,q,hq⟩=>by
 cases d with
 |tup ds0 =>
  have q:ds0.length=is.length/\M _ st:=q
  obtain⟨a,vs,rfl,f,g⟩:=rd.bT
  exact⟨a,vs,rfl,f,by rw[<-g.length];exact q.1,by rw[<-g.length];exact q.1,hq _ _ _ _ (r.TV is g) .refl ok q.2⟩
 |_=>exact(show False by cases is<;>exact q).elim
theorem Mn {E:XK}(ho:PE X o (bW X.K (aI C sub E x)))(hi:PE X i (bW X.K (aI C sub E y)))
 (ha:∀ v,lx (.Subscript o i pos) X.env v=(do
  let ov <-j4 [v] (eval o X.env)
  let iv <-j4 [v,ov] (eval i X.env)
  p9 pos
  j4 [v,ov,iv] (Qs ov iv v)
  Rw [v,ov,iv] [])):PG X (.Subscript o i pos) (J4 X.K (mW C sub E (.ix x y))) :=
 (Bg ho hi set_list ha).imp fun v σ H Q ⟨d,σd,st,M,rd,r,ok,q,hq⟩=>by
 refine⟨σd,st,_,r,ok,q,fun v1 H1 ⟨d1,aC,s1,aO,r1,q1⟩=>?_⟩
 refine⟨σd,aC,_,r.step ok s1,aO,q1,fun v2 H2 ⟨d2,aF,s2,bY,r2,q2⟩=>?_⟩
 have r1':=r1.step aO s2
 have rd':=(rd.step ok s1).step aO s2
 have q2:A5 d1 d2 d aF fun aU=>M σd aU:=q2
 cases d1<;>first|exact(show False from q2).elim|skip
 cases d2<;>first|exact(show False from q2).elim|skip
 cases r1'.cI
 cases r2.int_inv
 rw[MB]at q2
 obtain⟨xs,e,q2⟩:=dU q2
 obtain⟨j,ej,q2⟩:=eM q2
 obtain⟨vs,g1,g2⟩:=bY.lst e
 refine⟨_,vs,_,j,rfl,rfl,g1,by rw[<-g2.length];exact ej,?_⟩
 have s3:=lV (H:=H2) (st:=aF) (o:=.lst (vs.set j v)) (m':=.lst (xs.set j d)) e
 exact hq _ _ _ _ (((r.step ok s1).step aO s2).step bY s3) ((s1.trans s2).trans s3) (bY.set e (g2.set rd' j)) q2
end
end L3
end
section
namespace L3
open PySem PySem.Spec PyProof.Rows L2
noncomputable def kT (cells:List (Str×Addr)):List (Str×NameKind)->List (Str×Addr)->List (Str×Addr)
 |[],cs=>cs
 |(n,k)::r,cs=>kT cells r (if k == .free then(n,(cells.lookup n).getD 0)::cs else cs)
theorem CQ {env:Env}:∀(names:List (Str×NameKind))(cs:List (Str×Addr)),(∀ p∈names,p.2=.free->∃ c,env.cells.lookup p.1=some c) ->
  (forIn names cs fun(p:Str×NameKind)(cs:List (Str×Addr))=>(if p.2 == .free then do let c <-cellOf env p.1;pure (kl ((p.1,c)::cs))else pure (kl cs):Sem (ForInStep (List (Str×Addr)))))=pure (kT env.cells names cs)
 |[],cs,_=>by simp [kT]
 |(n,k)::r,cs,h=>by
  have ih:=fun cs=>CQ r cs fun p hp=>h p (cb _ hp)
  simp only[ux,kT]
  cases e:(k==md)with
  |true =>
   obtain⟨c,hc⟩:=h (n,k) (cy ..) (by simpa using e)
   have hc:env.cells.lookup n=some c:=hc
   simp only[if_true,cellOf,hc,jj,pure_bind]
   exact ih _
  |false =>
   simp only[ak,if_false,pure_bind]
   exact ih _
theorem pM {env:Env}{scope:Scope}(h:∀ p∈scope.names,p.2=.free->∃ c,env.cells.lookup p.1=some c):xq scope env=pure (kT env.cells scope.names []):=by
 rw[<-CQ scope.names [] h]
 unfold xq
 simp only[bind_pure]
theorem kP {cells:List (Str×Addr)}:∀(names:List (Str×NameKind))(cs:List (Str×Addr)){x:Str}{c:Addr},(∀ p∈names,p.2=.free->∃ c,cells.lookup p.1=some c)->(∀ x c,cs.lookup x=some c->cells.lookup x=some c)->(kT cells names cs).lookup x=some c->cells.lookup x=some c
 |[],cs,x,c,_,h,e=>h x c e
 |(n,k)::r,cs,x,c,hn,h,e=>by
  simp only[kT]at e
  refine kP r _ (fun p hp=>hn p (cb _ hp)) (fun y d ed=>?_) e
  split at ed
  ·rename_i hk
   obtain⟨c',hc'⟩:=hn (n,k) (cy ..) (by simpa using hk)
   have hc':cells.lookup n=some c':=hc'
   rw[cu]at ed
   split at ed
   ·rename_i q
    have q:y=n:=by simpa using q
    subst q
    rw[hc']at ed ⊢
    simpa using ed
   ·exact h y d ed
  ·exact h y d ed
theorem EI {cells:List (Str×Addr)}:∀(names:List (Str×NameKind))(cs:List (Str×Addr)){x:Str},(∃ c,cs.lookup x=some c)->∃ c,(kT cells names cs).lookup x=some c
 |[],cs,x,h=>h
 |(n,k)::r,cs,x,h=>by
  simp only[kT]
  refine EI r _ ?_
  split
  ·rw[cu]
   split
   ·exact⟨_,rfl⟩
   ·exact h
  ·exact h
theorem vV {cells:List (Str×Addr)}:∀(names:List (Str×NameKind))(cs:List (Str×Addr)){x:Str},names.lookup x=some .free->∃ c,(kT cells names cs).lookup x=some c
 |[],cs,x,h=>by simp at h
 |(n,k)::r,cs,x,h=>by
  simp only[kT]
  rw[cu]at h
  split at h
  ·rename_i q
   cases h
   refine EI r _ ?_
   simp only[beq_self_eq_true,if_true]
   rw[cu,q]
   exact⟨_,rfl⟩
  ·exact vV r _ h
theorem qX {env:Env}:∀{names:List (Str×NameKind)}{x:Str}{k:sh},(names.map fun(n,k)=>if(k==md&&env.scope.kind == .function&&env.kindOf n==some .cell)then(n,w5)else(n,k)).lookup x=some k->∃ k',names.lookup x=some k'/\(k'=k∨(k'=.free/\k=.cell))
 |[],x,k,h=>by simp at h
 |(n,k0)::r,x,k,h=>by
  simp only[aw]at h
  cases q:(x==n)with
  |true =>
   refine⟨k0,by simp only[cu,q],?_⟩
   by_cases hc:(k0==md&&env.scope.kind == .function&&env.kindOf n==some .cell)=true
   ·simp only[hc,if_true,cu,q]at h
    cases h
    simp only[aq]at hc
    exact .inr ⟨by simpa using hc.1.1,rfl⟩
   ·simp only[hc,if_false,cu,q,ak]at h
    cases h
    exact .inl rfl
  |false =>
   simp only[cu,q]
   refine qX (env:=env) (names:=r) ?_
   by_cases hc:(k0==md&&env.scope.kind == .function&&env.kindOf n==some .cell)=true
   ·simp only[hc,if_true,cu,q]at h
    exact h
   ·simp only[hc,if_false,cu,q,ak]at h
    exact h
theorem rO {env:Env}:∀{names:List (Str×NameKind)}{x:Str},names.lookup x=some .free->(names.map fun(n,k)=>if(k==md&&env.scope.kind == .function&&env.kindOf n==some .cell)then(n,w5)else(n,k)).lookup x=some .cell∨(names.map fun(n,k)=>if(k==md&&env.scope.kind == .function&&env.kindOf n==some .cell)then(n,w5)else(n,k)).lookup x=some .free
 |[],x,h=>by simp at h
 |(n,k0)::r,x,h=>by
  simp only[aw]
  rw[cu]at h
  split at h
  ·rename_i q;cases h
   split
   ·exact .inl (by rw[cu,q])
   ·exact .inr (by rw[cu,q])
  ·rename_i q
   split
   ·rw[cu,q];exact rO h
   ·rw[cu,q];exact rO h
structure lQ (X:Cx)(scope:Scope)(cn:List Str)(aK:List Nat):Prop where
 kind:scope.kind=.function
 nocell:∀ y∈scope.names,y.2≠.cell
 names:∀ y∈scope.names,y.2=.local->scope.names.lookup y.1=some .local
 free:∀ y∈scope.names,y.2=.free->X.env.kindOf y.1=some .cell∨X.env.kindOf y.1=some .free
 len:cn.length=aK.length
 cap:∀(j:Nat)(y:Str),cn[j]? = some y->scope.names.lookup y=some .free/\∃ i,aK[j]? = some i/\X.N[i]? = some y/\(X.env.kindOf y=some .cell∨X.env.kindOf y=some .free)
noncomputable def mI (X:Cx)(scope:Scope)(own cn:List Str)(fp:List Addr)(s:af)(H:Hp)(Ca:Addr):Cx :=
 { X with N:=own++cn,s₀:=s,H₀:=H,env:=compEnvC scope (kT X.env.cells scope.names []) Ca X.env,outer:=X.stack,ex:=fp,fn:=fun _=>false,calm:=true,pn:=[],xe:=fun _ _=>False }
noncomputable def pT (aK:List Nat)(σ:L2.St):L2.St:=aK.map fun i=>(σ[i]?).getD none
section
variable {X:Cx}{scope:Scope}{own cn:List Str}{aK:List Nat}{fp:List Addr}{pins:List (Addr×Obj)}{σ:L2.St}{H:Hp}{s:af}
theorem lQ.cells (S:lQ X scope cn aK)(ok:X.Ok):∀ p∈scope.names,p.2=.free->∃ c,X.env.cells.lookup p.1=some c:=fun p hp e=>ok.has p.1 (S.free p hp e)
theorem U0 (S:lQ X scope cn aK)(hc:X.calm=true)(I:Inv X pins σ H s)(hf:∀ b∈fp,mQ X pins H b)(cY:∀ b∈fp,b<s.heap.objs.size){Ca:Addr}(hC:s.heap.objs.size<=Ca):(mI X scope own cn fp s H Ca).Ok where
 mod:=I.ok.mod
 kind:=S.kind
 glob:=I.ok.glob
 blt:=I.ok.blt
 above:=hC
 inj:=fun x y c h1 h2=>I.ok.inj x y c (kP _ [] (S.cells I.ok) (fun _ _ h=>by simp at h) h1) (kP _ [] (S.cells I.ok) (fun _ _ h=>by simp at h) h2)
 has:=fun x h=>by
  refine vV _ [] ?_
  rcases h with h|h
  ·obtain⟨k,e,r⟩:=qX (env:=X.env) (show gr x (ow _ scope.names)=_ from h)
   rcases r with rfl|⟨rfl,_⟩
   ·exact absurd rfl (S.nocell _ (gq e))
   ·exact e
  ·obtain⟨k,e,r⟩:=qX (env:=X.env) (show gr x (ow _ scope.names)=_ from h)
   rcases r with rfl|⟨rfl,r⟩
   ·exact e
   ·cases r
 cab:=fun x c h _=>by cases h
 hd:=fun _=>I.ok.hd hc
 frames:=I.ok.frames
 stk:=.inl rfl
 exf:=fun b hb=>⟨fun e=>absurd (cY b hb) (by rw[e];exact Nat.not_lt.mpr hC),fun x c h=>(hf b hb).2.2.2.2.1 x c (kP _ [] (S.cells I.ok) (fun _ _ h=>by simp at h) h)⟩
 bs:=I.bs
 bsz:=c7 I.ok.bsz I.sz
 noex:=fun b o e hb=>by
  rcases(hf b hb).2.2.2.1 with z|z
  ·exact I.ok.noex b o e z
  ·exact absurd (bp (bg e) (c7 I.ok.bsz z)) (ey _)
 exfs:=fun b hb z=>by
  rcases List.mem_cons.mp (I.C8 b z)with e|e
  ·exact(hf b hb).2.1 e
  ·exact(hf b hb).2.2.1 e
 lF:=I.stack
 frf:=I.MP
theorem LC (S:lQ X scope cn aK)(hc:X.calm=true)(I:Inv X pins σ H s)(hf:∀ b∈fp,mQ X pins H b)(cY:∀ b∈fp,b<s.heap.objs.size){Ca:Addr}(hC:s.heap.objs.size<=Ca){h1:Heap}{tk:Nat}
  {m:Str->Option Value}(hn:h1.Ns Ca m)(hk:∀ b o,s.heap.get? b=some o->h1.get? b=some o):
  Inv (mI X scope own cn fp s H Ca) [] (a9 own.length none++pT aK σ) H { s with heap:=h1,toks:=tk } where
 ok:=U0 S hc I hf cY hC
 os:=rfl
 bare:=I.bare
 base:=Un.kept hk
 loc:=⟨m,hn,fun i y v h1' h2 h3=>by
  have hi:own.length<=i:=by
   refine yr fun hi=>?_
   rw[bu (by simpa using hi),g7]at h2
   split at h2<;>cases h2
  rw[cq (by simpa using hi)]at h2
  have h1':(own++cn)[i]? = some y:=h1'
  rw[cq hi]at h1'
  simp only[ny,pT,bb,c9]at h2
  obtain⟨k,e1,e2⟩:=h2
  obtain⟨hfr,i',e3,e4,e5⟩:=S.cap _ y h1'
  rw[e1]at e3;cases e3
  cases e6:σ[k]? with
  |none=>rw[e6]at e2;cases e2
  |some u =>
   rw[e6]at e2
   have e2:u=some v:=e2
   subst e2
   obtain⟨m0,hn0,hl0⟩:=I.loc
   obtain⟨w,rw',lk⟩:=hl0 k y v e4 e6 (e5.elim (fun z=>.inr (.inl z)) fun z=>.inr (.inr z))
   refine⟨w,rw',?_⟩
   rcases lk with⟨z,_⟩|⟨_,c,ec,⟨oc,hoc,hdc⟩⟩
   ·rcases e5 with e5|e5
    ·rw[e5]at z;cases z
    ·rw[e5]at z;cases z
   ·obtain⟨c',ec'⟩:=vV (cells:=X.env.cells) scope.names [] hfr
    have:=kP _ [] (S.cells I.ok) (fun _ _ h=>by simp at h) ec'
    rw[ec]at this;cases this
    exact .inr ⟨rO (env:=X.env) hfr,c,ec',⟨oc,hk _ _ hoc,hdc⟩⟩⟩
 cell:=fun x c h=>by
  obtain⟨v,o,ho,hd⟩:=I.cell x c (kP _ [] (S.cells I.ok) (fun _ _ h=>by simp at h) h)
  exact⟨v,o,hk _ _ ho,hd⟩
 free:=I.bS.fresh hC
 kG:=fun x c h=>I.kG x c (kP _ [] (S.cells I.ok) (fun _ _ h=>by simp at h) h)
 pin:=fun p hp=>absurd (show p∈([]:List (Addr×Obj))from hp) (by simp)
 bS:=I.bS.kept hk
 len:=by
  show(a9 own.length none++pT aK σ).length=(own++cn).length
  simp [pT,S.len]
end
end L3
end
section
namespace L3
open PySem PySem.Spec PyProof.Rows L2
noncomputable def zK (ifs:List Expr)(env:Env):Sem Bool:=forIn ifs true fun c r=>if r=true then do let ok <-yo c env (eval c env);pure (kl ok)else pure (kl r)
noncomputable def E7 (X:Cx)(ifs:List Expr)(t:L2.TT):Prop :=
 ∀(pins:List (Addr×Obj))(s:af)(σ:L2.St)(H:Hp)(Q:Bool->Hp->Prop),Inv X pins σ H s->t σ H Q->wpAny (model X.prog X.w) X.A (zK ifs X.env) (TP X pins σ Q) X.xe s
inductive vB (K:aa)(te:St->aB->(Bool->aB->Prop)->Prop)(σ:L2.St)(H:Hp)(Q:Bool->Hp->Prop):Prop where
 |mk (σd:St)(st:aB)(R:Bool->aB->Prop)(r:dE K H σd σ)(ok:aR K st H)(q:te σd st R)(hq:∀(b:Bool) H',QX K H st (R b) H'->Q b H'):vB K te σ H Q
section
variable {X:Cx}{C:bE}{sub:Nat->Nat->Bool}{E:XK}{a b c e o i tg:Expr}{x y z:Ex}{pos:Pos}
theorem AN (env:Env):∀(ifs:List Expr),(forIn ifs false fun c r=>if r=true then do let ok <-yo c env (eval c env);pure (kl ok)else pure (kl r):Sem Bool)=pure false
 |[]=>by simp
 |c::r=>by
  simp only[ux,ak,if_false,pure_bind]
  exact AN env r
theorem Fl:E7 X [] (vB X.K (iC C sub E [])):=fun pins s σ H Q I ⟨σd,st,R,r,ok,q,hq⟩=>by
 unfold zK
 simp only[List.forIn_nil]
 exact ao ⟨H,I,hq true H ⟨st,.refl,ok,q⟩⟩
theorem W5 {es:List Expr}{xs:List Ex}(h:PT X e (jQ X.K (aI C sub E x)))(hs:E7 X es (vB X.K (iC C sub E xs))):E7 X (e::es) (vB X.K (iC C sub E (x::xs))):=fun pins s σ H Q I ⟨σd,st,R,r,ok,q,hq⟩=>by
 unfold zK
 simp only[ux,if_true]
 refine ae (ae (bB (h pins s σ H _ I ⟨σd,st,fun k aA=>if k=true then iC C sub E xs σd aA R else R false aA,r,ok,q,fun b H' z=>z⟩) fun k s1 ⟨H1,I1,aC,dA,aO,q1⟩=>ao ?_))
 cases k with
 |true =>
 have q1:iC C sub E xs σd aC R:=q1
 refine hs pins s1 σ H1 _ I1 ⟨σd,aC,R,r.step ok dA,aO,q1,fun b H' ⟨aA,s',fK,q'⟩=>hq b H' ⟨aA,dA.trans s',fK,q'⟩⟩
 |false =>
 show wpAny _ _ (forIn es false _) _ _ _
 rw[AN]
 exact ao ⟨H1,I1,hq false H1 ⟨aC,dA,aO,q1⟩⟩
end
theorem ID {prog:br}{w:World}{A:b7}{s:af}{R:Qt->af->Prop}{elt target iter:Expr}{ifs:List Expr}{scope:Scope}{pos:Pos}{it acc:Value}{env:Env}(I:Nat->af->Prop)
 (turn:∀ n s,I n s->wpAny (model prog w) A (tm it) (fun r s₁=>match r with
  |none=>R (.ok .next) s₁
  |some v=>wpAny (model prog w) A (pe target it v) (fun _ s₁'=>wpAny (model prog w) A (lx target env v) (fun _ s₂ =>
   wpAny (model prog w) A (zK ifs env) (fun ok s₃ =>
   if ok=true then wpAny (model prog w) A (eval elt env) (fun x s₄ =>
    wpAny (model prog w) A (call (.builtin "list.append") [acc,x]) (fun _ s₅=>∃ m,m<n/\I m s₅) (fun _ _=>False) s₄) (fun _ _=>False) s₃
   else ∃ m,m<n/\I m s₃) (fun _ _=>False) s₂) (fun _ _=>False) s₁') (fun _ _=>False) s₁) (fun _ _=>False) s)
 (n:Nat)(h:I n s):
 kf (model prog w) A (.compLoop (.ListComp elt [⟨target,iter,ifs,0⟩] scope pos) 0 it acc env) R s:=by
 refine codeAny_loop rfl I (fun n s hI=>?_) n h
 show wpAny _ A ((compTurn (.ListComp elt [⟨target,iter,ifs,0⟩] scope pos) 0 it acc env).onRaise (fun x=>do noteFrame x env;theTreesLotGoes x)) _ _ s
 refine wpAny_noted ?_
 rw[compTurn_list]
 refine ae (wt (ae (jk (turn n s hI) (fun r s₁ h₁=>?_) fun _ _ h'=>h'.elim)))
 cases r with
 |none=>exact ao h₁
 |some v =>
 refine ae (jk h₁ (fun _ s₁' h₁'=>?_) fun _ _ h'=>h'.elim)
 refine ae (jk h₁' (fun _ s₂ h₂=>ae (jk h₂ (fun ok s₃ h₃=>?_) fun _ _ h'=>h'.elim)) fun _ _ h'=>h'.elim)
 cases ok with
 |false=>exact ao ⟨rfl,h₃⟩
 |true =>
  exact ae (ae (jk h₃ (fun x s₄ h₄=>ae (jk h₄ (fun _ s₅ h₅=>ao (ao ⟨rfl,h₅⟩)) fun _ _ h'=>h'.elim)) fun _ _ h'=>h'.elim))
noncomputable def MI (K:aa):Bool->Nat->TG
 |true,_=>B6 0
 |false,n=>Ew K n (uM (ai n))
theorem BK:∀(is:List Nat)(vs:List V)(σ:L2.St)(n i:Nat),(∀ j∈is,j<n)->n<=i->(lB is vs σ)[i]? = σ[i]?
 |[],_,_,_,_,_,_=>by simp [lB]
 |_::_,[],_,_,_,_,_=>by simp [lB]
 |j::is,v::vs,σ,n,i,h,hi=>by
  have:=BK is vs (σ.set j (some v)) n i (fun k hk=>h k (cb _ hk)) hi
  simp only[lB,kj,pf]at this ⊢
  rw[this]
  have:=h j (cy ..)
  rw[g5 (by omega)]
theorem GA:∀(is:List Nat)(vs:List V)(σ:L2.St),(lB is vs σ).length=σ.length
 |[],_,_=>by simp [lB]
 |_::_,[],_=>by simp [lB]
 |j::is,v::vs,σ=>by
  have:=GA is vs (σ.set j (some v))
  simp only[lB,kj,pf,zj]at this ⊢
  exact this
theorem NB {K:aa}{H:Hp}{one:Bool}{n:Nat}{d:D}{v:V}{σd:St}{σ:L2.St}{P:St->Prop}{Q:L2.St->Hp->Prop}(hn:one=true->n=1)(h:kF one (ai n) d σd P)(r:dE K H σd σ)(rd:Rep K H d v)
 (hQ:∀ σ2 sS,dE K H sS σ2->P sS->(∀ i,n<=i->σ2[i]? = σ[i]?)->σ2.length=σ.length->Q σ2 H):MI K one n v σ H Q:=by
 cases one with
 |true =>
 cases hn rfl
 have h:P (σd.set 0 (some d)):=h
 refine hQ _ _ (r.set 0 rd) h (fun i hi=>?_) (by simp)
 rw[g5 (by omega)]
 |false =>
 cases d with
 |tup ds =>
  rw[QH]at h
  obtain⟨a,vs,rfl,f,g⟩:=rd.bT
  have hl:vs.length=n:=by rw[<-g.length,h.1];simp
  refine⟨a,vs,rfl,f,hl,by simp [hl],hQ _ _ (r.TV _ g) h.2 (fun i hi=>BK _ _ _ n i (fun j hj=>by simpa using hj) hi) (GA _ _ _)⟩
 |_=>exact(show False by cases n<;>exact h).elim
section
variable {K:aa}{H:Hp}{st:aB}{Da:Addr}{ys zs:List V}
theorem XO (hD:H Da=some (.lst ys)){a:Addr}{vs:List V}(h:eI K H a vs):eI K (upd H Da (.lst zs)) a vs:=by
 rcases h with(h|⟨o,h⟩)|h
 ·exact .inl (.inl (by rw[bG (M2 h hD (by simp))];exact h))
 ·exact .inl (.inr ⟨o,by rw[bG (M2 h hD (by simp))];exact h⟩)
 ·exact .inr h
theorem U1 (hD:H Da=some (.lst ys)){a:Addr}{vs:List V}(h:mB K H a vs):mB K (upd H Da (.lst zs)) a vs:=by
 rcases h with⟨o,h⟩|h
 ·exact .inl ⟨o,by rw[bG (M2 h hD (by simp))];exact h⟩
 ·exact .inr h
mutual
theorem Rep.alt (hD:H Da=some (.lst ys)):∀{d:D}{v:V},Rep K H d v->Rep K (upd H Da (.lst zs)) d v
 |_,_,.non=>.non
 |_,_,.bl b=>.bl b
 |_,_,.int i=>.int i
 |_,_,.str x=>.str x
 |_,_,.tup h r=>.tup (XO hD h) (aL.alt hD r)
 |_,_,.ref a=>.ref a
 |_,_,.bI h r=>.bI (U1 hD h) (aL.alt hD r)
 |_,_,.cV h=>.cV h
theorem aL.alt (hD:H Da=some (.lst ys)):∀{ds:List D}{vs:List V},aL K H ds vs->aL K (upd H Da (.lst zs)) ds vs
 |_,_,.nil=>.nil
 |_,_,.cons h r=>.cons (Rep.alt hD h) (aL.alt hD r)
end
theorem aR.alt (ok:aR K st H)(hD:H Da=some (.lst ys))(hn:st Da=none):aR K st (upd H Da (.lst zs)):=fun a o e=>by
 have ne:a≠Da:=fun z=>by rw[z,hn]at e;cases e
 have:=ok a o e
 cases o with
 |lst ds =>
 obtain⟨vs,q,r⟩:=this
 exact⟨vs,by rw[bG ne];exact q,r.alt hD⟩
 |dic _ _=>exact this.elim
 |ins c fs =>
 obtain⟨C,dx,ws,q,q2,q3,r⟩:=this
 exact⟨C,dx,ws,q,by rw[bG ne];exact q2,q3,r.alt hD⟩
 |tab ks vs =>
 obtain⟨xs,ws,q,q0,q1,q2,q3,q4,q5,r⟩:=this
 exact⟨xs,ws,by rw[bG ne];exact q,q0,q1,q2,q3.alt hD,q4,q5,r.alt hD⟩
 |fn f cs =>
 obtain⟨vs,⟨T,clos,pm,ctv,c',oc,ne0,t,q,ec,co,inj,dom,cap⟩,r⟩:=this
 have ka:∀{b o u},H b=some (.frz o u)->upd H Da (.lst zs) b=some (.frz o u):=fun{b o u} z=>by
  rw[bG (fun w=>by rw[w,hD]at z;cases z)];exact z
 exact⟨vs,⟨T,clos,pm,ctv,c',oc,ne0,t,ka q,ka ec,co,inj,dom,cap.of fun b o z=>ka z⟩,r.alt hD⟩
 |cod κ =>
 obtain⟨q0,q|⟨c',oc,q,ec,co⟩⟩:=this
 ·exact⟨q0,.inl (by rw[bG ne];exact q)⟩
 ·exact⟨q0,.inr ⟨c',oc,by rw[bG ne];exact q,by rw[bG (fun w=>by rw[w,hD]at ec;cases ec)];exact ec,co⟩⟩
theorem aR.take (ok:aR K st H)(hD:H Da=some (.lst ys)){ds:List D}(r:aL K H ds ys):aR K (put st Da (.lst ds)) H:=fun a o e=>by
 by_cases ha:a=Da
 ·subst ha
  rw[aW]at e;cases e
  exact⟨ys,hD,r⟩
 ·rw[bD ha]at e
  exact ok a o e
end
theorem SR {K:aa}{H:Hp}{σd:St}{σ:L2.St}(r:dE K H σd σ)(n:Nat)(aK:List Nat):dE K H (a9 n none++aK.map fun i=>(σd[i]?).getD none) (a9 n none++pT aK σ):=by
 refine⟨by simp [pT],fun i d e=>?_⟩
 by_cases hi:i<n
 ·rw[bu (by simpa using hi),g7]at e
  split at e<;>cases e
 ·rw[cq (by simpa using hi)]at e ⊢
  simp only[ny,bb,c9]at e ⊢
  obtain⟨k,e1,e2⟩:=e
  cases q:σd[k]? with
  |none=>rw[q]at e2;cases e2
  |some u =>
   rw[q]at e2
   have e2:u=some d:=e2
   subst e2
   obtain⟨v,h1,h2⟩:=r.2 k d q
   refine⟨v,?_,h2⟩
   simp only[pT,bb,c9]
   exact⟨k,e1,by rw[h1];rfl⟩
end L3
end
section
namespace L3
open PySem PySem.Spec PyProof.Rows L2
theorem YW {P:br}{w:World}{H:Hp}{h h':Heap}{Ca:Addr}(ok:gS P w H h)(hn:H Ca=none)(hs:kc Ca h h'):gS P w H h':=fun b u e=>by
 refine(ok b u e).pO (fun c v hc q=>hs.extBut c v ?_ q) (fun _ q=>q) fun _ _ q=>q
 rcases hc with z|z
 ·rw[z];exact fun y=>by rw[y,hn]at e;cases e
 ·exact fun y=>by rw[y,hn]at z;cases z
section
variable {X:Cx}{C:bE}{sub:Nat->Nat->Bool}{elt iter tg:Expr}{ifs:List Expr}{xe:Ex}{mE aD:List Ex}{pos:Pos}{scope:Scope}{own cn:List Str}{aK:List Nat}{one:Bool}{k:Option IK}
theorem EZ (hC:bQ C C)(S:lQ X scope cn aK)(hc:X.calm=true)(oI:one=true->own.length=1)
  (hg:∀ fp s H Ca,PG (mI X scope own cn fp s H Ca) tg (MI X.K one own.length))
  (hts:∀ fp s H Ca,E7 (mI X scope own cn fp s H Ca) ifs (vB X.K (iC C sub EF mE)))
  (he:∀ fp s H Ca,PE (mI X scope own cn fp s H Ca) elt (bW X.K (aI C sub EF xe)))
  {use:Option (Value->Sem Unit)}{Qf:Value->af->Prop}
  {pins:List (Addr×Obj)}{s₂:af}{σ:L2.St}{σd:St}{H1:Hp}{aC:aB}{J:It}{fp:List Addr}{it:Addr}{tn:Nat->Heap->Prop}{as:List Nat}{xs:List D}{R:List D->aB->Prop}
  (I2:Inv X pins σ H1 s₂)(T:Turn X.prog X.w X.K tg J fp it tn)(t0:tn 0 s₂.heap)(f2:∀ b∈fp,mQ X pins H1 b)(r:dE X.K H1 σd σ)(aO:aR X.K aC H1)(j:zX X.K J as xs H1 aC)
  (q:jN (same as aC) (fun x aF K=>kF one (ai own.length) x (a9 own.length none++aK.map fun i=>(σd[i]?).getD none) fun σ' =>
    iC C sub EF mE σ' aF fun b aU=>if b=true then aI C sub EF xe σ' aU fun d cN=>K (some d) cN else K none aU) xs [] aC R)
  (fin:∀(Da Ca:Addr)(H':Hp)(aA:aB)(ds:List D)(m:Str->Option Value)(s':af),s'.heap.Ns Ca m->(∀ h',kc Ca s'.heap h'->Inv X pins σ H' { s' with heap:=h' })->Inv X pins σ H' s'->Ca≠X.env.locals->(∀ x c,X.env.cells.lookup x=some c->c≠Ca)->Ca∉X.fs->X.s₀.heap.objs.size<=Ca->(∀ p∈X.pn++pins,p.1≠Ca)->H' Ca=none->Step H1 aC H' aA->aR X.K (put aA Da (.lst ds)) H'->H1 Da=none->aA Da=none->R ds aA ->
   Rl (model X.prog X.w) X.A X.xe use Qf (.ref Da) Ca (.ok .next) s'):
  wpAny (model X.prog X.w) X.A (newList []) (fun acc s₃ =>
   wpAny (model X.prog X.w) X.A (newFunctionEnv scope X.env.globals (kT X.env.cells scope.names []) [] X.env.qual none .none (some X.env)) (fun cenv s₄ =>
    kf (model X.prog X.w) X.A (.compStart (.ListComp elt [⟨tg,iter,ifs,0⟩] scope pos) 0 (.ref it) acc { cenv with scope:=relabel scope X.env }) (Rl (model X.prog X.w) X.A X.xe use Qf acc cenv.locals) s₄) X.xe s₃) X.xe s₂:=by
 have hD1:H1 s₂.heap.objs.size=none:=I2.fresh
 obtain⟨tf,htf0⟩:∃ tf:D->aB->(Option D->aB->Prop)->Prop,tf=fun x aF K=>kF one (ai own.length) x (a9 own.length none++aK.map fun i=>(σd[i]?).getD none) fun σ' =>
    iC C sub EF mE σ' aF fun b aU=>if b=true then aI C sub EF xe σ' aU fun d cN=>K (some d) cN else K none aU:=⟨_,rfl⟩
 have htf:∀ x aF (K:Option D->aB->Prop),tf x aF K->kF one (ai own.length) x (a9 own.length none++aK.map fun i=>(σd[i]?).getD none) fun σ' =>
    iC C sub EF mE σ' aF fun b aU=>if b=true then aI C sub EF xe σ' aU fun d cN=>K (some d) cN else K none aU:=fun x aF K h=>by rw[htf0]at h;exact h
 rw[<-htf0]at q
 refine gm ?_
 have I3:=I2.U2 (aD:=[]) (ys:=[]) (t':=s₂.toks) .nil (df _)
 generalize hS3:({ s₂ with heap:=s₂.heap.push { cls:=.type "list", dict:=none,data:=.seq ([]:List Value).toArray } }:af)=s₃
 have I3:Inv X pins σ (upd H1 s₂.heap.objs.size (.lst [])) s₃:=by rw[<-hS3];exact I3
 have lt3:s₂.heap.objs.size<s₃.heap.objs.size:=by rw[<-hS3];show _<(s₂.heap.push _).objs.size;rw[jm];exact f9 _
 have old3:∀ b o,s₂.heap.get? b=some o->s₃.heap.get? b=some o:=fun b o e=>by rw[<-hS3];exact ag _ e
 generalize hDa:s₂.heap.objs.size=Da at *
 have hlt2:∀ b∈fp,b<Da:=fun b hb=>by
  obtain⟨o,e,_⟩:=T.obj _ _ t0 b hb
  rw[<-hDa];exact bg e
 have f3:∀ b∈fp,mQ X pins (upd H1 Da (.lst [])) b:=fun b hb=>⟨by rw[bG (b9 (hlt2 b hb))];exact(f2 b hb).1,(f2 b hb).2⟩
 have hlt3:∀ b∈fp,b<s₃.heap.objs.size:=fun b hb=>Qw (hlt2 b hb) lt3
 refine vx S.nocell (by intro y hy;simp at hy) (fun h₁ hns hsb=>?_) S.kind
 have keep1:∀ b o,s₃.heap.get? b=some o->h₁.get? b=some o:=fun b o e=>hsb.extBut b o (b9 (bg e)) (ag _ e)
 have t1:tn 0 h₁:=T.keep _ _ _ t0 fun b hb o e=>keep1 b o (old3 b o e)
 have B0:=LC (own:=own) S hc I3 f3 hlt3 (az _) (tk:=s₃.toks+([]:List (Str×Value)).length) hns keep1
 generalize hXc:mI X scope own cn fp s₃ (upd H1 Da (.lst [])) s₃.heap.objs.size=Xc at B0
 have hgc:PG Xc tg (MI X.K one own.length):=by rw[<-hXc];exact hg _ _ _ _
 have htc:E7 Xc ifs (vB X.K (iC C sub EF mE)):=by rw[<-hXc];exact hts _ _ _ _
 have hec:PE Xc elt (bW X.K (aI C sub EF xe)):=by rw[<-hXc];exact he _ _ _ _
 have eP:Xc.prog=X.prog:=by rw[<-hXc];rfl
 have eW:Xc.w=X.w:=by rw[<-hXc];rfl
 have eK:Xc.K=X.K:=by rw[<-hXc];rfl
 have eA:Xc.A=X.A:=by rw[<-hXc];rfl
 have eX:Xc.xe=fun _ _=>False:=by rw[<-hXc];rfl
 have eN:Xc.env=compEnvC scope (kT X.env.cells scope.names []) s₃.heap.objs.size X.env:=by rw[<-hXc];rfl
 have eL:Xc.env.locals=s₃.heap.objs.size:=by rw[eN];rfl
 have eC:Xc.calm=true:=by rw[<-hXc];rfl
 have fC:∀{H':Hp},(∀ b∈fp,H' b=none)->∀ b∈fp,mQ Xc [] H' b:=fun{H'} hn b hb=>by
  have ok:=B0.ok
  refine⟨hn b hb,by rw[eL];exact b9 (hlt3 b hb),ok.exfs b (by rw[<-hXc];exact hb),.inl (by rw[<-hXc];exact hb),fun x c e=>(ok.exf b (by rw[<-hXc];exact hb)).2 x c e,fun p hp=>?_⟩
  have:p∈([]:List (Addr×Obj)):=by rw[<-hXc]at hp;exact hp
  cases this
 have capsRel:∀{H':Hp}{aA:aB},Step H1 aC H' aA->dE X.K H' (a9 own.length none++aK.map fun i=>(σd[i]?).getD none) (a9 own.length none++pT aK σ):=fun s'=>(SR r _ _).step aO s'
 have loop:∀ s4:af,s4 = { s₃ with heap:=h₁,toks:=s₃.toks+([]:List (Str×Value)).length }->kf (model X.prog X.w) X.A (.compLoop (.ListComp elt [⟨tg,iter,ifs,0⟩] scope pos) 0 (.ref it) (.ref Da) Xc.env) (Rl (model X.prog X.w) X.A X.xe use Qf (.ref Da) s₃.heap.objs.size) s4:=by
  rintro s4 rfl
  refine ID (fun n s'=>∃ i H' aA ds ys,n+i=xs.length/\Inv Xc [] (a9 own.length none++pT aK σ) H' s'/\tn i s'.heap/\(∀ b∈fp,H' b=none)/\Step H1 aC H' aA/\aR X.K aA H'/\H' Da=some (.lst ys)/\aA Da=none/\aL X.K H' ds ys /\
   jN (same as aC) tf (xs.drop i) ds aA R) ?_ xs.length
   ⟨0,_,aC,[],[],rfl,B0,t1,fun b hb=>(f3 b hb).1,rA hD1,aO.new hD1,dF,aO.fresh hD1,.nil,by simpa using q⟩
  rintro n s' ⟨i,H',aA,ds,ys,hni,I',ti,fr',dA,fK,hD',hst',rs,q'⟩
  by_cases hi:i<xs.length
  ·-- a turn
   have ed:xs.drop i=xs[i]::xs.drop (i+1):=bz hi
   rw[ed]at q'
   obtain⟨g1,gl,q'⟩:=q'
   have hx:xs[i]? = some xs[i]:=aj hi
   have hpn:=T.item Xc eP eW eK eC i [] s' _ H' (fun _ _=>False) I' (fC fr') ti (j.go i H' aA xs[i] dA fK g1 hx)
   rw[eA]at hpn
   refine bB hpn fun rr s5 ⟨u,hu,h5⟩=>?_
   subst hu
   refine bB h5 fun _ s6 ⟨v,H6,I6,rv,y6,t6,fr6⟩=>?_
   obtain⟨s6s,Fv,rd⟩:=j.yld i H' aA xs[i] v H6 dA fK g1 hx y6
   have D6:=s6s Da _ hD' hst'
   have I6':=I6.pinned (fC fr6) (T.obj _ _ t6)
   have hasg:=hgc _ s6 _ H6 v u (fun σ2 H2=>∃ sS,H2=H6/\dE X.K H6 sS σ2/\(∀ i,own.length<=i->σ2[i]? = (a9 own.length none++pT aK σ)[i]?)/\σ2.length=(a9 own.length none++pT aK σ).length /\
    iC C sub EF mE sS aA fun b aU=>if b=true then aI C sub EF xe sS aU fun d cN=>jN (same as aC) tf (xs.drop (i+1)) (ds++[d]) cN R else jN (same as aC) tf (xs.drop (i+1)) ds aU R) I6' rv
    (NB oI (htf _ _ _ q') ((capsRel dA).step fK s6s) rd fun σ2 sS r2 p2 k2 l2=>⟨sS,rfl,r2,k2,l2,p2⟩)
   rw[eP,eW,eA,eX]at hasg
   refine bB hasg fun _ s7 ⟨σ2,H7,I7,sS,e7,r7,k7,l7,q7⟩=>?_
   subst e7
   have hte:=htc _ s7 σ2 H7 _ I7 ⟨sS,aA,_,r7,Fv,q7,fun b H' z=>z⟩
   rw[eP,eW,eA,eX]at hte
   have again:∀{H8:Hp}{s8:af}{fZ:aB}{ds8:List D}{ys8:List V},Inv Xc ([]++yE fp s6.heap) σ2 H8 s8->Step H1 aC H8 fZ->aR X.K fZ H8->H8 Da=some (.lst ys8)->fZ Da=none->aL X.K H8 ds8 ys8->jN (same as aC) tf (xs.drop (i+1)) ds8 fZ R ->
     ∃ m,m<n/\∃ i H' aA ds ys,m+i=xs.length/\Inv Xc [] (a9 own.length none++pT aK σ) H' s8/\tn i s8.heap/\(∀ b∈fp,H' b=none)/\Step H1 aC H' aA/\aR X.K aA H'/\H' Da=some (.lst ys)/\aA Da=none/\aL X.K H' ds ys/\jN (same as aC) tf (xs.drop i) ds aA R:=fun{H8 s8 fZ ds8 ys8} I8 s8s R9 hD8 hs8 rs8 q8=>by
    have pinned:∀ b∈fp,∀ o,s6.heap.get? b=some o->s8.heap.get? b=some o/\H8 b=none:=fun b hb o e=>by
     have:=I8.pin (b,o) (e9 _ (e9 _ (vT hb e)))
     exact⟨this.1,this.2.1⟩
    refine⟨n-1,by omega,i+1,H8,fZ,ds8,ys8,by omega,?_,T.keep _ _ _ t6 fun b hb o e=>(pinned b hb o e).1,fun b hb=>?_,s8s,R9,hD8,hs8,rs8,q8⟩
    ·refine I8.vW.weak (by rw[l7]) fun i0 v0 e0=>?_
     by_cases hi0:i0<own.length
     ·rw[bu (by simpa using hi0),g7]at e0
      split at e0<;>cases e0
     ·rw[k7 i0 (by omega)];exact e0
    ·obtain⟨o,e,_⟩:=T.obj _ _ t6 b hb
     exact(pinned b hb o e).2
   have s17:=dA.trans s6s
   have rs7:=rs.step fK s6s
   refine bB hte fun b s8 ⟨H8,I8,fZ,s8s,R9,q8⟩=>?_
   have D8:=s8s Da _ D6.1 D6.2
   have rs8:=rs7.step Fv s8s
   cases b with
   |false=>exact again I8 (s17.trans s8s) R9 D8.1 D8.2 rs8 q8
   |true =>
    have hel:=hec _ s8 σ2 H8 _ I8 ⟨sS,fZ,_,r7.step Fv s8s,R9,q8,fun v H' z=>z⟩
    rw[eP,eW,eA,eX]at hel
    refine bB hel fun u9 s9 ⟨v9,H9,I9,rv9,d9,sT,s9s,Pp,rd9,q9⟩=>?_
    have D9:=s9s Da _ D8.1 D8.2
    have rs9:=rs8.step R9 s9s
    have hap:=L2.sP _ s9 σ2 H9 (.ref Da) [v9] (.ref Da) [u9] (fun _ H'=>H'=upd H9 Da (.lst (ys++[v9]))) I9 rfl (.cons rv9 .nil) ⟨Da,ys,v9,rfl,rfl,D9.1,by rw[gB,<-rs9.length];exact gl,rfl⟩
    rw[eP,eW,eA,eX]at hap
    refine bB hap fun _ s10 ⟨_,H10,I10,_,e10⟩=>?_
    subst e10
    refine again I10 (fun a o e0 n0=>?_) (Pp.alt D9.1 D9.2) dF D9.2 ((rs9.append (.cons rd9 .nil)).alt D9.1) q9
    have:=((s17.trans s8s).trans s9s) a o e0 n0
    exact⟨by rw[bG (iF e0 hD1)];exact this.1,this.2⟩
  ·-- the end
   have ed:xs.drop i=[]:=fj (by omega)
   rw[ed]at q'
   have hpn:=T.done Xc eP eW eK eC i [] s' _ H' (fun _ _=>False) I' (fC fr') ti (j.stop i H' aA dA fK q'.1 (by omega))
   rw[eA]at hpn
   refine bB hpn fun rr s5 ⟨hr,I5⟩=>?_
   subst hr
   have un5:Un (uA X.stack) fp (upd H1 Da (.lst [])) H' s₃.heap s5.heap:=by have:=I5.base;rw[<-hXc]at this;exact this
   have os5:s5.os=s₃.os:=by have:=I5.os;rw[<-hXc]at this;exact this
   have fC5:H' s₃.heap.objs.size=none:=by have:=I5.free;rw[eL]at this;exact this
   have hch:∀ b∈fp,(b∈X.ex∨X.s₀.heap.objs.size<=b)/\b≠X.env.locals/\(∀ x c,X.env.cells.lookup x=some c->c≠b)/\∀ p∈X.pn++pins,p.1≠b:=fun b hb=>⟨(f2 b hb).2.2.2.1,(f2 b hb).2.1,(f2 b hb).2.2.2.2.1,(f2 b hb).2.2.2.2.2⟩
   have hok5:gS X.prog X.w H' s5.heap:=by have:=I5.bS;rw[eP,eW]at this;exact this
   have Iall:∀ h',(∀ b o,b≠s₃.heap.objs.size->s5.heap.get? b=some o->h'.get? b=some o)->gS X.prog X.w H' h'->Inv X pins σ H' { s5 with heap:=h' }:=fun h' kk bS=>by
    have ne:∀ b o,s₃.heap.get? b=some o->b≠s₃.heap.objs.size:=fun b o e=>b9 (bg e)
    refine I3.VO (s':={ s5 with heap:=h' }) (ch:=fp) os5 ⟨fun b o e n hb hx=>kk b o (ne b o e) (un5.keep b o e n hb hx),fun b o e n hb hx=>?_,un5.free,fun b o e hx=>?_,un5.rQ,un5.nQ,un5.pY⟩ bS I5.bare hch
    ·obtain⟨sl,e'⟩:=un5.slot b o e n hb hx
     exact⟨sl,kk b _ (ne b o e) e'⟩
    ·obtain⟨o',e'⟩:=un5.there b o e hx
     exact⟨o',kk b o' (ne b o e) e'⟩
   obtain⟨m5,ns5,_⟩:=I5.loc
   rw[eL]at ns5
   refine fin Da s₃.heap.objs.size H' aA ds m5 s5 ns5 (fun h' hs=>Iall h' (fun b o hb e=>hs.extBut b o hb e) (YW hok5 fC5 hs)) (Iall s5.heap (fun b o _ e=>e) hok5) (qa I3.lt) (fun x c e=>?_) (I3.Dv (az _)) I3.sz (fun p hp=>b9 (bg (I3.pin p hp).1)) fC5 dA (fK.take hD' rs) hD1 hst' q'.2
   obtain⟨v,o,ho,_⟩:=I3.cell x c e
   exact b9 (bg ho)
 have hl:=loop _ rfl
 rw[eN]at hl
 exact codeAny_compStart_list hl (T.self X.A 0 _ _ _ t1 hl)
theorem IZ {H H1 H':Hp}{st aC aA:aB}{Da:Addr}{o:MO}(s1:Step H st H1 aC)(s2:Step H1 aC H' aA)(hD:H1 Da=none):Step H st H' (put aA Da o):=fun a u e n=>by
 have e1:=s1 a u e n
 have e2:=s2 a u e1.1 e1.2
 exact⟨e2.1,by rw[bD (iF e1.1 hD)];exact e2.2⟩
theorem Ao (hC:bQ C C)(S:lQ X scope cn aK)(hc:X.calm=true)(oI:one=true->own.length=1)
 (hi:PI X tg iter (BD X.K fun σ st M=>bL C sub EF aD σ st fun ds aC=>gG k ds aC fun as xs=>M as xs aC))
 (hg:∀ fp s H Ca,PG (mI X scope own cn fp s H Ca) tg (MI X.K one own.length))
 (hts:∀ fp s H Ca,E7 (mI X scope own cn fp s H Ca) ifs (vB X.K (iC C sub EF mE)))
 (he:∀ fp s H Ca,PE (mI X scope own cn fp s H Ca) elt (bW X.K (aI C sub EF xe)))
 (hs:∀ x,fv iter X.env x=pure x):
 PE X (.ListComp elt [⟨tg,iter,ifs,0⟩] scope pos) (bW X.K (aI C sub EF (.comp own.length aK (ai own.length) one k aD mE xe))):=by
 intro pins s σ H Q I ⟨σd,st,R,r,ok,q,hq⟩
 rw[eval_ListComp]
 refine rl (use:=none) rfl hs (pM (S.cells I.ok)) S.kind S.names ?_
 refine bB (hi pins s σ H _ I ⟨σd,st,_,r,ok,q,fun J H1 z=>z⟩) fun v s1 h1=>bB h1 fun itv s2 h2=>?_
 obtain⟨it,fp,tn,J,H1,rfl,I2,T,t0,f2,as,xs,aC,dA,aO,j,q1⟩:=h2
 refine EZ (use:=none) hC S hc oI hg hts he I2 T t0 f2 (r.step ok dA) aO j q1 ?_
 intro Da Ca H' aA ds m s' hns pZ hI _ _ _ _ _ _ iO okp hD1 hst' hR
 exact⟨m,hns,fun h' hh=>⟨.ref Da,H',pZ h' hh,rfl,hq _ _ ⟨.ref Da,_,IZ dA iO hD1,okp,.ref Da,hR.2 Da hst'⟩⟩⟩
theorem Ey {i:Nat}{y:Str}{py spos:Pos}(hC:bQ C C)(S:lQ X scope cn aK)(hc:X.calm=true)(oI:one=true->own.length=1)
  (hi:PI X tg iter (BD X.K fun σ st M=>bL C sub EF aD σ st fun ds aC=>gG k ds aC fun as xs=>M as xs aC))
  (hg:∀ fp s H Ca,PG (mI X scope own cn fp s H Ca) tg (MI X.K one own.length))
  (hts:∀ fp s H Ca,E7 (mI X scope own cn fp s H Ca) ifs (vB X.K (iC C sub EF mE)))
  (he:∀ fp s H Ca,PE (mI X scope own cn fp s H Ca) elt (bW X.K (aI C sub EF xe)))
  (hN:X.N.Nodup)(hy:X.N[i]? = some y)(hx:Loc X.env.scope y)(hf:X.fn y=true∨X.env.scope.names.lookup y=some .local)
  (hsw:lb (.ListComp elt [⟨tg,iter,ifs,0⟩] scope pos) (some (.Name y py)) spos.line X.env=pure true)
  (hs:∀ x,fv iter X.env x=pure x):
  PS X (.Assign [.Name y py] (.ListComp elt [⟨tg,iter,ifs,0⟩] scope pos) spos) (iD X.K (wpS C sub (.asg (.nm i) (.comp own.length aK (ai own.length) one k aD mE xe)))):=by
 intro pins s σ H D I ⟨σd,st,P,r,ok,q,h⟩
 have q:=rK hC h.ex q
 rw[exec_Assign_Name_used _ _ _ _ hsw]
 refine ae (wt (ae ?_))
 show wpAny _ X.A (do let _ <-comprehension (.ListComp elt [⟨tg,iter,ifs,0⟩] scope pos) scope X.env _ (newList []) false (eval iter X.env) (some (lx (.Name y py) X.env))) _ _ s
 refine ae (jk (rl (use:=some (lx (.Name y py) X.env)) (Q:=fun _ s'=>SP X pins D .next s') rfl hs (pM (S.cells I.ok)) S.kind S.names ?_) (fun _ s' hq=>ao (ao hq)) fun _ _ e=>e)
 refine bB (hi pins s σ H _ I ⟨σd,st,_,r,ok,q,fun J H1 z=>z⟩) fun v s1 h1=>bB h1 fun itv s2 h2=>?_
 obtain⟨it,fp,tn,J,H1,rfl,I2,T,t0,f2,as,xs,aC,dA,aO,j,q1⟩:=h2
 refine EZ (use:=some (lx (.Name y py) X.env)) hC S hc oI hg hts he I2 T t0 f2 (r.step ok dA) aO j q1 ?_
 intro Da Ca H' aA ds m s' hns pZ hI hL hcl hfs mM hpins hn iO okp hD1 hst' hR
 show wpAny _ X.A (lx (.Name y py) X.env (.ref Da)) _ _ _
 refine xx (EV hI hN hy hx (v:=.ref Da) rfl (fun s'' I'' kk=>?_) hf)
 obtain⟨ad,sb,had⟩:=kk
 have nad:Ca≠ad:=fun z=>by
  rcases had with e|e
  ·exact hL (z.trans e)
  ·exact hcl y ad e z.symm
 refine⟨m,hns.at' fun o e=>(sb.2 Ca nad).trans e,fun h' hh=>?_⟩
 refine⟨σ.set i (some (.ref Da)),H',I''.turned (t':=s''.toks) (fun b o hb e=>hh.extBut b o hb e) hn hL (.inr mM) hcl hpins,?_⟩
 have aU:=IZ (o:=.lst ds) dA iO hD1
 exact h.nx _ _ _ _ ((r.step ok aU).set i (.ref Da)) aU okp (hR.2 Da hst')
end
end L3
end
section
namespace L3
open PySem PySem.Spec PyProof.Rows L2
theorem EJ {K:aa}{H:Hp}{ds:List D}{vs:List V}(r:aL K H ds vs){N:List Str}{np:Nat}(h:ds.length=np):dE K H (start np N.length ds) (L2.start N vs):=by
 refine⟨by simp [start,L2.start,r.length,<-h],fun i d e=>?_⟩
 unfold start at e
 by_cases hi:i<ds.length
 ·rw[bu (by simpa using hi),bb,c9]at e
  obtain⟨d',e1,e2⟩:=e
  cases e2
  obtain⟨v,e3,e4⟩:=r.get e1
  refine⟨v,?_,e4⟩
  unfold L2.start
  rw[bu (by rw[ab,<-r.length];exact hi),bb,e3];rfl
 ·rw[cq (by simpa using hi),g7]at e
  split at e<;>cases e
theorem YB {P:br}{w:World}{K:aa}{mg:Str->Option Value}{base:Heap}{G:Prog}{f:Nat}{a:Addr}{fd:gj}{ps:List Str}:fF P w K mg base dH 0 a fd ps (fO K (aM G 0) f):=by
 have no:∀ vs H Q E,¬fO K (aM G 0) f vs H Q E:=fun vs H Q E ⟨_,_,_,_,_,h,_⟩=>h
 exact⟨fun vs H Q E h=>absurd h (no vs H Q E),fun A outer s H args us vs Q E _ _ _ _ h=>absurd h (no vs H Q E)⟩
end L3
end
section
namespace L3
open PySem PySem.Spec PyProof.Rows L2
theorem fB:cp "len" = some (.builtin "len"):=by decide +kernel
theorem nM:cp "all" = some (.builtin "all"):=by decide +kernel
theorem RH:cp "any" = some (.builtin "any"):=by decide +kernel
theorem Q8:cp "sum" = some (.builtin "sum"):=by decide +kernel
theorem GP:cp "isinstance" = some (.builtin "isinstance"):=by decide +kernel
theorem De:cp "int" = some (.type "int"):=by decide +kernel
theorem R7:cp "str" = some (.type "str"):=by decide +kernel
theorem LS:cp "bool" = some (.type "bool"):=by decide +kernel
theorem qM:cp "list" = some (.type "list"):=by decide +kernel
theorem gF:cp "tuple" = some (.type "tuple"):=by decide +kernel
theorem Aq:cp "set" = some (.type "set"):=by decide +kernel
theorem K8:cp "reversed" = some (.type "reversed"):=by decide +kernel
theorem HG:cp "range" = some (.type "range"):=by decide +kernel
noncomputable def IU:Ty->String
 |.int =>"int"
 |.str =>"str"
 |.bool =>"bool"
 |.list =>"list"
 |.tuple =>"tuple"
 |.dict =>"dict"
 |.err _ =>"?"
noncomputable def GW:Ty->Bool
 |.err _=>false
 |_=>true
section
variable {X:Cx}{pins:List (Addr×Obj)}{σ:L2.St}{H:Hp}{s:af}{st:aB}{sub:Nat->Nat->Bool}
noncomputable abbrev Ce (X:Cx)(s:af)(u:Value)(t:Ty)(b:Bool):Prop:=∀(A:b7)(Q:Value->af->Prop)(E:Value->af->Prop),(∀ tk,Q (.bool b) { s with toks:=tk })->wpAny (model X.prog X.w) A (call (.builtin "isinstance") [u,.type (IU t)]) Q E s
theorem zI {a:Addr}(I:Inv X pins σ H s)(h:∃ o,s.heap.get? a=some o/\o.cls=.type "list"){t:Ty}{b:Bool}(e:Pt X.K (.type "list") (.type (IU t))=some b):Ce X s (.ref a) t b:=fun A Q E hQ =>
 f7 PySem.W.kitx_list I.iU h e (fun z=>nomatch z) hQ
theorem LQ {a:Addr}(I:Inv X pins σ H s)(h:∃ o,s.heap.get? a=some o/\o.cls=.type "tuple"){t:Ty}{b:Bool}(e:Pt X.K (.type "tuple") (.type (IU t))=some b):Ce X s (.ref a) t b:=fun A Q E hQ =>
 f7 PySem.W.kitx_tuple I.iU h e (fun z=>nomatch z) hQ
theorem QF {d:D}{v:V}{u:Value}{t:Ty}{P:Bool->Prop}(I:Inv X pins σ H s)(ok:aR X.K st H)(r:Rep X.K H d v)(rv:RelV v u)(ht:GW t=true)(h:iM sub d st t P):∃ b,P b/\Ce X s u t b:=by
 cases d with
 |non =>
  cases r.fP;cases rv
  refine⟨false,by cases t<;>exact h,fun A Q E hQ=>f7 PySem.W.kitx_none I.iU de ?_ (fun z=>nomatch z) hQ⟩
  cases t<;>first|rfl|cases ht
 |bl k =>
  cases r.fJ;cases rv
  cases t with
  |bool=>exact⟨true,h,fun A Q E hQ=>f7 rg I.iU de rfl (fun z=>nomatch z) hQ⟩
  |int=>exact⟨true,h,fun A Q E hQ=>f7 rg I.iU de rfl (fun z=>nomatch z) hQ⟩
  |err _=>cases ht
  |_=>exact⟨false,h,fun A Q E hQ=>f7 rg I.iU de rfl (fun z=>nomatch z) hQ⟩
 |int k =>
  cases r.int_inv;obtain⟨tk,rfl⟩:=rv
  cases t with
  |int=>exact⟨true,h,fun A Q E hQ=>f7 yx I.iU de rfl (fun z=>nomatch z) hQ⟩
  |err _=>cases ht
  |_=>exact⟨false,h,fun A Q E hQ=>f7 yx I.iU de rfl (fun z=>nomatch z) hQ⟩
 |str k =>
  cases r.str_inv;obtain⟨tk,rfl⟩:=rv
  cases t with
  |str=>exact⟨true,h,fun A Q E hQ=>f7 yz I.iU de rfl (fun z=>nomatch z) hQ⟩
  |err _=>cases ht
  |_=>exact⟨false,h,fun A Q E hQ=>f7 yz I.iU de rfl (fun z=>nomatch z) hQ⟩
 |tup ds =>
  obtain⟨a,vs,rfl,f,g⟩:=r.bT
  cases rv
  obtain⟨aD,_,⟨o,h1,h2,_⟩,_⟩:=I.tuple f
  cases t with
  |tuple=>exact⟨true,h,LQ I ⟨o,h1,h2⟩ rfl⟩
  |err _=>cases ht
  |_=>exact⟨false,h,LQ I ⟨o,h1,h2⟩ rfl⟩
 |ref a =>
  cases r.cI
  cases rv
  have key:∃ ds,st a=some (.lst ds):=by
   cases e:st a with
   |none=>exfalso;cases t<;>first|(simp only[iM,dQ,e]at h)|cases ht
   |some o =>
    cases o with
    |lst ds=>exact⟨ds,rfl⟩
    |dic _ _=>exact(ok a _ e).elim
    |ins _ _=>exfalso;cases t<;>first|(simp only[iM,dQ,e]at h)|cases ht
    |tab _ _=>exfalso;cases t<;>first|(simp only[iM,dQ,e]at h)|cases ht
    |fn _ _=>exfalso;cases t<;>first|(simp only[iM,dQ,e]at h)|cases ht
    |cod _=>exfalso;cases t<;>first|(simp only[iM,dQ,e]at h)|cases ht
  obtain⟨ds,e⟩:=key
  obtain⟨vs,g1,_⟩:=ok.lst e
  obtain⟨_,aD,n,_,_,e1⟩:=I.vS g1
  have ho:∃ o,s.heap.get? a=some o/\o.cls=.type "list":=⟨_,e1,rfl⟩
  cases t with
  |list=>simp only[iM]at h;rw[fX e]at h;exact⟨true,h,zI I ho rfl⟩
  |err _=>cases ht
  |_=>simp only[iM]at h;rw[fX e]at h;exact⟨false,h,zI I ho rfl⟩
 |bI ds =>
  obtain⟨a,vs,rfl,f,g⟩:=r.kR
  cases rv
  obtain⟨aD,_,p,_⟩:=I.list f.sq
  obtain⟨o,h1,h2,_⟩:=p.isList
  cases t with
  |list=>exact⟨true,h,zI I ⟨o,h1,h2⟩ rfl⟩
  |err _=>cases ht
  |_=>exact⟨false,h,zI I ⟨o,h1,h2⟩ rfl⟩
 |cV _ _=>cases t<;>exact(show False from h).elim
 |exc c=>cases r
end
section
variable {X:Cx}{C:bE}{sub:Nat->Nat->Bool}{E:XK}{a:Expr}{x:Ex}{p p2 pos:Pos}
noncomputable def Nb (K:aa)(sub:Nat->Nat->Bool)(t:Ty):List V->Hp->L2.VK->Prop:=fun vs H Q=>∃ d v st R,vs=[v,.ty (IU t)]/\Rep K H d v/\aR K st H/\iM sub d st t (fun b=>R (.bl b) st)/\∀ v H',QD K H st R v H'->Q v H'
theorem S4 {t:Ty}(ht:GW t=true):vQ X (.builtin "isinstance") (Nb X.K sub t):=by
 intro pins s σ H vs us Q I rv h
 obtain⟨d,v,st,R,rfl,r,ok,h,hq⟩:=h
 cases rv with|cons r1 r2=>cases r2 with|cons r2 r3 =>
 cases r3
 cases r2
 obtain⟨b,hb,hi⟩:=QF I ok r r1 ht h
 exact hi X.A _ _ fun tk=>⟨.bl b,H,I.tok tk,rfl,hq _ _ (.here ok (.bl b) hb)⟩
theorem Ho {t:Ty}{n:Str}(ht:GW t=true)(hg:Gl X "isinstance")(hm:X.mg "isinstance" = none)(hg2:Gl X n)(hm2:X.mg n=none)(hv2:cp n=some (.type (IU t)))(ha:PE X a (bW X.K (aI C sub E x)))
 (hn2:n ≠"__name__")(hd2:(n==("__debug__" : Str))=false)(he:ah [a,.Name n p2] X.env=(false,eval a X.env)::ah [.Name n p2] X.env)(he2:ah [.Name n p2] X.env=[(false,eval (.Name n p2) X.env)])(cG:(dh pos (ah [.Name n p2] X.env)).any (·.1)=false):
 PE X (.Call (.Name "isinstance" p) [a,.Name n p2] [] pos) (bW X.K (aI C sub E (.isi x [t]))) :=
 (JV (S4 (sub:=sub) ht) hg hm GP (DO ha (DO (XF hg2 hm2 hv2 (v:=.ty (IU t)) rfl hn2 hd2) PZ he2) he) (by decide) (by decide) he cG).imp fun σ H Q ⟨σd,st,R,r,ok,q,hq⟩=>by
 refine⟨σd,st,_,r,ok,q,fun v H1 ⟨d,aC,s1,aO,r1,q1⟩=>?_⟩
 exact⟨d,v,aC,R,rfl,r1,aO,q1,fun v H' z=>hq _ _ (.after s1 z)⟩
theorem Jl {t:String}{j:Nat}(h:jz t=⟨(W t).toArray⟩):PE X (.Constant (.str (jz t)) j pos) (bW X.K (aI C sub E (.c (.str (W t))))) :=
 tL Fi fun H=>by rw[h];exact .str _
end
end L3
end
section
namespace L3
open PySem PySem.Spec PyProof.Rows L2
structure JE (X:Cx)(C:bE)(sub:Nat->Nat->Bool)(E:XK)(e:Expr)(x:Ex):Prop where
 h:PE X e (bW X.K (aI C sub E x))
structure JT (X:Cx)(C:bE)(sub:Nat->Nat->Bool)(E:XK)(e:Expr)(x:Ex):Prop where
 h:PT X e (jQ X.K (aI C sub E x))
structure JW (X:Cx)(C:bE)(sub:Nat->Nat->Bool)(E:XK)(e:Expr)(x:Ex):Prop where
 h:PW X e (jQ X.K (aI C sub E x))
structure JA (X:Cx)(C:bE)(sub:Nat->Nat->Bool)(E:XK)(es:List Expr)(xs:List Ex):Prop where
 h:PA X es (kD X.K (bL C sub E xs))
structure JO (X:Cx)(C:bE)(sub:Nat->Nat->Bool)(E:XK)(e:Option Expr)(xs:List Ex):Prop where
 h:PO X e (D2 X.K (bL C sub E xs))
structure JI (X:Cx)(C:bE)(sub:Nat->Nat->Bool)(E:XK)(tg e:Expr)(k:Option IK)(xs:List Ex):Prop where
 h:PI X tg e (BD X.K fun σ st M=>bL C sub E xs σ st fun ds aC=>gG k ds aC fun as ys=>M as ys aC)
structure JG (X:Cx)(C:bE)(sub:Nat->Nat->Bool)(E:XK)(tg:Expr)(t:Tg):Prop where
 h:PG X tg (J4 X.K (mW C sub E t))
structure JN (X:Cx)(tg:Expr)(i:Nat):Prop where
 h:PG X tg (B6 i)
structure PF (X:Cx)(es:List Expr)(is:List Nat):Prop where
 h:C2 X es (uM is)
structure JB (X:Cx)(tg:Expr)(one:Bool)(n:Nat):Prop where
 h:PG X tg (MI X.K one n)
structure JQ (X:Cx)(C:bE)(sub:Nat->Nat->Bool)(E:XK)(es:List Expr)(xs:List Ex):Prop where
 h:E7 X es (vB X.K (iC C sub E xs))
structure JS (X:Cx)(C:bE)(sub:Nat->Nat->Bool)(s:Stmt)(x:Sx):Prop where
 h:PS X s (iD X.K (wpS C sub x))
structure rW (X:Cx)(C:bE)(sub:Nat->Nat->Bool)(ss:List Stmt)(xs:List Sx):Prop where
 h:kL X ss (iD X.K (cR C sub xs))
structure nE (X:Cx)(C:bE)(n:Str)(fid:Nat):Prop where
 h:∃ k f fd ps,fF X.prog X.w X.K X.mg X.base dH k f fd ps (fO X.K C fid)/\cX k X.A/\X.mg n=some (.ref f)/\ek X.K (.ref f)=true/\Binds X.K fd ps []
noncomputable def GC (K:aa)(mg:Str->Option Value)(n:Str)(d:D):Prop:=∃ u v,mg n=some u/\RelV v u/\∀ H,Rep K H d v
section
variable {X:Cx}{C:bE}{sub:Nat->Nat->Bool}{E:XK}{a b c e o tg:Expr}{es:List Expr}{x y z:Ex}{xs:List Ex}{p p2 pos apos:Pos}{k:Nat}{n:Str}{s:Stmt}{ss:List Stmt}{sxs:List Sx}
theorem jv (i:Nat)(hN:X.N[i]? = some n:=by kernel_rfl)(hv:X.env.scope.names.lookup n=some .local:=by kernel_rfl)(hd:(n==("__debug__" : Str))=false:=by kernel_rfl)
 (hcd:(n==("__classdict__" : Str))=false:=by kernel_rfl):JE X C sub E (.Name n pos) (.v i):=⟨N3 (pv i hN (.inl hv) hd hcd)⟩
theorem aX (i:Nat)(hN:X.N[i]? = some n:=by kernel_rfl)(hv:X.env.scope.names.lookup n=some .cell:=by kernel_rfl)(hd:(n==("__debug__" : Str))=false:=by kernel_rfl)
 (hcd:(n==("__classdict__" : Str))=false:=by kernel_rfl):JE X C sub E (.Name n pos) (.v i):=⟨N3 (pv i hN (.inr (.inl hv)) hd hcd)⟩
theorem ji {i:Int}:JE X C sub E (.Constant (.int i) k pos) (.c (.int i)):=⟨tL ZO fun _=>.int _⟩
theorem jb {i:Bool}:JE X C sub E (.Constant (.bool i) k pos) (.c (.bl i)):=⟨tL Ip fun _=>.bl _⟩
theorem jn:JE X C sub E (.Constant .none k pos) (.c .non):=⟨tL Dl fun _=>.non⟩
theorem js {t:String}(h:jz t=⟨(W t).toArray⟩:=by kernel_rfl):JE X C sub E (.Constant (.str (jz t)) k pos) (.c (.str (W t))):=⟨Jl h⟩
theorem jg {d:D}(h:GC X.K X.mg n d)(hg:X.env.kindOf n=some .globalImplicit:=by kernel_rfl)(hd:(n==("__debug__" : Str))=false:=by kernel_rfl):JE X C sub E (.Name n pos) (.c d):=⟨let⟨u,v,h1,h2,h3⟩:=h;tL (ZE hg h1 h2 hd) h3⟩
theorem ja (h:JE X C sub E e x)(hs:JA X C sub E es xs)(dN:ah (e::es) X.env=(false,eval e X.env)::ah es X.env:=by kernel_rfl):JA X C sub E (e::es) (x::xs):=⟨Ax h.h hs.h dN⟩
theorem jt (m:bQ C C)(hs:JA X C sub E es xs)(hl:xs.length<=bK:=by decide):JE X C sub E (.Tuple es k pos) (.tup xs):=⟨Jg m hs.h hl⟩
theorem mV {o:qR}(u:X.A.units+180<cLine)(ha:JE X C sub E a x)(hb:JE X C sub E b y)(hm:l5 (pD o) b=false:=by kernel_rfl):JE X C sub E (.Compare a [pD o] [b] pos) (.cmp o x y):=⟨Jn u ha.h hb.h hm⟩
theorem dI {o:qR}(u:X.A.units+180<cLine)(ha:JE X C sub E a x)(hb:JE X C sub E b y)(hm:l5 (pD o) b=false:=by kernel_rfl):JT X C sub E (.Compare a [pD o] [b] pos) (.cmp o x y):=⟨Aw u ha.h hb.h hm⟩
theorem Z1 {o o':qR}(u:X.A.units+180<cLine)(ha:JE X C sub E a x)(hb:JE X C sub E b y)(hc:JE X C sub E c z)(hm:lastMarks [pD o,pD o'] [b,c]=false:=by kernel_rfl):JE X C sub E (.Compare a [pD o,pD o'] [b,c] pos) (.chain o o' x y z):=⟨YH u ha.h hb.h hc.h hm⟩
theorem tp (h:JE X C sub E e x)(he:∀ whole,yo e X.env whole=(do let v <-whole;p9 e.pos;j4 [v] (Rr v)):=by intro _;rfl):JT X C sub E e x:=⟨U4 h.h he⟩
theorem bJ (ha:JE X C sub E a x)(hb:JE X C sub E b y)(hp:tR b:=by intro _ _;rfl):JE X C sub E (.Subscript a b pos) (.ix x y):=⟨Of ha.h hb.h hp⟩
theorem bX {fid:Nat}(h:nE X C n fid)(ha:JA X C sub EF (e::es) xs)(hg:X.env.kindOf n=some .globalImplicit:=by kernel_rfl)(hdb:(n==("__debug__" : Str))=false:=by kernel_rfl)(he:ah (e::es) X.env=(false,eval e X.env)::ah es X.env:=by kernel_rfl)(cG:(dh pos (ah es X.env)).any (·.1)=false:=by kernel_rfl):
 JE X C sub EF (.Call (.Name n p) (e::es) [] pos) (.call fid xs):=⟨let⟨k,f,fd,ps,h1,h2,h3,h4,h5⟩:=h.h;Eg h1 h2 hg h3 h4 h5 GQ ha.h hdb he cG⟩
theorem eO {f:BI}{id:String}(hW:wI X (.builtin id) (gP f))(hv:cp n=some (.builtin id))(hm:X.mg n=none)(ha:JA X C sub E (e::es) xs)(hg:X.env.kindOf n=some .globalImplicit:=by kernel_rfl)
 (hn:n ≠"__name__":=by decide)(hdb:(n==("__debug__" : Str))=false:=by kernel_rfl)(he:ah (e::es) X.env=(false,eval e X.env)::ah es X.env:=by kernel_rfl)(cG:(dh pos (ah es X.env)).any (·.1)=false:=by kernel_rfl):
 JE X C sub E (.Call (.Name n p) (e::es) [] pos) (.bi f xs):=⟨(Ic hW hg hm hv ha.h hn hdb he cG).imp fun σ H Q ⟨σd,st,R,r,ok,q,hq⟩=>⟨σd,st,R,r,ok,q,hq⟩⟩
theorem pS {f:BI}{id:String}(hW:wI X (.type id) (gP f))(hv:cp n=some (.type id))(hm:X.mg n=none)(ha:JA X C sub E (e::es) xs)(hg:X.env.kindOf n=some .globalImplicit:=by kernel_rfl)
 (hn:n ≠"__name__":=by decide)(hdb:(n==("__debug__" : Str))=false:=by kernel_rfl)(he:ah (e::es) X.env=(false,eval e X.env)::ah es X.env:=by kernel_rfl)(cG:(dh pos (ah es X.env)).any (·.1)=false:=by kernel_rfl):
 JE X C sub E (.Call (.Name n p) (e::es) [] pos) (.bi f xs):=⟨(Dy hW hg hm hv ha.h hn hdb he cG).imp fun σ H Q ⟨σd,st,R,r,ok,q,hq⟩=>⟨σd,st,R,r,ok,q,hq⟩⟩
theorem C6 {t:Ty}(hv:cp n=some (.type (IU t)))(hm:X.mg "isinstance" = none)(hm2:X.mg n=none)(ha:JE X C sub E a x)(ht:GW t=true:=by kernel_rfl)(hg:X.env.kindOf "isinstance" = some .globalImplicit:=by kernel_rfl)(hg2:X.env.kindOf n=some .globalImplicit:=by kernel_rfl)
 (hn2:n ≠"__name__":=by decide)(hd2:(n==("__debug__" : Str))=false:=by kernel_rfl)(he:ah [a,.Name n p2] X.env=(false,eval a X.env)::ah [.Name n p2] X.env:=by kernel_rfl)(he2:ah [.Name n p2] X.env=[(false,eval (.Name n p2) X.env)]:=by kernel_rfl)(cG:(dh pos (ah [.Name n p2] X.env)).any (·.1)=false:=by kernel_rfl):
 JE X C sub E (.Call (.Name "isinstance" p) [a,.Name n p2] [] pos) (.isi x [t]):=⟨Ho ht hg hm hg2 hm2 hv ha.h hn2 hd2 he he2 cG⟩
theorem CU (ho:JE X C sub E o x)(ha:JA X C sub E (e::es) xs)(jR:fw o "append" X.env (eval o X.env)=eval o X.env:=by kernel_rfl)
 (vZ:((dh pos (ah (e::es) X.env)).all (fun x=>!x.1)&&(ni pos (jx [] X.env)).all (fun x=>x.1.isSome)&&decide ((e::es).length+([]:List qd).length+(if([]:List qd).isEmpty then 0 else 1)<30))=true:=by kernel_rfl)(jS:(apos.endLine==pos.line)=true:=by kernel_rfl)
 (hs:ah (e::es) X.env=(false,eval e X.env)::ah es X.env:=by kernel_rfl)(rR:(dh pos (ah es X.env)).any (·.1)=false:=by kernel_rfl):
 JE X C sub E (.Call (.Attribute o "append" apos) (e::es) [] pos) (.cD .append x xs):=⟨PV (fun z=>nomatch z) PySem.F.slot_list_append PySem.F.type_list_append QY ho.h ha.h jR vZ jS hs rR⟩
theorem Oy (ho:JE X C sub E o x)(ha:JA X C sub E (e::es) xs)(jR:fw o "extend" X.env (eval o X.env)=eval o X.env:=by kernel_rfl)
 (vZ:((dh pos (ah (e::es) X.env)).all (fun x=>!x.1)&&(ni pos (jx [] X.env)).all (fun x=>x.1.isSome)&&decide ((e::es).length+([]:List qd).length+(if([]:List qd).isEmpty then 0 else 1)<30))=true:=by kernel_rfl)(jS:(apos.endLine==pos.line)=true:=by kernel_rfl)
 (hs:ah (e::es) X.env=(false,eval e X.env)::ah es X.env:=by kernel_rfl)(rR:(dh pos (ah es X.env)).any (·.1)=false:=by kernel_rfl):
 JE X C sub E (.Call (.Attribute o "extend" apos) (e::es) [] pos) (.cD .extend x xs):=⟨PV (fun z=>nomatch z) PySem.F.slot_list_extend PySem.F.type_list_extend QS ho.h ha.h jR vZ jS hs rR⟩
theorem Oq (ho:JE X C sub E o x)(jR:fw o "pop" X.env (eval o X.env)=eval o X.env:=by kernel_rfl)(jS:(apos.endLine==pos.line)=true:=by kernel_rfl):
 JE X C sub E (.Call (.Attribute o "pop" apos) [] [] pos) (.cD .pop x []):=⟨W8 (fun z=>nomatch z) PySem.F.slot_list_pop PySem.F.type_list_pop Br ho.h jR jS⟩
theorem sx (m:bQ C C)(h:JE X C sub EF e x)(hs:lb e none pos.line X.env=pure false:=by kernel_rfl):JS X C sub (.Expr e pos) (.ex x):=⟨Lm m h.h hs⟩
theorem sn {i:Nat}(m:bQ C C)(nd:X.N.Nodup)(he:JE X C sub EF e x)(hi:X.N[i]? = some n:=by kernel_rfl)(hx:X.env.scope.names.lookup n=some .local:=by kernel_rfl)
 (hs:oi [.Name n p] e pos.line X.env=pure false:=by kernel_rfl)(hw:oj [.Name n p] e X.env=pure none:=by kernel_rfl)(h1:(eh [.Name n p] X.env).map (·.2)=[lx (.Name n p) X.env]:=by kernel_rfl):JS X C sub (.Assign [.Name n p] e pos) (.asg (.nm i) x):=⟨NV m he.h (M5 (qI nd hi (.inl hx) (.inr hx))) hs hw h1⟩
theorem wC {i:Nat}(m:bQ C C)(nd:X.N.Nodup)(he:JE X C sub EF e x)(hi:X.N[i]? = some n:=by kernel_rfl)(hx:X.env.scope.names.lookup n=some .cell:=by kernel_rfl)(hf:X.fn n=true:=by kernel_rfl)
 (hs:oi [.Name n p] e pos.line X.env=pure false:=by kernel_rfl)(hw:oj [.Name n p] e X.env=pure none:=by kernel_rfl)(h1:(eh [.Name n p] X.env).map (·.2)=[lx (.Name n p) X.env]:=by kernel_rfl):JS X C sub (.Assign [.Name n p] e pos) (.asg (.nm i) x):=⟨NV m he.h (M5 (qI nd hi (.inr hx) (.inl hf))) hs hw h1⟩
theorem gn {i:Nat}(nd:X.N.Nodup)(hi:X.N[i]? = some n:=by kernel_rfl)(hx:X.env.scope.names.lookup n=some .local:=by kernel_rfl):JN X (.Name n p) i:=⟨qI nd hi (.inl hx) (.inr hx)⟩
theorem Pf {i:Nat}(nd:X.N.Nodup)(hi:X.N[i]? = some n:=by kernel_rfl)(hx:X.env.scope.names.lookup n=some .cell:=by kernel_rfl)(hf:X.fn n=true:=by kernel_rfl):JN X (.Name n p) i:=⟨qI nd hi (.inr hx) (.inl hf)⟩
theorem gc {i:Nat}{is:List Nat}(h1:JN X e i)(h2:PF X es is)(hs:(eh (e::es) X.env).map (·.2)=lx e X.env::(eh es X.env).map (·.2):=by kernel_rfl):PF X (e::es) (i::is):=⟨WY h1.h h2.h hs⟩
theorem gt {is:List Nat}(h:PF X es is)(hc:X.calm=true:=by kernel_rfl)(hn:(eh es X.env).length=is.length:=by kernel_rfl)(dN:(eh es X.env).findIdx? (·.1)=none:=by kernel_rfl):JG X C sub E (.Tuple es k pos) (.tp is):=⟨Mc hc h.h hn dN⟩
theorem gi (ho:JE X C sub E o x)(hi:JE X C sub E a y)
 (ha:∀ v,lx (.Subscript o a pos) X.env v=(do
  let ov <-j4 [v] (eval o X.env)
  let iv <-j4 [v,ov] (eval a X.env)
  p9 pos
  j4 [v,ov,iv] (Qs ov iv v)
  Rw [v,ov,iv] []):=by intro _;rfl):JG X C sub E (.Subscript o a pos) (.ix x y):=⟨Mn ho.h hi.h ha⟩
theorem sg {t:Tg}(m:bQ C C)(he:JE X C sub EF e x)(hg:JG X C sub EF tg t)
 (hs:oi [tg] e pos.line X.env=pure false:=by kernel_rfl)(hw:oj [tg] e X.env=pure none:=by kernel_rfl)(h1:(eh [tg] X.env).map (·.2)=[lx tg X.env]:=by kernel_rfl):JS X C sub (.Assign [tg] e pos) (.asg t x):=⟨NV m he.h hg.h hs hw h1⟩
theorem sw (m:bQ C C)(hc:JT X C sub EF c x)(hb:rW X C sub ss sxs)(hp:n4 (model X.prog X.w) X.A X.env X.xe:=by exact pk):JS X C sub (.While c ss [] pos) (.whl x sxs):=⟨WO m hp hc.h hb.h⟩
theorem sf {kk:Option IK}{t:Tg}(m:bQ C C)(hi:JI X C sub EF tg e kk xs)(hg:JG X C sub EF tg t)(hb:rW X C sub ss sxs)
 (hp:n4 (model X.prog X.w) X.A X.env X.xe:=by exact pk)(hc:X.calm=true:=by kernel_rfl)(hs:∀ x,fv e X.env x=pure x:=by intro _;rfl):JS X C sub (.For tg e ss [] pos) (.hJ t kk xs sxs):=⟨NJ m hp hc hi.h hg.h hb.h hs⟩
theorem MF {kk:Option IK}{i:Nat}(m:bQ C C)(nd:X.N.Nodup)(hi:JI X C sub EF (.Name n p) e kk xs)(hb:rW X C sub ss sxs)
 (hN:X.N[i]? = some n:=by kernel_rfl)(hx:X.env.scope.names.lookup n=some .local:=by kernel_rfl)
 (hp:n4 (model X.prog X.w) X.A X.env X.xe:=by exact pk)(hc:X.calm=true:=by kernel_rfl)(hs:∀ x,fv e X.env x=pure x:=by intro _;rfl):JS X C sub (.For (.Name n p) e ss [] pos) (.hJ (.nm i) kk xs sxs):=⟨NJ m hp hc hi.h (M5 (qI nd hN (.inl hx) (.inr hx))) hb.h hs⟩
theorem Mz {kk:Option IK}{i:Nat}(m:bQ C C)(nd:X.N.Nodup)(hi:JI X C sub EF (.Name n p) e kk xs)(hb:rW X C sub ss sxs)
 (hN:X.N[i]? = some n:=by kernel_rfl)(hx:X.env.scope.names.lookup n=some .cell:=by kernel_rfl)(hf:X.fn n=true:=by kernel_rfl)
 (hp:n4 (model X.prog X.w) X.A X.env X.xe:=by exact pk)(hc:X.calm=true:=by kernel_rfl)(hs:∀ x,fv e X.env x=pure x:=by intro _;rfl):JS X C sub (.For (.Name n p) e ss [] pos) (.hJ (.nm i) kk xs sxs):=⟨NJ m hp hc hi.h (M5 (qI nd hN (.inr hx) (.inl hf))) hb.h hs⟩
theorem KQ (m:bQ C C)(hm:X.mg "range" = none)(ha:JA X C sub E [a] [x])(hg:X.env.kindOf "range" = some .globalImplicit:=by kernel_rfl)(hs:ah [a] X.env=[(false,eval a X.env)]:=by kernel_rfl):
 JI X C sub E tg (.Call (.Name "range" p) [a] [] pos) (some .range) [x]:=⟨Y3 m hg hm ha.h hs⟩
theorem Kv {cl:Nat}{t:String}(m:bQ C C):JS X C sub s (.rais cl [.c (.str (W t))]):=⟨Cm m fun σd st h=>h⟩
end
section
variable {X:Cx}{C:bE}{sub:Nat->Nat->Bool}{E:XK}{a b c e o tg:Expr}{es rest:List Expr}{x y z:Ex}{xs:List Ex}{p p2 pos apos:Pos}{k:Nat}{n:Str}{s:Stmt}{ss as bs:List Stmt}{sx1:Sx}{sxs ax bx:List Sx}
theorem an:JA X C sub E [] []:=⟨Jv⟩
theorem jl (hs:JA X C sub E es xs):JE X C sub E (.List es pos) (.lst xs):=⟨Jt hs.h⟩
theorem cM {op:tH}(ha:JE X C sub E a x)(hb:JE X C sub E b y):JE X C sub E (.BinOp a (Ar op) b pos) (.bin op x y):=⟨Ki ha.h hb.h⟩
theorem Ky (ha:JE X C sub E a x):JE X C sub E (.UnaryOp .USub a pos) (.neg x):=⟨Hw ha.h⟩
theorem MK (ha:JE X C sub E a x):JE X C sub E (.UnaryOp .Not a pos) (.not_ x):=⟨Hs ha.h⟩
theorem kU {op:Rv}(ha:JE X C sub E a x):JE X C sub E (.BoolOp op [a] pos) x:=⟨Il ha.h⟩
theorem lJ (ha:JE X C sub E a x)(hb:JE X C sub E (.BoolOp .And (b::rest) pos) y):JE X C sub E (.BoolOp .And (a::b::rest) pos) (.and_ x y):=⟨Hl ha.h hb.h⟩
theorem MR (ha:JE X C sub E a x)(hb:JE X C sub E (.BoolOp .Or (b::rest) pos) y):JE X C sub E (.BoolOp .Or (a::b::rest) pos) (.or_ x y):=⟨Nu ha.h hb.h⟩
theorem on:JO X C sub E none []:=⟨YO⟩
theorem os (h:JE X C sub E e x):JO X C sub E (some e) [x]:=⟨X4 h.h⟩
theorem GJ {lo hi:Option Expr}{xl xh:List Ex}(ha:JE X C sub E a x)(hl:JO X C sub E lo xl)(hh:JO X C sub E hi xh):JE X C sub E (.Subscript a (.Slice lo hi none p2) pos) (.sl x xl xh):=⟨Nf ha.h hl.h hh.h⟩
theorem nV (h:JT X C sub E e x):JT X C sub E (.UnaryOp .Not e pos) (.not_ x):=⟨Ai h.h⟩
theorem tK (h:JW X C sub E e x):JT X C sub E e x:=⟨h.h.pt⟩
theorem uK {op:Rv}(h:JT X C sub E e x):JW X C sub E (.BoolOp op [e] pos) x:=⟨Co h.h⟩
theorem ZM (m:bQ C C)(ha:JT X C sub E a x)(hb:JW X C sub E (.BoolOp .And (b::rest) pos) y):JW X C sub E (.BoolOp .And (a::b::rest) pos) (.and_ x y):=⟨Am m ha.h hb.h⟩
theorem wD (m:bQ C C)(ha:JT X C sub E a x)(hb:JW X C sub E (.BoolOp .Or (b::rest) pos) y):JW X C sub E (.BoolOp .Or (a::b::rest) pos) (.or_ x y):=⟨Ka m ha.h hb.h⟩
theorem iv (h:JE X C sub E e x):JI X C sub E tg e none [x]:=⟨Eb h.h⟩
theorem qn:JQ X C sub E [] []:=⟨Fl⟩
theorem qc (h:JT X C sub E e x)(hs:JQ X C sub E es xs):JQ X C sub E (e::es) (x::xs):=⟨W5 h.h hs.h⟩
theorem nn:PF X [] []:=⟨Bt⟩
theorem b1 (h:JN X tg 0):JB X tg true 1:=⟨h.h⟩
theorem bt {is:List Nat}{q:Nat}(h:PF X es is)(hi:is=ai q:=by rfl)(hc:X.calm=true:=by kernel_rfl)(hn:(eh es X.env).length=q:=by kernel_rfl)(dN:(eh es X.env).findIdx? (·.1)=none:=by kernel_rfl):JB X (.Tuple es k pos) false q:=⟨by
 subst hi
 exact PH hc h.h hn dN⟩
theorem c0:rW X C sub [] []:=⟨Im⟩
theorem cc (h1:JS X C sub s sx1)(h2:rW X C sub ss sxs):rW X C sub (s::ss) (sx1::sxs):=⟨Av h1.h h2.h⟩
theorem dJ (m:bQ C C)(hc:JT X C sub EF c x)(ha:rW X C sub as ax)(hb:rW X C sub bs bx):JS X C sub (.If c as bs pos) (.iff x ax bx):=⟨Lx m hc.h ha.h hb.h⟩
theorem bU (m:bQ C C)(h:JE X C sub EF e x):JS X C sub (.Return (some e) pos) (.ret x):=⟨Gk m h.h⟩
theorem Pb:JS X C sub (.Return none pos) (.ret (.c .non)):=⟨Z5⟩
end
section
variable {X:Cx}{C:bE}{sub:Nat->Nat->Bool}{elt iter tg:Expr}{ifs:List Expr}{xe:Ex}{mE aD:List Ex}{pos:Pos}{scope:Scope}{own cn:List Str}{aK:List Nat}{one:Bool}{k:Option IK}
theorem jA (m:bQ C C)(S:lQ X scope cn aK)(hi:JI X C sub EF tg iter k aD)
 (hg:∀ fp s H Ca,JB (mI X scope own cn fp s H Ca) tg one own.length)
 (hts:∀ fp s H Ca,JQ (mI X scope own cn fp s H Ca) C sub EF ifs mE)
 (he:∀ fp s H Ca,JE (mI X scope own cn fp s H Ca) C sub EF elt xe)(hc:X.calm=true:=by kernel_rfl)(oI:one=true->own.length=1:=by decide)
 (hs:∀ x,fv iter X.env x=pure x:=by intro _;rfl):
 JE X C sub EF (.ListComp elt [⟨tg,iter,ifs,0⟩] scope pos) (.comp own.length aK (ai own.length) one k aD mE xe) :=
 ⟨Ao m S hc oI hi.h (fun a b c d=>(hg a b c d).h) (fun a b c d=>(hts a b c d).h) (fun a b c d=>(he a b c d).h) hs⟩
theorem QK {i:Nat}{y:Str}{py spos:Pos}(m:bQ C C)(nd:X.N.Nodup)(S:lQ X scope cn aK)(hi:JI X C sub EF tg iter k aD)
 (hg:∀ fp s H Ca,JB (mI X scope own cn fp s H Ca) tg one own.length)
 (hts:∀ fp s H Ca,JQ (mI X scope own cn fp s H Ca) C sub EF ifs mE)
 (he:∀ fp s H Ca,JE (mI X scope own cn fp s H Ca) C sub EF elt xe)(hy:X.N[i]? = some y:=by kernel_rfl)(hx:X.env.scope.names.lookup y=some .local:=by kernel_rfl)
 (hsw:lb (.ListComp elt [⟨tg,iter,ifs,0⟩] scope pos) (some (.Name y py)) spos.line X.env=pure true:=by kernel_rfl)(hc:X.calm=true:=by kernel_rfl)(oI:one=true->own.length=1:=by decide)
 (hs:∀ x,fv iter X.env x=pure x:=by intro _;rfl):
 JS X C sub (.Assign [.Name y py] (.ListComp elt [⟨tg,iter,ifs,0⟩] scope pos) spos) (.asg (.nm i) (.comp own.length aK (ai own.length) one k aD mE xe)) :=
 ⟨Ey m S hc oI hi.h (fun a b c d=>(hg a b c d).h) (fun a b c d=>(hts a b c d).h) (fun a b c d=>(he a b c d).h) nd hy (.inl hx) (.inr hx) hsw hs⟩
end
noncomputable def NZ (k:Option sh):Bool:=k==some .cell||k==some .free
noncomputable def WA (names on:List (Str×NameKind))(N cn:List Str)(aK:List Nat):Bool :=
 names.all (fun y=>!(y.2 == .cell)&&(!(y.2 == .local)||names.lookup y.1==some .local)&&(!(y.2 == .free)||NZ (on.lookup y.1)))&&(cn.length==aK.length) &&
 (cn.zip aK).all (fun p=>names.lookup p.1==some .free&&N[p.2]? == some p.1&&NZ (on.lookup p.1))
theorem MQ {k:Option sh}(h:NZ k=true):k=some .cell∨k=some .free:=by
 unfold NZ at h
 rw[ph]at h
 rcases h with h|h
 ·exact .inl (by simpa using h)
 ·exact .inr (by simpa using h)
theorem gN {X:Cx}{scope:Scope}{cn:List Str}{aK:List Nat}{on:List (Str×NameKind)}{N:List Str}(h:WA scope.names on N cn aK=true)(hE:X.env.scope.names=on:=by kernel_rfl)(hN:X.N=N:=by kernel_rfl)(hk:scope.kind=.function:=by kernel_rfl):lQ X scope cn aK:=by
 unfold WA at h
 rw[aq,aq]at h
 obtain⟨⟨h1,h2⟩,h3⟩:=h
 have h1:=List.all_eq_true.mp h1
 have hl:cn.length=aK.length:=by simpa using h2
 refine⟨hk,fun y hy=>?_,fun y hy e=>?_,fun y hy e=>?_,hl,fun j y e=>?_⟩
 ·have:=h1 y hy
  simp only[aq]at this
  intro z;rw[z]at this;simp at this
 ·have:=h1 y hy
  simp only[aq,ph]at this
  rcases this.1.2 with q|q
  ·rw[e]at q;simp at q
  ·simpa using q
 ·have:=h1 y hy
  simp only[aq,ph]at this
  rcases this.2 with q|q
  ·rw[e]at q;simp at q
  ·show X.env.scope.names.lookup y.1=_∨X.env.scope.names.lookup y.1=_
   rw[hE];exact MQ q
 ·obtain⟨hj,ej⟩:=List.getElem?_eq_some_iff.mp e
  have hj':j<aK.length:=by omega
  have hm:(y,aK[j])∈cn.zip aK:=by
   rw[<-ej]
   exact List.mem_iff_getElem.mpr ⟨j,by simp;omega,by simp⟩
  have:=List.all_eq_true.mp h3 _ hm
  simp only[aq]at this
  refine⟨by simpa using this.1.1,aK[j],aj hj',by rw[hN];simpa using this.1.2,?_⟩
  show X.env.scope.names.lookup y=_∨X.env.scope.names.lookup y=_
  rw[hE];exact MQ this.2
end L3
namespace L3
theorem B2 {k:Nat}{A:PySem.Around}(hr:L2.cX k A):A.units+180<vy:=by have:=hr.un;omega
end L3
end
section
namespace PySem
open Sem (wp)
section
variable {prog:br}{w:World}{A:b7}{s:af}{R:Qt->af->Prop}{I:Addr}{fp wr:List Addr}{n:Nat}{P:Nat->Value->Prop}{St:Nat->Heap->Prop}
noncomputable def xI (prog:br)(w:World)(I:Addr)(St:Nat->Heap->Prop):Prop:=∀(A:b7)(s:af)(Q:Bool->af->Prop)(E:Value->af->Prop),St 0 s.heap->(∀ b tk,Q b { s with toks:=tk })->wpAny (model prog w) A (ky (.ref I)) Q E s
theorem PN {T:String}(W:Walks prog w A.in1 I fp wr n P St)(hn:n<=sizeLine)(hT:∀ h,St 0 h->∃ o,h.get? I=some o/\o.cls=.type T)(h2:(fq T==fq "list")=false)(h3:(fq T==fq "tuple")=false)(hint:xI prog w I St)
  (S:Addr)(res:Value)(c₀:Nat)(dN:St 0 s.heap)(hSf:S∉fp)(hI:I∈fp)(hS:s.heap.get? S=some { cls:=.type "list", data:=.seq #[] c₀ })
  (hR:∀ h' tk nT c',(∀ b o,b∉S::wr->s.heap.get? b=some o->h'.get? b=some o)->h'.get? S=some { cls:=.type "list", dict:=none,data:=.seq nT c',slots:=#[] }->zo P nT n->R (.ok (.ret res)) { s with heap:=h',toks:=tk }):
  wpAny (model prog w) A.in1 (je (.ref S) (.ref I) res)
   (fun fin s'=>match fin with|.done f=>R (.ok f) s'|.again c'=>c'.quiet=true/\kf (model prog w) A c' R s') (fun e s'=>R (.error e) s') s:=by
 have hSI:S≠I:=fun e=>hSf (e▸hI)
 have key:∀(h:Heap)(c₁ tk:Nat),St 0 h->(∀ b o,b≠S->s.heap.get? b=some o->h.get? b=some o)->h.get? S=some { cls:=.type "list", data:=.seq #[] c₁ } ->
   kf (model prog w) A (.builtin "list.extend.loop" ⟨[.ref S,.ref I,res],[]⟩) R { s with heap:=h,toks:=tk }:=by
  intro h c₁ tk hst₁ hk hS₁
  refine codeAny_extend_loopS W.toS hn S hSf res n 0 _ #[] c₁ rfl (df _) hst₁ hS₁ (ItemsOf.nil _) fun s' nT c' hm hS' hacc=>?_
  rw[Moved.eq_with hm]
  exact hR s'.heap s'.toks nT c' (fun b o hb e=>hm.heap b o hb (hk b o (fun z=>hb (by rw[z];exact cy ..)) e)) hS' hacc
 unfold je
 refine ae (uc (T:=T) (hT _ dN) ?_)
 have h1:rm (.ref S) (.ref I)=false:=by simp [rm,hSI]
 simp only[h1,h2,h3,wy,ak,if_false]
 refine ae (W.self 0 _ _ _ dN ?_)
 refine ae (jf (hint _ _ _ _ dN fun b tk=>?_))
 have touch:∀{Q:Fin->af->Prop}{E:Value->af->Prop}{k:Unit->Sem Fin},(∀ h' , St 0 h'->(∀ b o,b≠S->s.heap.get? b=some o->h'.get? b=some o)->(∃ c₁,h'.get? S=some { cls:=.type "list", data:=.seq #[] c₁ })->wpAny (model prog w) A.in1 (k ()) Q E { s with heap:=h',toks:=tk }) ->
   wpAny (model prog w) A.in1 (rule "list.extend.makes-room" >>= fun _=>Builtin.List.listTouch (.ref S) >>= k) Q E { s with toks:=tk }:=fun{Q E k} hk=>by
  refine ae (uf (ae ?_))
  show wpAny _ A.in1 (Qq S (·.push .none) >>= fun _=>Qq S (·.pop)) _ _ _
  refine ae (pj hS rfl ?_)
  have hS₂:=gw (jo (·.push iq)) hS rfl
  refine pj (hz:=by seq_fits) hS₂ rfl ?_
  have hS₃:=gw (jo (·.pop)) hS₂ rfl
  have oth:∀ b o,b≠S->s.heap.get? b=some o->((s.heap.update S (jo (·.push iq))).update S (jo (·.pop))).get? b=some o :=
   fun b o hb e=>(ff _ _ (jc hb)).trans ((ff _ _ (jc hb)).trans e)
  exact hk _ (W.frame _ _ _ dN fun b hb o e=>oth b o (fun h=>hSf (h▸hb)) e) oth ⟨_,hS₃⟩
 refine cx (fun _=>?_) (fun _=>ao ⟨plainId_quiet wm _,key _ c₀ _ dN (fun b o _ e=>e) hS⟩)
 refine touch fun h' a b ⟨c₁,c⟩=>ao ⟨plainId_quiet wm _,key _ c₁ _ a b c⟩
theorem JK {T:String}(W:Walks prog w A.in1 I fp wr n P St)(hn:n<=sizeLine)(hT:∀ h,St 0 h->∃ o,h.get? I=some o/\o.cls=.type T)(h2:(fq T==fq "list")=false)(h3:(fq T==fq "tuple")=false)(hint:xI prog w I St)
 (S:Addr)(dN:St 0 s.heap)(hSf:S∉fp)(hI:I∈fp)(hS:s.heap.get? S=some { cls:=.type "list", data:=.seq #[] })
 (hR:∀ h' tk nT c',(∀ b o,b∉S::wr->s.heap.get? b=some o->h'.get? b=some o)->h'.get? S=some { cls:=.type "list", dict:=none,data:=.seq nT c',slots:=#[] }->zo P nT n->R (.ok (.ret .none)) { s with heap:=h',toks:=tk }):
 wpAny (model prog w) A.in1 (Builtin.«list.__init__» ⟨[.ref S,.ref I],[]⟩)
  (fun fin s'=>match fin with|.done f=>R (.ok f) s'|.again c'=>c'.quiet=true/\kf (model prog w) A c' R s') (fun e s'=>R (.error e) s') s:=by
 show wpAny _ A.in1 (do let old <-uh (.ref S);Builtin.List.listUpdate (.ref S) (fun _=>#[]);letGo old.toList.reverse;je (.ref S) (.ref I) .none) _ _ s
 refine ae ?_
 unfold uh
 refine ae (Pr hS rfl (ao ?_))
 show wpAny _ A.in1 (Qq S (fun _=>#[]) >>= fun _=>letGo (#[]:Array Value).toList.reverse >>= fun _=>je (.ref S) (.ref I) .none) _ _ s
 refine ae (pj hS rfl ?_)
 have hS₂:=gw (jo (fun _=>(#[]:Array Value))) hS rfl
 have oth:∀ b o,b≠S->s.heap.get? b=some o->(s.heap.update S (jo (fun _=>(#[]:Array Value)))).get? b=some o :=
 fun b o hb e=>(ff _ _ (jc hb)).trans e
 refine ae (wpAny_letGo ?_)
 refine PN W hn hT h2 h3 hint S .none _ (W.frame _ _ _ dN fun b hb o e=>oth b o (fun h=>hSf (h▸hb)) e) hSf hI hS₂ fun h' tk nT c' hm hS' hacc=>?_
 exact hR h' tk nT c' (fun b o hb e=>hm b o hb (oth b o (fun z=>hb (by rw[z];exact cy ..)) e)) hS' hacc
end
section
variable {prog:br}{w:World}{A:b7}{E:Value->af->Prop}{s:af}{I:Addr}{fp wr:List Addr}{n:Nat}{P:Nat->Value->Prop}{St:Nat->Heap->Prop}
theorem xV {T:String}{Q:Value->af->Prop}(W:Walks prog w A.in1.in1 I fp wr n P St)(hn:n<=sizeLine)(hT:∀ h,St 0 h->∃ o,h.get? I=some o/\o.cls=.type T)(h2:(fq T==fq "list")=false)(h3:(fq T==fq "tuple")=false)(hint:xI prog w I St)
  (dN:St 0 s.heap)(hfp:∀ b∈fp,b<s.heap.objs.size)(hI:I∈fp)
  (hQ:∀ h' tk nT c',(∀ b o,b∉wr->s.heap.get? b=some o->h'.get? b=some o)->h'.get? s.heap.objs.size=some { cls:=.type "list", dict:=none,data:=.seq nT c',slots:=#[] }->zo P nT n->Q (.ref s.heap.objs.size) { s with heap:=h',toks:=tk }):
  wpAny (model prog w) A (call (.type "list") [.ref I]) Q E s:=by
 have hSf:s.heap.objs.size∉fp:=fun hm=>ey _ (hfp _ hm)
 refine Pu (Q₁:=fun obj s₁=>obj=.ref s.heap.objs.size/\s₁ = { s with heap:=s.heap.push { cls:=.type "list", data:=.seq #[] } }) F.called_list (F.typeCall_list_1 _) F.entry_list_init
  (code_list_new _ ⟨rfl,rfl⟩) fun obj s₁ h₁=>?_
 obtain⟨rfl,rfl⟩:=h₁
 have hS:(s.heap.push { cls:=.type "list", data:=.seq #[] }).get? s.heap.objs.size=some { cls:=.type "list", data:=.seq #[] }:=bh _ rfl
 refine⟨⟨_,hS,rfl⟩,F.args_list_init_2 _ _,JK (A:=A.in1) W hn hT h2 h3 hint _ (W.frame _ _ _ dN fun b _ o e=>ag _ e) hSf hI hS fun h' tk nT c' hk hS' hacc=>?_⟩
 refine⟨rfl,hQ h' tk nT c' (fun b o hb e=>hk b o (fun z=>?_) (ag _ e)) hS' hacc⟩
 rcases List.mem_cons.mp z with z|z
 ·exact absurd (bg e) (by rw[z];exact ey _)
 ·exact hb z
end
end PySem
end
section
namespace PySem
namespace F
theorem OM:qk (.type "list_reverseiterator") "__len__" = pure none:=by rw[gu,dz];kernel_rfl
theorem UZ:qk (.type "list_reverseiterator") "__length_hint__" = pure (some (.builtin "list_reverseiterator.__length_hint__")):=by rw[gu,dz];kernel_rfl
end F
section
variable {prog:br}{w:World}
theorem S1 {I l:Addr}{items:Array Value}:xI prog w I (fun i h=>i<=items.size/\h.IsRevIter I l ((items.size:Int)-1-(i:Int))/\h.IsList l items):=fun A s Q E dN hQ=>by
 have hT:=dN.2.1.typeIs
 unfold ky
 refine ae (f6 hT F.OM ?_)
 refine cx (fun dS=>absurd dS (by decide)) (fun _=>?_)
 refine cx (fun dS=>absurd dS (by decide)) (fun _=>?_)
 refine ae (f6 hT F.UZ ?_)
 generalize hid:("list_reverseiterator.__length_hint__" : String)=id0
 wp_delta
 rw[show splitId id0=some ("list_reverseiterator","__length_hint__")from by subst hid;decide +kernel]
 subst hid
 refine ae (lh (T :="list_reverseiterator") (b:=true) hT (by rw[jq];kernel_rfl) ?_)
 refine cx (fun dS=>absurd dS (by decide)) (fun _=>?_)
 refine cx (fun _=>?_) (fun dS=>absurd (by decide +kernel) dS)
 refine cx (fun dS=>absurd dS (by decide +kernel)) (fun _=>?_)
 exact ao (hQ false s.toks)
end
end PySem
end
section
namespace PySem
open PyProof.Rows
namespace F
theorem NA:qk (.type "tuple") "__reversed__" = pure none:=by rw[gu,dz];kernel_rfl
theorem KO:qk (.type "tuple") "__getitem__" = pure (some (.builtin "tuple.__getitem__")):=by rw[gu,dz];kernel_rfl
theorem NY:qk (.type "reversed") "__len__" = pure none:=by rw[gu,dz];kernel_rfl
theorem xZ:Manifest.owners.lookup (String.ofList ['d','e','s','r','e','v','e','r'].reverse)=some Manifest.sig_reversed:=by kernel_rfl
theorem jZ:Slot "reversed" "__next__" "reversed.__next__" :=
 .of (owner :="reversed") (n :="__next__") (by rw[gu,dz];kernel_rfl) (by decide +kernel) (by decide +kernel) (by decide +kernel)
 (by first|exact .inl (by decide +kernel)|exact .inr (by decide +kernel)) (by rw[jq];kernel_rfl)
theorem pN:Slot "reversed" "__length_hint__" "reversed.__length_hint__" :=
 .of (owner :="reversed") (n :="__length_hint__") (by rw[gu,dz];kernel_rfl) (by decide +kernel) (by decide +kernel) (by decide +kernel)
 (by first|exact .inl (by decide +kernel)|exact .inr (by decide +kernel)) (by rw[jq];kernel_rfl)
theorem wA:Slot "reversed" "__iter__" "reversed.__iter__" :=
 .of (owner :="reversed") (n :="__iter__") (by rw[gu,dz];kernel_rfl) (by decide +kernel) (by decide +kernel) (by decide +kernel)
 (by first|exact .inl (by decide +kernel)|exact .inr (by decide +kernel)) (by rw[jq];kernel_rfl)
theorem uH:Rm table "reversed.__next__" = some Builtin.«reversed.__next__»:=zc (by kernel_rfl)
theorem DF:Rm table "reversed.__length_hint__" = some Builtin.«reversed.__length_hint__»:=zc (by kernel_rfl)
theorem sF (a:Value):Pw "reversed.__next__" ⟨[a],[]⟩:=by
 unfold Pw;rw[w6 (id :="reversed.__next__") (n:=['_','_','t','x','e','n','_','_']) (o:=['d','e','s','r','e','v','e','r']) (by kernel_rfl) xZ];kernel_rfl
theorem C3 (a:Value):Pw "reversed.__length_hint__" ⟨[a],[]⟩:=by
 unfold Pw;rw[w6 (id :="reversed.__length_hint__") (n :="__length_hint__".toList.reverse) (o:=['d','e','s','r','e','v','e','r']) (by kernel_rfl) xZ];kernel_rfl
theorem BH (a:Value):Pw "reversed.__iter__" ⟨[a],[]⟩:=by
 unfold Pw;rw[w6 (id :="reversed.__iter__") (n:=['_','_','r','e','t','i','_','_']) (o:=['d','e','s','r','e','v','e','r']) (by kernel_rfl) xZ];kernel_rfl
theorem DY:Rm table "reversed.__iter__" = some Builtin.«dict_keyiterator.__iter__» :=
 entryFor_alias (id' :="dict_keyiterator.__iter__") (by kernel_rfl) (by first|rfl|decide +kernel|(unfold String.splitOn;simp +decide [String.splitOnAux])) (by decide +kernel) (by kernel_rfl)
end F
end PySem
end
section
namespace PySem
open PyProof.Rows
section
variable {prog:br}{w:World}{A:b7}{E:Value->af->Prop}{s:af}
noncomputable def OS (t:Addr)(i:Int):Obj:={ cls:=.type "reversed", data:=.fields #[.ref t,gf i] }
noncomputable def Heap.kM (h:Heap)(a t:Addr)(i:Int):Prop:=∃ o,h.get? a=some o/\o.cls=.type "reversed" /\ o.data=.fields #[.ref t,gf i]
theorem Heap.kM.typeIs {a t:Addr}{i:Int}(x:s.heap.kM a t i):s.TypeIs (.ref a) "reversed":=let⟨o,ho,hc,_⟩:=x;⟨o,ho,hc⟩
theorem Heap.kM.at {h h':Heap}{a t:Addr}{i:Int}(x:h.kM a t i)(e:∀ o,h.get? a=some o->h'.get? a=some o):h'.kM a t i:=let⟨o,ho,r⟩:=x;⟨o,e _ ho,r⟩
theorem xX {t:Addr}{items:Array Value}{Q₁:Value->af->Prop}(ht:IsTup s.heap t items)(nS:(items.size:Int)<2 ^ 63)
 (h:Q₁ (.ref s.heap.objs.size) { s with heap:=s.heap.push (OS t ((items.size:Int)-1)),toks:=s.toks+1+1 }):
 kf (model prog w) A (.call (.builtin "reversed.__new__") ⟨[.type "reversed", .ref t],[]⟩) (wants Q₁ E) s:=by
 refine zm ?_
 show wpAny _ A.in1 (do checkBuiltinCall "reversed.__new__" ⟨[.type "reversed", .ref t],[]⟩;again (.builtin "reversed.__new__" ⟨[.type "reversed", .ref t],[]⟩)) _ _ s
 refine ae (j9 (F.newCall_reversed_1 _) (ao ⟨plainId_quiet vz _,pq F.entry_reversed_new ?_⟩))
 rw[ox vz _]
 unfold Builtin.«reversed.__new__»
 refine ae (j9 (newClass_reversed _) ?_)
 try dsimp only
 refine ae (j9 (a:=()) (by first|rfl|kernel_rfl) ?_)
 refine ae (j9 (a:=()) (by first|rfl|kernel_rfl) ?_)
 try dsimp only
 refine ae (f6 ht.typeIs F.NA ?_)
 try dsimp only
 refine ae ?_
 wp_delta
 refine ae (lh (T :="tuple") (b:=false) ht.typeIs (by rw[jq];kernel_rfl) ?_)
 refine cx (fun dS=>absurd dS (by decide)) (fun _=>?_)
 refine ae (f6 ht.typeIs F.KO ?_)
 refine cx (fun _=>?_) (fun dS=>absurd (by decide +kernel) dS)
 refine ao ?_
 refine cx (fun dS=>absurd dS (by decide)) (fun _=>?_)
 refine ae (Qn ht nS ?_)
 refine ae (m:=asInt? _) (ao ?_)
 refine ae (m:=Builtin.SmallTypes.newRecord (.type "reversed") [gp t,gf ((items.size:Int)-1)]) ?_
 show wpAny _ _ (newObj (.type "reversed") (.fields #[gp t,gf ((items.size:Int)-1)])) _ _ _
 exact gm (ao h)
theorem zM {it t:Addr}{i:Int}{Q:Value->af->Prop}(hit:s.heap.kM it t i)(h:Q (.ref it) s):wpAny (model prog w) A (tq (.ref it)) Q E s:=by
 refine wpAny_pyIter_slot hit.typeIs F.wA (fe F.wA hit.typeIs F.DY ?_ (F.BH _))
 show wpAny _ _ (ret (.ref it)) _ _ s
 exact ao ⟨_,rfl,"reversed", _,hit.typeIs,F.jZ.lookup,h⟩
theorem tE {it t:Addr}{i:Nat}{items:Array Value}{x:Value}{Q:Option Value->af->Prop}(hit:s.heap.kM it t (i:Int))(ht:IsTup s.heap t items)(nS:(items.size:Int)<2 ^ 63)(hx:items[i]? = some x)
  (hQ:∀ h',h'.kM it t ((i:Int)-1)->kc it s.heap h'->Q (some x) { s with heap:=h',toks:=s.toks+1 }):wpAny (model prog w) A (tm (.ref it)) Q E s:=by
 obtain⟨o,ho,hc,hd⟩:=id hit
 have hi:i<items.size:=by
  rcases Nat.lt_or_ge i items.size with z|z
  ·exact z
  ·rw[Array.getElem?_eq_none z]at hx;cases hx
 unfold tm
 refine ae (rq (h9 (name:=jz "__next__") hit.typeIs F.jZ
  (fe F.jZ hit.typeIs F.uH ?_ (F.sF _))))
 unfold Builtin.«reversed.__next__»
 refine ae (j9 (a:=(gp it,[])) rfl ?_)
 try dsimp only
 refine ae (jy ho hd (x:=.ref t) rfl ?_)
 refine ae (jy ho hd (x:=gf (i:Int)) rfl ?_)
 show wpAny _ _ (if(i:Int)<0 then _ else _) _ _ s
 rw[if_neg (by omega)]
 refine ae (f6 ht.typeIs F.KO ?_)
 refine cx (fun dS=>absurd dS (by decide)) (fun _=>?_)
 refine ae (rf ?_)
 refine ae (rq (PyProof.Rows.getItem_tuple (j:=i) ht (by omega) (by omega) (vm (by omega) (by omega)) hx ?_))
 refine ae (jy ho hd (x:=gf (i:Int)) rfl ?_)
 refine ae (v5 ho hd (by simp) ?_)
 first
 |refine ao ⟨x,rfl,ao (hQ _ ?_ (wo ..))⟩
 |refine ae (ao (ao ⟨x,rfl,ao (hQ _ ?_ (wo ..))⟩))
 exact⟨_,gw _ ho (vg (mo hd _)),(Obj.cls_mapFields ..).trans hc,by
  rw[mo hd];simp⟩
end
end PySem
end
section
namespace PySem
open PyProof.Rows
section
variable {prog:br}{w:World}{A:b7}{E:Value->af->Prop}{s:af}
theorem tX {it t:Addr}{Q:Option Value->af->Prop}(hh:A.handled=none)(hit:s.heap.kM it t (-1))
 (hQ:∀ h',Rn it s.heap h'->Q none { s with heap:=h' }):wpAny (model prog w) A (tm (.ref it)) Q E s:=by
 obtain⟨o,ho,hc,hd⟩:=id hit
 unfold tm
 refine ae (rq (h9 (name:=jz "__next__") hit.typeIs F.jZ
 (fe F.jZ hit.typeIs F.uH ?_ (F.sF _))))
 unfold Builtin.«reversed.__next__»
 refine ae (j9 (a:=(gp it,[])) rfl ?_)
 try dsimp only
 refine ae (jy ho hd (x:=.ref t) rfl ?_)
 refine ae (jy ho hd (x:=gf (-1)) rfl ?_)
 show wpAny _ _ (if(-1:Int)<0 then _ else _) _ _ s
 rw[if_pos (by decide)]
 refine ae (uf ?_)
 refine ae ?_
 wp_delta
 have ho2:=gw (w8 (·.setIfInBounds 1 (gf (-1)))) ho (vg (mo hd _))
 refine ae (v5 ho hd (by simp) ?_)
 refine v5 ho2 (mo hd _) (by simp) ?_
 first
 |show wpAny _ _ (Ru (.type "StopIteration") [] >>= _) _ _ _
 |(refine ae ?_;show wpAny _ _ (Ru (.type "StopIteration") [] >>= _) _ _ _)
 refine ae ?_
 simp only[Ru,newTuple]
 refine ae (gm ?_ (by size_fits))
 refine ae (m:=Px _ _) (j9 (a:=iq) (by first|rfl|(simp only[Px];rfl)) ?_)
 refine gm ?_ (by size_fits)
 simp only[raiseNew]
 refine ae (wpAny_handled ?_)
 first|rw[show A.in1.handled=none from hh]|rw[hh]
 refine ae (ao (wpAny_throw ?_))
 refine ae (lh (T :="StopIteration") (b:=true) ⟨_,bh _ rfl,rfl⟩ isSubtype_stop ?_)
 refine ao (hQ _ ?_)
 have e1:Rn it s.heap ((s.heap.update it (w8 (·.setIfInBounds 1 (gf (-1))))).update it (w8 (·.setIfInBounds 0 iq))):=fun b u hb e =>
 (ff _ _ (jc hb)).trans ((ff _ _ (jc hb)).trans e)
 exact(e1.push _).push _
end
theorem Walks.Ay {prog:br}{w:World}{A:b7}(hh:A.handled=none)(I l:Addr)(hne:l≠I)(items:Array Value)(nS:(items.size:Int)<2 ^ 63):
  Walks prog w A I [I,l] [I] items.size (fun i v=>items[items.size-1-i]? = some v) (fun i h=>i<=items.size/\h.kM I l ((items.size:Int)-1-(i:Int))/\IsTup h l items) where
 sub:=fun b hb=>by simp at hb;simp [hb]
 frame:=fun _ _ _ x hk=>⟨x.1,x.2.1.at fun o e=>hk I (by simp) o e,let⟨o,ho,r⟩:=x.2.2;⟨o,hk l (by simp) o ho,r⟩⟩
 item:=fun i s Q E hi x hQ=>by
  have e:(items.size:Int)-1-(i:Int)=((items.size-1-i:Nat):Int):=by omega
  have hit:=x.2.1
  rw[e]at hit
  have hx:items[items.size-1-i]? = some (items[items.size-1-i]'(by omega)):=qw (by omega)
  refine tE hit x.2.2 nS hx fun h' hit' hU=>?_
  have e2:((items.size-1-i:Nat):Int)-1=(items.size:Int)-1-((i+1:Nat):Int):=by omega
  rw[e2]at hit'
  exact hQ _ h' _ hx ⟨hi,hit',let⟨o,ho,r⟩:=x.2.2;⟨o,(hU.2 l hne).trans ho,r⟩⟩ fun b o hb eo=>hU.extBut b o (fun h=>hb (by simp [h])) eo
 done:=fun s Q E x hQ=>by
  have e:(items.size:Int)-1-(items.size:Int) = -1:=by omega
  have hit:=x.2.1
  rw[e]at hit
  exact tX hh hit fun h' he'=>hQ h' s.toks fun b o hb eo=>he' b o (fun h=>hb (by simp [h])) eo
 self:=fun _ _ _ _ x hQ=>zM x.2.1 hQ
section
variable {prog:br}{w:World}{A:b7}{E:Value->af->Prop}{s:af}
theorem F.wU:Slot "reversed" "__init__" "object.__init__" :=
 .of (owner :="object") (n :="__init__") (by rw[gu,dz];kernel_rfl) (by decide +kernel) (by decide +kernel) (by decide +kernel)
 (by first|exact .inl (by decide +kernel)|exact .inr (by decide +kernel)) (by rw[jq];kernel_rfl)
theorem F.nO:TypeCalled "reversed" "reversed.__new__" "object.__init__" :=
 ⟨by decide +kernel,by decide +kernel,⟨_,_,F.mro_reversed⟩,F.made_reversed,by decide +kernel,by rw[jq];kernel_rfl,F.wU⟩
theorem zP {t:Addr}{items:Array Value}{Q:Value->af->Prop}(ht:IsTup s.heap t items)(nS:(items.size:Int)<2 ^ 63)
  (h:Q (.ref s.heap.objs.size) { s with heap:=s.heap.push (OS t ((items.size:Int)-1)),toks:=s.toks+1+1 }):wpAny (model prog w) A (call (.type "reversed") [.ref t]) Q E s:=by
 refine Pu (Q₁:=fun obj s₁=>s₁.TypeIs obj "reversed" /\ Q obj s₁) F.nO (F.typeCall_reversed_1 _) F.entry_object_init
  (xX ht nS ⟨⟨_,bh _ rfl,rfl⟩,h⟩) fun obj s₁ hq=>⟨hq.1,F.args_object_init_2 obj _,?_⟩
 exact object_init_meets F.nO.init.lookup F.nO.made (by decide) prog w A.in1 _ s₁ ⟨hq.1,rfl,hq.2⟩
theorem U6 {I l:Addr}{items:Array Value}(nS:items.size<=sizeLine):xI prog w I (fun i h=>i<=items.size/\h.kM I l ((items.size:Int)-1-(i:Int))/\IsTup h l items):=fun A s Q E dN hQ=>by
 have hit:=dN.2.1
 have hT:=hit.typeIs
 obtain⟨o,ho,hc,hd⟩:=id hit
 have hf:(items.size:Int)<2 ^ 63:=by have:=nS;rw[jh]at this;omega
 unfold ky
 refine ae (f6 hT F.NY ?_)
 refine cx (fun dS=>absurd dS (by decide)) (fun _=>?_)
 refine cx (fun dS=>absurd dS (by decide)) (fun _=>?_)
 refine ae (f6 hT F.pN.lookup ?_)
 generalize hid:("reversed.__length_hint__" : String)=id0
 wp_delta
 rw[show splitId id0=some ("reversed","__length_hint__")from by subst hid;decide +kernel]
 subst hid
 refine ae (lh (T :="reversed") (b:=true) hT (by rw[jq];kernel_rfl) ?_)
 refine cx (fun dS=>absurd dS (by decide)) (fun _=>?_)
 refine cx (fun dS=>absurd dS (by decide +kernel)) (fun _=>?_)
 refine ae (uf ?_)
 refine ae (j9 (F.pN.bind _) ?_)
 refine ae (rq (fe F.pN hT F.DF ?_ (F.C3 _)))
 unfold Builtin.«reversed.__length_hint__»
 refine ae (j9 (a:=gp I) rfl ?_)
 refine ae (jy ho hd (x:=.ref l) rfl ?_)
 refine cx (fun dS=>absurd dS (by simp)) (fun _=>?_)
 refine ae (Qn dN.2.2 hf ?_)
 refine ae (m:=asInt? _) (ao ?_)
 refine ae (m:=field (.ref I) 1) (jy ho hd (x:=gf ((items.size:Int)-1-((0:Nat):Int))) rfl ?_)
 show wpAny _ _ (if(items.size:Int)<((items.size:Int)-1-((0:Nat):Int))+1 then _ else _) _ _ _
 rw[if_neg (by omega)]
 refine ae (rf (ao ⟨_,rfl,?_⟩))
 refine ae (m:=asInt? _) (ao ?_)
 dsimp only
 have e0:(items.size:Int)-1-((0:Nat):Int)+1=items.size:=by omega
 rw[e0]
 have hfi:Builtin.List.listFitsIndex (items.size:Int)=true:=zu (by omega) hf
 have htl:dw ((items.size:Int).toNat)=false:=by simp [dw];exact nS
 rw[hfi,htl]
 refine cx (fun dS=>absurd dS (by decide)) (fun _=>?_)
 refine cx (fun dS=>absurd dS (by omega)) (fun _=>?_)
 refine cx (fun dS=>absurd dS (by decide)) (fun _=>ao (hQ _ _))
end
end PySem
end
section
namespace L3
open PySem PySem.Spec PyProof.Rows L2
theorem JU {X:Cx}{pins:List (Addr×Obj)}{σ:L2.St}{H:Hp}{s:af}{h':Heap}{t':Nat}{it:Addr}{ys:List V}{aD:List Value}{n:Nat}(I:Inv X pins σ H s)(f:mQ X pins H it)(k:∀ b o,b≠it->s.heap.get? b=some o->h'.get? b=some o)
  (new:h'.get? s.heap.objs.size=some { cls:=.type "list", data:=.seq aD.toArray n })(hv:aQ ys aD)(hz:ys.length<=sizeLine):Inv X pins σ (upd H s.heap.objs.size (.lst ys)) { s with heap:=h',toks:=t' }:=by
 have hS:=I.fresh
 have neS:∀ b o,s.heap.get? b=some o->b≠s.heap.objs.size:=fun b o e=>b9 (bg e)
 have tr:∀ b u,H b=some u->b≠s.heap.objs.size:=fun b u e=>iF e hS
 obtain⟨f0,f1,f2,f3,f4,f5⟩:=f
 refine I.step (g':=s.gens) (d':=s.drawn) (ch:=[it]) (fun b hb=>?_) (fun b o _ _ hc e _=>k b o (fun z=>hc (by simp [z])) e) (fun b o _ _ hc e _=>⟨o.slots,k b o (fun z=>hc (by simp [z])) e⟩) (fun b o _ e n=>by rw[bG (neS b o e)];exact n)
  (fun b o hc e=>⟨o,k b o (fun z=>hc (by simp [z])) e⟩) (fun b xs e=>by rw[bG (tr b _ e)];exact e) (fun b o u e=>by rw[bG (tr b _ e)];exact e) (fun b ps e=>⟨#[],by rw[bG (tr b _ e),e];simp⟩) (fun m hm=>?_) (fun b u e=>?_) I.bare
 ·have e:b=it:=by simpa using hb
  subst e
  exact⟨f3,f1,f4,f5⟩
 ·obtain⟨o,es,ep,ho,r⟩:=hm
  exact⟨o,es,ep,k _ o (jc f1) ho,r⟩
 ·by_cases hb:b=s.heap.objs.size
  ·subst hb
   rw[dF]at e;cases e
   exact⟨hz,aD,n,hv,new⟩
  ·rw[bG hb]at e
   refine(I.bS b u e).pO (fun c v hc q=>k c v ?_ q) (fun c q=>by rw[bG (tr c _ q)];exact q) fun c xs q=>by rw[bG (tr c _ q)];exact q
   rcases hc with z|z
   ·rw[z];exact fun y=>by rw[y,f0]at e;cases e
   ·exact fun y=>by rw[y,f0]at z;cases z
theorem O4 {aD:List Value}{acc:Array Value}(h:zo (fun i v=>aD.toArray[aD.toArray.size-1-i]? = some v) acc aD.toArray.size):acc=aD.reverse.toArray:=by
 obtain⟨h1,h2⟩:=h
 apply Array.ext
 ·rw[h1];simp
 ·intro i hi hi'
  have:aD.toArray[aD.toArray.size-1-i]? = some acc[i]:=h2 i acc[i] (qw hi)
  have hl:i<aD.length:=by rw[h1]at hi;simpa using hi
  have e:aD.toArray[aD.toArray.size-1-i]? = some (aD.reverse.toArray[i]):=by
   simp
  rw[e]at this
  exact(cz this).symm
theorem aQ.reverse:∀{vs:List V}{us:List Value},aQ vs us->aQ vs.reverse us.reverse
 |_,_,.nil=>.nil
 |_,_,.cons h t=>by simp only[ig];exact(aQ.reverse t).append (.cons h .nil)
section
variable {X:Cx}{C:bE}{sub:Nat->Nat->Bool}{E:XK}{a b c e o tg:Expr}{es:List Expr}{x y z:Ex}{xs:List Ex}{p p2 pos pos2:Pos}{kk:IK}
theorem Ga (hm:X.mg "list" = none)(hm2:X.mg "reversed" = none)(hc:X.calm=true)(ha:PA X [a] (kD X.K (bL C sub E [x])))(hg:X.env.kindOf "list" = some .globalImplicit:=by kernel_rfl)(hg2:X.env.kindOf "reversed" = some .globalImplicit:=by kernel_rfl)
  (he:ah [.Call (.Name "reversed" p2) [a] [] pos2] X.env=(false,eval (.Call (.Name "reversed" p2) [a] [] pos2) X.env)::ah [] X.env:=by kernel_rfl)(cG:(dh pos (ah [] X.env)).any (·.1)=false:=by kernel_rfl)
  (he2:ah [a] X.env=(false,eval a X.env)::ah [] X.env:=by kernel_rfl)(hpl2:(dh pos2 (ah [] X.env)).any (·.1)=false:=by kernel_rfl):
  PE X (.Call (.Name "list" p) [.Call (.Name "reversed" p2) [a] [] pos2] [] pos) (bW X.K (aI C sub E (.bit .list .rev [x]))):=by
 intro pins s σ H Q I ⟨σd,st,R,r,ok,q,hq⟩
 refine dm (kQ I hg hm qM ?_ (by decide) (by decide))
 refine di ?_ he cG
 rw[he]
 show wpAny _ _ (wb ((false,eval (.Call (.Name "reversed" p2) [a] [] pos2) X.env)::dh pos (ah [] X.env))) _ _ s
 refine gx ?_
 refine dm (kQ I hg2 hm2 K8 ?_ (by decide) (by decide))
 refine di (bB (ha pos2 pins s σ H _ I ⟨σd,st,_,r,ok,q,fun vs H' z=>z⟩) fun us s1 ⟨vs,H1,I1,rv,ds,aC,dA,aO,rs,q1⟩=>?_) he2 hpl2
 match ds,rs,q1 with
 |[d],rs,q1 =>
  obtain⟨v,rfl,rd⟩:=rs.one
  obtain⟨u,rfl,ru⟩:=vals1 rv
  have q1:dP d aC fun as xs=>gE xs.reverse aC R:=q1
  obtain⟨l,ws,as,ys,rfl,sa,g,q1⟩:=mK aO rd q1
  cases ru
  have hh:X.A.handled=none:=I1.ok.hd hc
  have nil:∀{Q':List Value->af->Prop}{s':af},Q' [] s'->wpAny (model X.prog X.w) X.A (wb (dh pos (ah [] X.env))) Q' X.xe s':=fun h=>kv h
  have fin:∀(aD:List Value)(s2:af)(h':Heap)(tk:Nat)(acc:Array Value)(cc:Nat),aQ ws aD->ws.length<=sizeLine->Inv X pins σ H1 s2->mQ X pins H1 s1.heap.objs.size->(∀ b o,b∉[s1.heap.objs.size]->s2.heap.get? b=some o->h'.get? b=some o) ->
    h'.get? s2.heap.objs.size=some { cls:=.type "list", dict:=none,data:=.seq acc cc,slots:=#[] }->zo (fun i v=>aD.toArray[aD.toArray.size-1-i]? = some v) acc aD.toArray.size->EP X pins σ Q (.ref s2.heap.objs.size) { s2 with heap:=h',toks:=tk }:=by
   intro aD s2 h' tk acc cc hv hz I2 f2 k2 hS hacc
   have ea:=O4 hacc
   subst ea
   refine⟨.ref s2.heap.objs.size,_,JU I2 f2 (fun b o hb e=>k2 b o (by simpa using hb) e) hS (aQ.reverse hv) (by simpa using hz),rfl,hq _ _ (.after dA ?_)⟩
   exact .gE aO g.reverse I2.fresh q1.2
  rcases sa with sa|sa
  ·obtain⟨aD,r1,pl,hz⟩:=I1.list sa
   have hl:=pl.isList
   have cY:l<s1.heap.objs.size:=by obtain⟨_,e,_⟩:=hl;exact bg e
   have hzz:aD.toArray.size<=sizeLine:=by simp;rw[<-r1.length];exact hz
   refine call_reversed_list hl (nil ?_)
   have I2:Inv X pins σ H1 { s1 with heap:=s1.heap.push (revObj l ((aD.toArray.size:Int)-1)) }:=I1.kept (t':=s1.toks) fun b o e=>ag _ e
   have W:=fun A hA=>Walks.listRev (prog:=X.prog) (w:=X.w) (A:=A) hA s1.heap.objs.size l (b9 cY) aD.toArray
   refine xV (W _ hh) hzz (fun h st=>let⟨o,ho,hcl,_⟩:=st.2.1;⟨o,ho,hcl⟩) (by decide) (by decide) S1 ⟨Nat.zero_le _,⟨_,bh _ rfl,rfl,by simp [revObj]⟩,hl.push _⟩ (fun b hb=>?_) (by simp) fun h' tk acc cc k hS hacc=>?_
   ·show b<(s1.heap.push _).objs.size
    rw[jm]
    rcases List.mem_cons.mp hb with rfl|hb
    ·exact f9 _
    ·rcases List.mem_cons.mp hb with rfl|hb
     ·exact j0 cY
     ·cases hb
   ·exact fin aD _ h' tk acc cc r1 hz I2 (I1.ED (az _) I1.fresh) k hS hacc
  ·obtain⟨aD,r1,pl,hz⟩:=I1.tuple sa
   have cY:l<s1.heap.objs.size:=by obtain⟨_,e,_⟩:=pl;exact bg e
   have hzz:aD.toArray.size<=sizeLine:=by simp;rw[<-r1.length];exact hz
   have nS:(aD.toArray.size:Int)<2 ^ 63:=by have:=hzz;rw[jh]at this;omega
   refine zP pl nS (nil ?_)
   have I2:Inv X pins σ H1 { s1 with heap:=s1.heap.push (OS l ((aD.toArray.size:Int)-1)),toks:=s1.toks+1+1 }:=I1.kept (t':=s1.toks+1+1) fun b o e=>ag _ e
   have W:=fun A hA=>Walks.Ay (prog:=X.prog) (w:=X.w) (A:=A) hA s1.heap.objs.size l (b9 cY) aD.toArray nS
   refine xV (W _ hh) hzz (fun h st=>let⟨o,ho,hcl,_⟩:=st.2.1;⟨o,ho,hcl⟩) (by decide) (by decide) (U6 hzz) ⟨Nat.zero_le _,⟨_,bh _ rfl,rfl,by simp [OS]⟩,let⟨o,ho,r⟩:=pl;⟨o,ag _ ho,r⟩⟩ (fun b hb=>?_) (by simp) fun h' tk acc cc k hS hacc=>?_
   ·show b<(s1.heap.push _).objs.size
    rw[jm]
    rcases List.mem_cons.mp hb with rfl|hb
    ·exact f9 _
    ·rcases List.mem_cons.mp hb with rfl|hb
     ·exact j0 cY
     ·cases hb
   ·exact fin aD _ h' tk acc cc r1 hz I2 (I1.ED (az _) I1.fresh) k hS hacc
theorem Li (hm:X.mg "list" = none)(hm2:X.mg "reversed" = none)(ha:JA X C sub E [a] [x])(hc:X.calm=true:=by kernel_rfl)(hg:X.env.kindOf "list" = some .globalImplicit:=by kernel_rfl)(hg2:X.env.kindOf "reversed" = some .globalImplicit:=by kernel_rfl)
 (he:ah [.Call (.Name "reversed" p2) [a] [] pos2] X.env=(false,eval (.Call (.Name "reversed" p2) [a] [] pos2) X.env)::ah [] X.env:=by kernel_rfl)(cG:(dh pos (ah [] X.env)).any (·.1)=false:=by kernel_rfl)
 (he2:ah [a] X.env=(false,eval a X.env)::ah [] X.env:=by kernel_rfl)(hpl2:(dh pos2 (ah [] X.env)).any (·.1)=false:=by kernel_rfl):
 JE X C sub E (.Call (.Name "list" p) [.Call (.Name "reversed" p2) [a] [] pos2] [] pos) (.bit .list .rev [x]):=⟨Ga hm hm2 hc ha.h hg hg2 he cG he2 hpl2⟩
end
end L3
end
section
namespace L3
open PySem PySem.Spec PyProof.Rows L2
theorem ZP {K:aa}{h:Heap}{mg:Str->Option Value}(X:K.In h)(G:h.Ns cj mg){n:Str}{i:Int}{t:Tok}(a:gV K cj n=some (some (.int i t))):GC K mg n (.int i):=⟨_,.int i,kq X G a,⟨t,rfl⟩,fun _=>.int i⟩
theorem Eo {K:aa}{h:Heap}{mg:Str->Option Value}(X:K.In h)(G:h.Ns cj mg){n:Str}{x:Str}{w:List Nat}{t:Tok}(a:gV K cj n=some (some (.str x t)))(e:x=⟨w.toArray⟩):GC K mg n (.str w):=⟨_,.str x,kq X G a,⟨t,rfl⟩,fun _=>by rw[e];exact .str w⟩
noncomputable def NF:D->Value->Bool
 |.non,.none=>true
 |.bl b,.bool c=>b==c
 |.int i,.int j _=>i==j
 |.str w,.str x _=>w==x.cps.toList
 |_,_=>false
noncomputable def GU:List D->List Value->Bool
 |[],[]=>true
 |d::ds,u::us=>NF d u&&GU ds us
 |_,_=>false
noncomputable def V8:D->V
 |.bl b=>.bl b
 |.int i=>.int i
 |.str w=>.str ⟨w.toArray⟩
 |_=>.non
theorem SJ {K:aa}{H:Hp}{d:D}{u:Value}(h:NF d u=true):L2.RelV (V8 d) u/\Rep K H d (V8 d):=by
 unfold NF at h
 split at h
 ·exact⟨rfl,.non⟩
 ·exact⟨by rw[eq_of_beq h];rfl,.bl _⟩
 ·exact⟨⟨_,by rw[eq_of_beq h]⟩,.int _⟩
 ·rename_i w x t
  exact⟨⟨t,by rw[eq_of_beq h]⟩,.str w⟩
 ·cases h
theorem IM {K:aa}{H:Hp}:∀{ds:List D}{us:List Value},GU ds us=true->aQ (ds.map V8) us/\aL K H ds (ds.map V8)
 |[],[],_=>⟨.nil,.nil⟩
 |d::ds,u::us,h=>by
  simp only[GU,aq]at h
  have r:=SJ (K:=K) (H:=H) h.1
  have s:=IM (K:=K) (H:=H) h.2
  exact⟨.cons r.1 s.1,.cons r.2 s.2⟩
 |[],_::_,h=>by cases h
 |_::_,[],h=>by cases h
theorem QP {K:aa}{h:Heap}{mg:Str->Option Value}(X:K.In h)(G:h.Ns cj mg){n:Str}{ds:List D}{p:Addr}{aD:Array Value}{k:Nat}{sl:Array (Option Value)}(a:gV K cj n=some (some (.ref p)))
 (l:K.lookup p=some ⟨.type "tuple", none,.seq aD k,sl⟩)(f:GU ds aD.toList=true)(z:Nat.ble aD.size 1000=true):GC K mg n (.tup ds):=by
 refine⟨_,.ref p,kq X G a,rfl,fun H=>?_⟩
 have s:=IM (K:=K) (H:=H) f
 exact .tup (.inr ⟨_,aD,k,l,rfl,rfl,rfl,p8 (OU (Nat.le_of_ble_eq_true z)),s.1⟩) s.2
end L3
end
section
namespace L3
open PySem PySem.Spec PyProof.Rows L2
noncomputable def Ep (hi:Int)(n:Nat):It:=⟨fun i _=>i<n,fun i H x H'=>H'=H/\x=.int (hi-i),fun i _=>n<=i⟩
theorem QG {P:br}{w:World}{K:aa}{tg:Expr}(it:Addr)(lo:Int)(n:Nat):Turn P w K tg (Ep lo n) [it] it (fun i h=>vh h it (lo+(i:Nat)*(-1)) ((n:Int)-(i:Nat)) (-1)) where
 mem:=by simp
 obj:=fun i h st b hb=>by
  have e:b=it:=by simpa using hb
  subst e
  exact⟨_,st,fun v z=>by
   have z':Rf _=Data.cell v:=z
   cases z'⟩
 keep:=fun i h h' st k=>k it (by simp) _ st
 item:=by
  intro X hP hw hK hc i pins s σ H E I hf st hg
  subst hP hw hK
  obtain⟨f0,f1,f2,f3,f4,f5⟩:=hf it (by simp)
  have W:=Rg (prog:=X.prog) (w:=X.w) (I.ok.hd hc) it lo (-1) n
  refine W.item i s _ _ hg st fun v h' tk hv aA kk=>?_
  obtain⟨t,rfl⟩:=hv
  have I1:Inv X pins σ H { s with heap:=h',toks:=tk }:=I.turned (fun b o hb e=>kk b o (by simpa using hb) e) f0 f1 f3 f4 f5
  refine⟨_,rfl,B1 (s:={ s with heap:=h',toks:=tk }) (n :="range_iterator") aA rfl rfl (by decide) ⟨.int (lo-i),H,I1,⟨t,?_⟩,⟨rfl,rfl⟩,aA,fun b hb=>(hf b hb).1⟩⟩
  congr 1;omega
 done:=by
  intro X hP hw hK hc i pins s σ H E I hf st hg
  subst hP hw hK
  obtain⟨f0,f1,f2,f3,f4,f5⟩:=hf it (by simp)
  exact tu (I.ok.hd hc) st (by have:n<=i:=hg;omega) fun h' eb=>⟨rfl,I.turned (t':=s.toks) (fun b o hb e=>eb b o hb e) f0 f1 f3 f4 f5⟩
 self:=fun _ _ _ _ _ st h=>tw st h
theorem UP {K:aa}{H1:Hp}{aC:aB}(lo:Int)(n:Nat):zX K (Ep lo n) [] (oC lo n) H1 aC where
 go:=fun i H st d s ok _ e=>by
  have:=(List.getElem?_eq_some_iff.mp e).1
  show i<n
  simpa [oC]using this
 yld:=fun i H st d x H' s ok _ e ⟨e',h⟩=>by
  subst e' h
  simp only[oC,bb,c9]at e
  obtain⟨k,e1,rfl⟩:=e
  have:k=i:=by
   rw[lq]at e1
   obtain⟨_,e2⟩:=e1
   simp at e2
   exact e2.symm
  subst this
  exact⟨.refl,ok,.int _⟩
 stop:=fun i H st s ok _ l=>by show n<=i;simpa [oC]using l
section
variable {X:Cx}{tg:Expr}
theorem O5 {pins:List (Addr×Obj)}{σ:L2.St}{H:Hp}{s:af}{R:It->Hp->Prop}{E:Value->af->Prop}{lo hi:Int}{t u v:Tok}{tk:Nat}(I:Inv X pins σ H s) (h1 : -(2 ^ 62)<=lo)(h2:lo<2 ^ 62) (h3 : -(2 ^ 62)<=hi)(h4:hi<2 ^ 62)
  (q:R (Ep lo (lo-hi).toNat) H):wpAny (model X.prog X.w) X.A (tq (.ref s.heap.objs.size)) (RF X pins σ tg R) E { s with heap:=s.heap.push { cls:=.type "range", data:=.fields #[.int lo t,.int hi u,.int (-1) v] },toks:=tk }:=by
 refine xg (zg ..) (PySem.W.small_down h1 h2 h3 h4) ?_
 have I1:Inv X pins σ H { s with heap:=s.heap.push { cls:=.type "range", data:=.fields #[.int lo t,.int hi u,.int (-1) v] },toks:=tk }:=I.kept fun b o e=>ag _ e
 refine⟨(s.heap.push { cls:=.type "range", data:=.fields #[.int lo t,.int hi u,.int (-1) v] }).objs.size,[(s.heap.push { cls:=.type "range", data:=.fields #[.int lo t,.int hi u,.int (-1) v] }).objs.size],_,_,H,rfl,
  I1.kept (t':=tk) fun b o e=>ag _ e,QG _ lo (lo-hi).toNat,?_,fun b hb=>?_,q⟩
 ·have e1:lo+((0:Nat):Int)*(-1)=lo:=by simp
  have e2:(((lo-hi).toNat:Nat):Int)-((0:Nat):Int)=r8 lo hi (-1):=by rw[PySem.W.rangeSize_downNat];omega
  show vh _ _ (lo+((0:Nat):Int)*(-1)) ((((lo-hi).toNat:Nat):Int)-((0:Nat):Int)) (-1)
  rw[e1,e2]
  exact bh _ rfl
 ·have e:b=(s.heap.push { cls:=.type "range", data:=.fields #[.int lo t,.int hi u,.int (-1) v] }).objs.size:=by simpa using hb
  subst e
  exact I1.ED (az _) (I1.bS.fresh (az _))
variable {C:bE}{sub:Nat->Nat->Bool}{E:XK}{a b c:Expr}{x y z:Ex}{p pos:Pos}
theorem TB {d d' d'':L3.D}{st:aB}{R:List Nat->List L3.D->Prop}(h:gG (some .range) [d,d',d''] st R):∃ i j c,d=.int i/\d'=.int j/\d''=.int c:=by
 unfold gG at h
 split at h
 all_goals first|(rename_i h1 h2;cases h2;exact⟨_,_,_,rfl,rfl,rfl⟩)|(rename_i h1 h2;cases h2)|(rename_i h1 h2;cases h1)|exact h.elim
theorem Pc (m:bQ C C)(hm:X.mg "range" = none)(ha:JA X C sub E [a,b,c] [x,y,z])(hg:X.env.kindOf "range" = some .globalImplicit:=by kernel_rfl)
  (hs:ah [a,b,c] X.env=[(false,eval a X.env),(false,eval b X.env),(false,eval c X.env)]:=by kernel_rfl)(hs2:ah [b,c] X.env=[(false,eval b X.env),(false,eval c X.env)]:=by kernel_rfl):
  JI X C sub E tg (.Call (.Name "range" p) [a,b,c] [] pos) (some .range) [x,y,z]:=⟨by
 intro pins s σ H R I ⟨σd,st,M,r,ok,q,hq⟩
 refine Call_ (kQ I hg hm HG (di (bB (ha.h pos pins s σ H _ I ⟨σd,st,_,r,ok,nX [x,y,z] m q,fun vs H' z=>z⟩) fun us s1 ⟨vs,H1,I1,rv,ds,aC,dA,aO,rs,l1,q1⟩=>?_) (by rw[hs,hs2]) (by rw[hs2];rfl)))
 obtain⟨d,d',d'',rfl⟩:∃ d d' d'',ds=[d,d',d'']:=by
  match ds,l1 with
  |[d,d',d''],_=>exact⟨d,d',d'',rfl⟩
 have q1:gG (some .range) [d,d',d''] aC fun as xs=>M as xs aC:=q1
 obtain⟨i,j,c,rfl,rfl,rfl⟩:=TB q1
 cases rs with|cons r1 rs=>cases rs with|cons r2 rs=>cases rs with|cons r3 rs =>
  cases rs
  cases r1.int_inv;cases r2.int_inv;cases r3.int_inv
  rw[CD]at q1
  obtain⟨rfl,⟨a1,a2⟩,⟨b1,b2⟩,q1⟩:=q1
  cases rv with|cons v1 rv=>cases rv with|cons v2 rv=>cases rv with|cons v3 rv =>
   cases rv
   obtain⟨t1,rfl⟩:=v1
   obtain⟨t2,rfl⟩:=v2
   obtain⟨t3,rfl⟩:=v3
   exact call_range_3 (by decide) (O5 I1 a1 a2 b1 b2 (hq _ _ ⟨_,_,aC,dA,aO,UP _ _,q1⟩))⟩
end
end L3
end
section
namespace L3
open PySem PySem.Spec PyProof.Rows L2
noncomputable def Z3:D->zw
 |.bl b=>.bool b
 |.int i=>.int i
 |.str w=>.str ⟨w.toArray⟩
 |_=>.none
noncomputable def La:D->Bool
 |.non=>true
 |.bl _=>true
 |.int _=>true
 |.str _=>true
 |_=>false
noncomputable def vJ:List D->List D->List (Str×PyData)
 |.str w::ks,v::vs=>(⟨w.toArray⟩,Z3 v)::vJ ks vs
 |_,_=>[]
noncomputable def VW:List D->List D->Bool
 |[],[]=>true
 |.str _::ks,v::vs=>La v&&VW ks vs
 |_,_=>false
theorem Fq {v:D}(h:La v=true):sA (Z3 v)=v/\oB (Z3 v)=true:=by
 cases v<;>first|exact⟨rfl,rfl⟩|cases h
theorem OX:∀{ks vs:List D},VW ks vs=true->((vJ ks vs).all fun p=>oB p.2)=true/\ks=(vJ ks vs).map (fun p=>.str p.1.cps.toList)/\vs=(vJ ks vs).map (fun p=>sA p.2)
 |[],[],_=>⟨rfl,rfl,rfl⟩
 |.str w::ks,v::vs,h=>by
  simp only[VW,aq]at h
  obtain⟨a,b,c⟩:=OX h.2
  obtain⟨d,e⟩:=Fq h.1
  refine⟨?_,?_,?_⟩
  ·simp only[vJ,om,e,a,dt]
  ·simp only[vJ,aw];rw[<-b]
  ·simp only[vJ,aw,d];rw[<-c]
 |[],_::_,h=>by cases h
 |.str _::_,[],h=>by cases h
 |.non::_,_,h=>by cases h
 |.bl _::_,_,h=>by cases h
 |.int _::_,_,h=>by cases h
 |.tup _::_,_,h=>by cases h
 |.ref _::_,_,h=>by cases h
 |.cV _ _::_,_,h=>by cases h
 |.bI _::_,_,h=>by cases h
 |.exc _::_,_,h=>by cases h
theorem Cg {K:aa}{h:Heap}{mg:Str->Option Value}(X:K.In h)(G:h.Ns cj mg){n:Str}{ks vs:List D}{p:Addr}{es:Array DictEntry}{ep:Nat}(a:gV K cj n=some (some (.ref p)))
 (l:K.lookup p=some ⟨.type "dict", none,.dict es ep,#[]⟩)(f:(KTD.rowsLook rj es.toList (vJ ks vs)&&VW ks vs && !(p==nz))=true):GC K mg n (.cV ks vs):=by
 simp only[aq]at f
 obtain⟨⟨f1,f2⟩,f3⟩:=f
 obtain⟨a1,a2,a3⟩:=OX f2
 refine⟨_,.ref p,kq X G a,rfl,fun H=>.cV ⟨vJ ks vs,?_,a1,a2,a3⟩⟩
 simp only[vp,l,f1,f3]
 rfl
end L3
end
section
namespace L3
open PySem PySem.Spec PyProof.Rows L2 PySem.SeqAt
theorem K6 {β:Type}(n:Nat)(b:β)(f:Nat->β->Sem (ForInStep β)):forIn [0:n] b f=forIn (ng 0 n 1) b f:=by
 rw[Std.Legacy.Range.forIn_eq_forIn_range']
 have mM:([0:n]:zd).size=n:=by simp [Std.Legacy.Range.size]
 show forIn (ng 0 ([0:n]:zd).size 1) b f=_
 rw[mM]
theorem BG {prog:br}{w:World}{A:b7}{E:Value->af->Prop}{s:af}{t:Addr}{items:Array Value}{x:Value}{e:Value->Bool}{j:Nat}{P:Fin->af->Prop}(ht:IsTup s.heap t items)
  (he:∀ y,y∈items->EqAt A s y x (e y))(hj:j<items.size)(hit:e items[j]=true)(hno:∀ m (hm:m<items.size),m<j->e items[m]=false)
  (h:P (.done (.ret (.int j s.toks))) { s with toks:=s.toks+1 }):wpAny (model prog w) A (Builtin.«tuple.index» ⟨[.ref t,x],[]⟩) P E s:=by
 show wpAny _ _ (gk (.ref t) >>= _) _ _ s
 refine ae (wx ht ?_)
 show wpAny _ _ (forIn [0:min items.size items.size] _ _ >>= _) _ _ s
 rw[Nat.min_self,K6]
 refine ae (jk (Q:=fun(b:Option PySem.Fin×Unit) s'=>b.1=some (.done (.ret (.int j s.toks)))/\s' = { s with toks:=s.toks+1 }) (su (β:=Option PySem.Fin×Unit) _ (fun rest b s'=>s'=s/\b.1=none/\∃ i,rest=ng i (items.size-i) 1/\i<=j) _ ?_ ?_ _ _ ⟨rfl,rfl,0,rfl,df _⟩) ?_ fun _ _ z=>z)
 ·rintro i rest b s' ⟨rfl,hb,k,hk,hkj⟩
  have cY:k<items.size:=by omega
  have e1:items.size-k=(items.size-(k+1))+1:=by omega
  rw[e1,ze]at hk
  injection hk with h1 h2
  subst h1
  have hg:items[i]? = some items[i]:=by simp [cY]
  rw[hg]
  show wpAny _ _ (eqBool items[i] x >>= _) _ _ _
  refine ae (he _ (Array.getElem_mem cY) prog w _ _ ?_)
  by_cases hij:i=j
  ·subst hij
   rw[hit]
   exact ae (ae (rf (ao (ao ⟨rfl,rfl⟩))))
  ·rw[hno i cY (by omega)]
   exact ao ⟨rfl,rfl,i+1,h2,by omega⟩
 ·rintro b s' ⟨_,_,i,hi,hij⟩
  have:(ng i (items.size-i) 1).length=0:=by rw[<-hi];rfl
  simp at this
  omega
 ·rintro⟨b1,b2⟩ s' ⟨hb,rfl⟩
  simp only at hb
  subst hb
  exact ao h
end L3
end
section
namespace L3
open PySem PySem.Spec PyProof.Rows L2 PySem.SeqAt
section
variable {X:Cx}
theorem G7 {pins:List (Addr×Obj)}{s:af}{σ:L2.St}{H:Hp}{st:aB}(I:Inv X pins σ H s)(ok:aR X.K st H){ds:List D}{vs:List V}{aD:List Value}{d:D}{v:V}{u:Value}{A:b7}
  (g:aL X.K H ds vs)(r:aQ vs aD)(p:dM st ds)(pd:plainS st d)(rd:Rep X.K H d v)(rv:RelV v u)(hu:A.units+178<cLine):
  ∃ e:Value->Bool,(∀ y,y∈aD.toArray->EqAt A.in1 s y u (e y))/\∀ j (hj:j<aD.length)(hj':j<ds.length),e aD[j]=bO st ds[j] d:=by
 classical
 have hD:kW=80:=rfl
 have item:∀(d':D)(v':V)(y:Value),d'∈ds->Rep X.K H d' v'->RelV v' y->EqAt A.in1 s y u (bO st d' d):=fun d' v' y m r' bH=>by
  have h1:=jD m
  have h2:=p.2
  exact(M0 I ok 80 (by omega) (gK p.1 m) pd.1 r' bH rd rv (by simp only[fh];omega)).2.1
 let e:Value->Bool:=fun y=>decide (∃ d' v',d'∈ds/\Rep X.K H d' v'/\RelV v' y/\bO st d' d=true)
 have he:∀(d':D)(v':V)(y:Value),d'∈ds->Rep X.K H d' v'->RelV v' y->e y=bO st d' d:=fun d' v' y m r' bH=>by
  show decide _=_
  cases q:bO st d' d with
  |true=>exact decide_eq_true ⟨d',v',m,r',bH,q⟩
  |false =>
   refine decide_eq_false fun⟨d2,v2,m2,r2,rv2,q2⟩=>?_
   cases RelV.inj bH rv2
   have:=HP I ok _ (az _) (gK p.1 m) (gK p.1 m2) r' r2
   subst this
   rw[q]at q2;cases q2
 refine⟨e,fun y hy=>?_,fun j hj hj'=>?_⟩
 ·obtain⟨j,hj,rfl⟩:=Array.mem_iff_getElem.mp hy
  obtain⟨v',e1,e2⟩:=aQ.at r hj
  obtain⟨d',e3,e4⟩:=aL.get' g e1
  rw[he d' v' _ (bf e3) e4 e2]
  exact item d' v' _ (bf e3) e4 e2
 ·obtain⟨v',e1,e2⟩:=aQ.at r (by simpa using hj)
  obtain⟨d',e3,e4⟩:=aL.get' g e1
  have e5:ds[j]=d':=(List.getElem?_eq_some_iff.mp e3).2
  rw[e5]
  exact he d' v' _ (bf e3) e4 (by simpa using e2)
theorem vP {st:aB}{d:D}:∀{ds:List D}{j:Nat},findD st d ds=some j->∃ hj:j<ds.length,bO st ds[j] d=true/\∀ m (hm:m<ds.length),m<j->bO st ds[m] d=false
 |[],_,h=>by cases h
 |x::r,j,h=>by
  have h:(if bO st x d=true then some 0 else(findD st d r).map (·+ 1))=some j:=h
  by_cases c:bO st x d=true
  ·rw[if_pos c]at h;cases h
   exact⟨by simp,c,fun m _ hm=>by omega⟩
  ·rw[if_neg c]at h
   obtain⟨k,e,rfl⟩:=Option.map_eq_some_iff.mp h
   obtain⟨h1,h2,h3⟩:=vP e
   refine⟨by simpa using h1,by simpa using h2,fun m hm hl=>?_⟩
   cases m with
   |zero=>simpa using c
   |succ m=>simpa using h3 m (by simpa using hm) (by omega)
theorem index_list {pins:List (Addr×Obj)}{s:af}{σ:L2.St}{H:Hp}{st:aB}{R:VK}{ds:List D}{vs:List V}{d:D}{v:V}{u:Value}{a:Addr}{j:Nat}(hu:X.A.units+180<cLine)(I:Inv X pins σ H s)(ok:aR X.K st H)(f:eH X.K H a vs)(g:aL X.K H ds vs)
  (rd:Rep X.K H d v)(rv:RelV v u)(pd:plainS st d)(ps:dM st ds)(hj:findD st d ds=some j)(q:R (.int (j:Nat)) st):wpAny (model X.prog X.w) X.A (call (.builtin "list.index") [.ref a,u]) (EP X pins σ (QD X.K H st R)) X.xe s:=by
 obtain⟨aD,r1,p1,hz⟩:=I.list f
 obtain⟨e,he,ha⟩:=G7 I ok g r1 ps pd rd rv (A:=X.A) (by omega)
 obtain⟨h1,h2,h3⟩:=vP hj
 have l1:=g.length
 have l2:=r1.length
 have hn:=qN
 obtain⟨⟨cls,dd,data,sl⟩,ho,hc,n,hd⟩:=id p1.isList
 simp only at hc hd
 subst hc hd
 refine mj sy ⟨_,ho,rfl⟩ PySem.F.entry_list_index (PySem.F.args_list_index_2 _ _)
  (list_indexAt a aD.toArray n dd sl u e j (by simp;omega) (by omega) ?_ ?_) ⟨ho,he,?_⟩
 ·show e aD[j]=true
  rw[ha j (by omega) h1];exact h2
 ·intro m hm hl
  have hm:m<aD.length:=by simpa using hm
  show e aD[m]=false
  rw[ha m hm (by omega)];exact h3 m (by omega) hl
 ·exact⟨.int j,H,I.tok _,⟨_,rfl⟩,.here ok (.int _) q⟩
theorem QN {pins:List (Addr×Obj)}{s:af}{σ:L2.St}{H:Hp}{st:aB}{R:VK}{ds:List D}{vs:List V}{d:D}{v:V}{u:Value}{a:Addr}{j:Nat}(hu:X.A.units+180<cLine)(I:Inv X pins σ H s)(ok:aR X.K st H)(f:eI X.K H a vs)(g:aL X.K H ds vs)
  (rd:Rep X.K H d v)(rv:RelV v u)(pd:plainS st d)(ps:dM st ds)(hj:findD st d ds=some j)(q:R (.int (j:Nat)) st):wpAny (model X.prog X.w) X.A (call (.builtin "tuple.index") [.ref a,u]) (EP X pins σ (QD X.K H st R)) X.xe s:=by
 obtain⟨aD,r1,p1,hz⟩:=I.tuple f
 obtain⟨e,he,ha⟩:=G7 I ok g r1 ps pd rd rv (A:=X.A) (by omega)
 obtain⟨h1,h2,h3⟩:=vP hj
 have l1:=g.length
 have l2:=r1.length
 refine fe rz p1.typeIs PySem.F.entry_tuple_index (BG p1 he (j:=j) (by simp;omega) ?_ ?_ ⟨_,rfl,?_⟩) (PySem.F.args_tuple_index_2 _ _)
 ·show e aD[j]=true
  rw[ha j (by omega) h1];exact h2
 ·intro m hm hl
  have hm:m<aD.length:=by simpa using hm
  show e aD[m]=false
  rw[ha m hm (by omega)];exact h3 m (by omega) hl
 ·exact⟨.int j,H,I.tok _,⟨_,rfl⟩,.here ok (.int _) q⟩
end
section
variable {X:Cx}{C:bE}{sub:Nat->Nat->Bool}{E:XK}{e o:Expr}{x y:Ex}{pos apos kE:Pos}
noncomputable def By:D->Bool
 |.tup _=>true
 |_=>false
theorem IP {K:aa}{H:Hp}{st:aB}{d:D}{v:V}{Kk:List Nat->List D->Prop}(ok:aR K st H)(r:Rep K H d v)(h:dP d st Kk):∃ a vs as ds,v=.ref a/\aL K H ds vs/\((By d=false/\eH K H a vs)∨(By d=true/\eI K H a vs))/\Kk as ds:=by
 unfold dP at h
 split at h
 ·obtain⟨a,vs,rfl,f,g⟩:=r.bT
  exact⟨a,vs,_,_,rfl,g,.inr ⟨rfl,f⟩,h⟩
 ·cases r.cI
  obtain⟨ds,e,h⟩:=dU h
  obtain⟨vs,g1,g2⟩:=ok.lst e
  exact⟨_,vs,_,_,rfl,g2,.inl ⟨rfl,eH.of g1⟩,h⟩
 ·obtain⟨a,vs,rfl,f,g⟩:=r.kR
  exact⟨a,vs,_,_,rfl,g,.inl ⟨rfl,f.sq⟩,h⟩
 ·exact h.elim
theorem M3 (m:bQ C C)(hu:X.A.units+180<cLine)(ho:JE X C sub E o x)(ha:JA X C sub E [e] [y])(jR:fw o "index" X.env (eval o X.env)=eval o X.env:=by kernel_rfl)
  (vZ:((dh pos (ah [e] X.env)).all (fun x=>!x.1)&&(ni pos (jx [] X.env)).all (fun x=>x.1.isSome)&&decide ([e].length+([]:List qd).length+(if([]:List qd).isEmpty then 0 else 1)<30))=true:=by kernel_rfl)(jS:(apos.endLine==pos.line)=true:=by kernel_rfl)
  (hs:ah [e] X.env=[(false,eval e X.env)]:=by kernel_rfl):
  JE X C sub E (.Call (.Attribute o "index" apos) [e] [] pos) (.cD .index x [y]):=⟨by
 intro pins s σ H Q I ⟨σd,st,R,r,ok,q,hq⟩
 refine ud jR vZ jS rfl (bB (ho.h pins s σ H _ I ⟨σd,st,_,r,ok,q,fun v H' z=>z⟩) fun v s1 ⟨x1,H1,I1,r1,d1,aC,dA,aO,rd1,q1⟩=>?_)
 obtain⟨rc,q1⟩:=q1
 obtain⟨a,vs,as,ds,rfl,g,ty,-⟩:=IP aO rd1 rc
 cases r1
 have rest:∀ id:String,(∀(s2:af)(H2:Hp)(aF:aB)(d2:D)(v2:V)(u2:Value),Inv X pins σ H2 s2->Step H1 aC H2 aF->aR X.K aF H2->Rep X.K H2 d2 v2->RelV v2 u2->jO .index d1 [d2] aF R->wpAny (model X.prog X.w) X.A (call (.builtin id) [.ref a,u2]) (EP X pins σ (QD X.K H2 aF R)) X.xe s2) ->
   wpAny (model X.prog X.w) X.A (vj pos (.builtin id) [.ref a] (dh pos (ah [e] X.env)) []) (EP X pins σ Q) X.xe s1:=by
  intro id hc
  have hA:=ha.h pos pins s1 σ H1 _ I1 ⟨σd,aC,_,r.step ok dA,aO,nX [y] m q1,fun vs H' z=>z⟩
  rw[hs]at hA ⊢
  refine kh (by rfl) (ot ?_)
  refine bB hA fun us s2 ⟨ws,H2,I2,r2,es,aF,iO,bY,rs2,l2,q2⟩=>?_
  match es,l2,ws,rs2,us,r2 with
  |[d2],_,_,.cons rd2 .nil,_,.cons rv2 .nil =>
   exact bB (hc s2 H2 aF d2 _ _ I2 iO bY rd2 rv2 q2) fun w s3 ⟨v3,H3,I3,r3,z⟩=>⟨v3,H3,I3,r3,hq _ _ (.after (dA.trans iO) z)⟩
 rcases ty with⟨tk,ty⟩|⟨tk,ty⟩
 ·obtain⟨aD,_,p1,_⟩:=I1.list ty
  refine⟨"list","list.index", mz,sy,PySem.F.type_list_index,p1.isList.typeIs,fun b e=>?_,rest _ fun s2 H2 aF d2 v2 u2 I2 iO bY rd2 rv2 q2=>?_⟩
  ·cases e
   obtain⟨o,n,e,c,hd,_⟩:=p1
   exact⟨o,e,hd⟩
  ·obtain⟨a',vs2,as2,ds2,e2,g2,ty2,pd,ps,q2⟩:=IP bY (rd1.step aO iO) q2
   cases e2
   obtain⟨j,hj,q2⟩:=eM q2
   rcases ty2 with⟨tk2,ty2⟩|⟨tk2,ty2⟩
   ·exact index_list hu I2 bY ty2 g2 rd2 rv2 pd ps hj q2
   ·rw[tk]at tk2;cases tk2
 ·obtain⟨aD,_,p1,_⟩:=I1.tuple ty
  refine⟨"tuple","tuple.index", PySem.F.plainAttrs_tuple,rz,PySem.F.type_tuple_index,p1.typeIs,fun b e=>?_,rest _ fun s2 H2 aF d2 v2 u2 I2 iO bY rd2 rv2 q2=>?_⟩
  ·cases e
   exact I1.Jj ty
  ·obtain⟨a',vs2,as2,ds2,e2,g2,ty2,pd,ps,q2⟩:=IP bY (rd1.step aO iO) q2
   cases e2
   obtain⟨j,hj,q2⟩:=eM q2
   rcases ty2 with⟨tk2,ty2⟩|⟨tk2,ty2⟩
   ·rw[tk]at tk2;cases tk2
   ·exact QN hu I2 bY ty2 g2 rd2 rv2 pd ps hj q2⟩
end
end L3
end
section
namespace L3
open PySem PySem.Spec PyProof.Rows L2 PySem.SeqAt
noncomputable def sC (val:Nat->Str):Nat->Nat
 |0=>0
 |i+1=>if((ai i).map val).any (·== val i)then sC val i else sC val i+1
theorem O0 (val:Nat->Str):∀ i,sC val i<=i
 |0=>az _
 |i+1=>by
  have:=O0 val i
  unfold sC
  split<;>omega
section
variable {prog:br}{w:World}{A:b7}{R:Qt->af->Prop}{I:Addr}{fp wr:List Addr}{G:Array zp->Array zp->Prop}{n:Nat}{P:Nat->Value->Prop}{St:Nat->af->Prop}
noncomputable abbrev qF (prog:br)(w:World)(val:Nat->Str)(S:Addr)(i:Nat)(h:Heap):Prop:=h.SetOf (strKind prog w) S (fun k=>((ai i).map val).any (·== k)) (sC val i)
theorem K1 {val:Nat->Str}{S:Addr}{i:Nat}{h:Heap}(x:h.SetOf (strKind prog w) S (fun k'=>((ai i).map val).any (·== k')||decide (k'=val i)) (if((ai i).map val).any (·== val i)then sC val i else sC val i+1)):qF prog w val S (i+1) h:=by
 refine SetOf_congr x (fun k=>?_) rfl
 rw[mh,d5,List.any_append]
 congr 1
 simp only[aw,gz,j3,List.any_nil,wy]
 by_cases e:k=val i
 ·subst e;simp
 ·rw[decide_eq_false e];symm;exact beq_eq_false_iff_ne.mpr fun z=>e z.symm
theorem SW (W:WalksS prog w A.in1 I fp wr G n P St)(S:Addr)(hSf:S∉fp)(val:Nat->Str)(hval:∀ i v,P i v->∃ t,v=.str (val i) t)(hb:n+1<td):
 ∀(k i:Nat)(s:af),n-i=k->i<=n->St i s->qF prog w val S i s.heap->(∀ s',Moved (S::wr) G s s'->qF prog w val S n s'.heap->R (.ok (.ret .none)) s') ->
  kf (model prog w) A (.builtin "set.update.loop" ⟨[.ref S,.ref I],[]⟩) R s:=by
 have hSw:S∉wr:=fun h=>hSf (W.sub _ h)
 have hsub:∀ b∈wr,b∈S::wr:=fun b hb=>cb _ hb
 have keep:∀{i:Nat}{s s':af},qF prog w val S i s.heap->Moved wr G s s'->qF prog w val S i s'.heap:=fun⟨o,es,ep,t,ho,rest⟩ hm=>⟨o,es,ep,t,hm.heap S _ hSw ho,rest⟩
 intro k
 induction k with
 |zero =>
 intro i s hk hi dN hS hR
 obtain rfl:i=n:=by omega
 refine pq lz ?_
 rw[ox i9 _]
 show wpAny _ A.in1 (tm (.ref I) >>= _) _ _ s
 refine ae (W.done s _ _ dN fun s' hm=>?_)
 show wpAny _ A.in1 (ret iq) _ _ s'
 exact ao (hR s' (hm.mono hsub) (keep hS hm))
 |succ k ih =>
 intro i s hk hi dN hS hR
 have cY:i<n:=by omega
 refine pq lz ?_
 rw[ox i9 _]
 show wpAny _ A.in1 (tm (.ref I) >>= _) _ _ s
 refine ae (W.item i s _ _ cY dN fun v s' hP hst' hm=>?_)
 obtain⟨t,rfl⟩:=hval i v hP
 show wpAny _ A.in1 (j4 [yn (val i) t] (setAdd S (.str (val i) t)) >>= _) _ _ s'
 refine ae (jf ?_)
 unfold setAdd
 refine jf (ae ((strKind prog w).pyHash (k:=val i) (xo _ _ _ _) ?_))
 refine wpAny_setAddHashed_of (knd:=strKind prog w) (s:={ s' with toks:=s'.toks+1 }) (xo _ _ _ _) rfl (show qF prog w val S i s'.heap from keep hS hm) (by have:=O0 val i;omega) fun h' hsb hS2=>?_
 refine ao ⟨plainId_quiet i9 _,ih (i+1) _ (by omega) cY (W.frame _ s' _ _ hst' (zh _) fun b hb o e=>?_) (K1 hS2) fun s'' hm'' hS''=>?_⟩
 ·rw[hsb.2 b (fun h:b=S=>hSf (by rw[<-h];exact hb))];exact e
 ·refine hR s'' (Moved.trans W.gtrans ((hm.mono hsub).then_heap (zh _) fun b o hb e=>?_) hm'') hS''
  rw[hsb.2 b (fun h:b=S=>hb (by rw[h];exact cy))];exact e
end
section
variable {prog:br}{w:World}{A:b7}{E:Value->af->Prop}{s:af}
noncomputable abbrev gW (led:Bool):Obj:={ cls:=.type "set", dict:=none,data:=.set #[] 0 (.fresh 0 0 led) }
theorem DQ {l:Addr}{items:Array Value}{val:Nat->Str}{led:Bool}{Q:PySem.Fin->af->Prop}(hh:A.handled=none)(hl:s.heap.IsTuple l items)(hv:∀(i:Nat)(v:Value),items[i]? = some v->∃ t,v=.str (val i) t)(hb:items.size+1<td)
  (h:∀(h':Heap)(tk:Nat),qF prog w val s.heap.objs.size items.size h'->(∀ b o,s.heap.get? b=some o->h'.get? b=some o)->Q (.done (.ret .none)) { s with heap:=h',toks:=tk }):
  wpAny (model prog w) A (Builtin.«set.__init__» ⟨[.ref s.heap.objs.size,.ref l],[]⟩) Q E { s with heap:=s.heap.push (gW led) }:=by
 obtain⟨ol,hol,hcl,nl,hdl⟩:=hl
 obtain⟨ocls,odict,odata,oslots⟩:=ol
 simp only at hcl hdl
 subst hcl;subst hdl
 have hS:(s.heap.push (gW led)).get? s.heap.objs.size=some (gW led):=bh _ rfl
 have hT:Qi { s with heap:=s.heap.push (gW led) } (.ref s.heap.objs.size) "set":=⟨_,hS,rfl⟩
 have hol':(s.heap.push (gW led)).get? l=some { cls:=.type "tuple", dict:=odict,data:=.seq items nl,slots:=oslots }:=ag _ hol
 have hsls:=PySem.F.sub_tuple_set
 have hslf:=PySem.F.sub_tuple_frozenset
 have hne:(fq "tuple" == fq "dict")=false:=by decide
 have hl1:(s.heap.push (gW led)).IsTuple l items:=⟨_,hol',rfl,nl,rfl⟩
 unfold Builtin.«set.__init__» noKeywords Builtin.Frozenset.updateFrom
 generalize hPI:tq=PI
 wp_walk
 subst hPI
 refine qr hl1 ?_
 refine ae (wpAny_runValue ?_)
 have hlS:l<s.heap.objs.size:=bg hol
 have hh3:A.in1.handled=none:=by simp [hh]
 have mM:(s.heap.push (gW led)).objs.size=s.heap.objs.size+1:=jm ..
 have hneI:l≠(s.heap.push (gW led)).objs.size:=by rw[mM];exact b9 (j0 hlS)
 have hSf:s.heap.objs.size∉[(s.heap.push (gW led)).objs.size,l]:=by
  simp only[fz,ee,or_false,not_or]
  exact⟨by rw[mM];exact b9 (f9 _),qa hlS⟩
 refine SW ((Rk hh3 _ l hneI items).toS) s.heap.objs.size hSf val hv hb (items.size-0) 0 _ (by omega) (df _) ⟨?hT1,?hT0⟩ ?hS0 ?hR
 case hT1=>exact⟨_,bh _ rfl,rfl,rfl⟩
 case hT0=>exact⟨_,ag _ hol',rfl,nl,rfl⟩
 case hS0=>exact SetOf_congr ((setObjOf_fresh (knd:=strKind prog w) led).setOf (ag _ hS) (by unfold td;omega)) (fun _=>rfl) rfl
 case hR =>
  intro s' hm hS'
  obtain⟨h',g',d',tk',os'⟩:=s'
  have eg:g'=s.gens:=hm.gens
  have ed:d'=s.drawn:=hm.drawn
  have eo:os'=s.os:=hm.os
  subst eg;subst ed;subst eo
  show wpAny _ _ _ _ _ _
  refine ao ?_
  show wpAny _ _ (ret iq) _ _ _
  refine ao (h h' tk' hS' fun b o e=>?_)
  have hb1:b<s.heap.objs.size:=bg e
  exact hm.heap b o (by simp only[fz,ee,or_false,not_or];exact⟨Nat.ne_of_lt hb1,by rw[mM];exact b9 (j0 hb1)⟩) (ag _ (ag _ e))
set_option maxHeartbeats 6400000 in
theorem IW {l:Addr}{items:Array Value}{val:Nat->Str}{Q:Value->af->Prop}(hh:A.handled=none)(hl:s.heap.IsTuple l items)(hv:∀(i:Nat)(v:Value),items[i]? = some v->∃ t,v=.str (val i) t)(hb:items.size+1<td)
 (h:∀(h':Heap)(tk:Nat),qF prog w val s.heap.objs.size items.size h'->(∀ b o,s.heap.get? b=some o->h'.get? b=some o)->Q (.ref s.heap.objs.size) { s with heap:=h',toks:=tk }):
 wpAny (model prog w) A (call (.type "set") [.ref l]) Q E s:=by
 obtain⟨c,tl,hmro⟩:=PySem.F.called_set.mro
 have hmade:=PySem.F.called_set.made
 have hsub:=PySem.F.called_set.sub
 refine tx (zm ?_)
 show wpAny _ _ (callAny (.type "set") _) _ _ _
 refine ao ⟨Code.quiet_builtin _ (by decide +kernel),pq PySem.F.entry_type_call ?_⟩
 rw[Around.under_plain (weight_type_call_type "set" [.ref l] []) rfl]
 have h1:=PySem.F.called_set.notType
 have h2:=PySem.F.called_set.canCreate
 have hct:=PySem.F.typeCall_set_1 (.ref l)
 repeat (any_goals (first|assumption|wp_step))
 refine kg (code_set_new_1 (.ref l) (E:=E) (Q₁:=fun obj s₁=>∃ led:Bool,obj=.ref s.heap.objs.size/\s₁ = { s with heap:=s.heap.push (gW led) }) fun led=>⟨led,rfl,rfl⟩) fun r s₁ hr=>?_
 cases r with
 |error e=>exact hr
 |ok fl =>
 cases fl with
 |ret obj =>
  obtain⟨led,rfl,rfl⟩:=hr
  have hT:Qi { s with heap:=s.heap.push (gW led) } (.ref s.heap.objs.size) "set":=⟨_,bh _ rfl,rfl⟩
  have hli:=PySem.F.called_set.init.lookup
  have hbi:=PySem.F.called_set.init.bind (.ref s.heap.objs.size)
  repeat (any_goals (first|assumption|wp_step))
  refine kg (codeAny_call_builtin (R:=wants (fun r s₂=>r=.none/\∃ h' tk,s₂ = { s with heap:=h',toks:=tk }/\qF prog w val s.heap.objs.size items.size h'/\(∀ b o,s.heap.get? b=some o->h'.get? b=some o)) E) PySem.F.called_set.init.plain PySem.F.entry_set_init (check_set_init_1 hT ?_)) fun r₂ s₂ hr₂=>?_
  ·exact DQ (by simp [hh]) hl hv hb fun h' tk hS hk=>⟨rfl,h',tk,rfl,hS,hk⟩
  ·cases r₂ with
  |error e=>exact hr₂
  |ok fl₂ =>
   cases fl₂ with
   |ret r =>
   obtain⟨rfl,h',tk,rfl,hS',hk'⟩:=hr₂
   repeat (any_goals (first|assumption|wp_step))
   exact h _ _ hS' hk'
   |_=>exact hr₂.elim
 |_=>exact hr.elim
end
end L3
end
section
namespace L3
open PySem PySem.Spec PyProof.Rows L2 PySem.SeqAt
noncomputable abbrev nK (ws:List (List Nat))(i:Nat):Str:=⟨(ws.getD i []).toArray⟩
theorem Rz (a b:List Nat):((⟨a.toArray⟩:Str)==⟨b.toArray⟩)=(a==b):=by
 by_cases h:a=b
 ·subst h;simp
 ·rw[beq_eq_false_iff_ne.mpr h]
  refine beq_eq_false_iff_ne.mpr fun e=>h ?_
  have e1:a.toArray=b.toArray:=congrArg Sa e
  simpa using e1
theorem O7 (ws:List (List Nat)):∀(rest seen:List (List Nat)),ws=seen++rest->sC (nK ws) seen.length+wR seen rest=sC (nK ws) ws.length
 |[],seen,h=>by simp [h,wR]
 |w::r,seen,h=>by
  have ih:=O7 ws r (seen++[w]) (by simp [h])
  rw[<-ih]
  have e1:nK ws seen.length=⟨w.toArray⟩:=by simp [nK,h]
  have e2:((ai seen.length).map (nK ws)).any (·== nK ws seen.length)=seen.any (·== w):=by
   have e3:(ai seen.length).map (nK ws)=seen.map fun x=>(⟨x.toArray⟩:Str):=by
    refine List.ext_getElem (by simp) fun i h1 h2=>?_
    have hi:i<seen.length:=by simpa using h1
    simp [nK,h,bu hi,aj hi]
   rw[e3,e1,ki]
   congr 1
   funext x
   exact Rz x w
  simp only[bq,bj,bc,wR]
  have e5:sC (nK ws) (seen.length+1)=if seen.any (·== w)=true then sC (nK ws) seen.length else sC (nK ws) seen.length+1:=by rw[<-e2];rfl
  show _=sC (nK ws) (seen.length+1)+_
  rw[e5]
  by_cases c:seen.any (·== w)=true
  ·rw[if_pos c,if_pos c];omega
  ·rw[if_neg c,if_neg c];omega
theorem GG {K:aa}{H:Hp}:∀{ds:List D}{ws:List (List Nat)}{vs:List V}{us:List Value},strsOf ds=some ws->aL K H ds vs->aQ vs us->us.length=ws.length/\∀(i:Nat)(v:Value),us[i]? = some v->∃ t,v=.str (nK ws i) t
 |[],ws,_,_,h,.nil,.nil=>by cases h;exact⟨rfl,fun i v e=>by simp at e⟩
 |.str w::r,ws,_,_,h,.cons rd rs,.cons rv rvs=>by
  have h:(strsOf r).map (w :: ·)=some ws:=h
  obtain⟨ws',e,rfl⟩:=Option.map_eq_some_iff.mp h
  obtain⟨l,ih⟩:=GG e rs rvs
  refine⟨by simpa using l,fun i v e=>?_⟩
  cases i with
  |zero =>
   cases rd.str_inv
   obtain⟨t,rfl⟩:=rv
   simp at e
   exact⟨t,e.symm⟩
  |succ i=>exact ih i v (by simpa using e)
 |.non::_,_,_,_,h,_,_=>by cases h
 |.bl _::_,_,_,_,h,_,_=>by cases h
 |.int _::_,_,_,_,h,_,_=>by cases h
 |.tup _::_,_,_,_,h,_,_=>by cases h
 |.ref _::_,_,_,_,h,_,_=>by cases h
 |.cV _ _::_,_,_,_,h,_,_=>by cases h
 |.bI _::_,_,_,_,h,_,_=>by cases h
 |.exc _::_,_,_,_,h,_,_=>by cases h
theorem Ov {a b:D}{r:List D}{st:aB}{Q:VK}(h:gP .rS (a::b::r) st Q):False:=by
 unfold gP at h
 split at h<;>simp_all
section
variable {X:Cx}{C:bE}{sub:Nat->Nat->Bool}{E:XK}{a:Expr}{x:Ex}{p p2 pos pos2:Pos}
theorem Pm (hm:X.mg "len" = none)(hm2:X.mg "set" = none)(ha:JA X C sub E [a] [x])(hc:X.calm=true:=by kernel_rfl)(hg:X.env.kindOf "len" = some .globalImplicit:=by kernel_rfl)(hg2:X.env.kindOf "set" = some .globalImplicit:=by kernel_rfl)
  (he:ah [.Call (.Name "set" p2) [a] [] pos2] X.env=(false,eval (.Call (.Name "set" p2) [a] [] pos2) X.env)::ah [] X.env:=by kernel_rfl)(cG:(dh pos (ah [] X.env)).any (·.1)=false:=by kernel_rfl)
  (he2:ah [a] X.env=(false,eval a X.env)::ah [] X.env:=by kernel_rfl)(hpl2:(dh pos2 (ah [] X.env)).any (·.1)=false:=by kernel_rfl):
  JE X C sub E (.Call (.Name "len" p) [.Call (.Name "set" p2) [a] [] pos2] [] pos) (.bi .rS [x]):=⟨by
 intro pins s σ H Q I ⟨σd,st,R,r,ok,q,hq⟩
 refine dm (kQ I hg hm fB ?_ (by decide) (by decide))
 rw[he]
 refine kh (by show(false||(dh pos (ah [] X.env)).any (·.1))=false;rw[cG];rfl) (ot ?_)
 show wpAny _ _ (wb ((false,eval (.Call (.Name "set" p2) [a] [] pos2) X.env)::dh pos (ah [] X.env))) _ _ s
 refine gx ?_
 refine dm (kQ I hg2 hm2 Aq ?_ (by decide) (by decide))
 refine di (bB (ha.h pos2 pins s σ H _ I ⟨σd,st,_,r,ok,q,fun vs H' z=>z⟩) fun us s1 ⟨vs,H1,I1,rv,ds,aC,dA,aO,rs,q1⟩=>?_) he2 hpl2
 match ds,rs,q1 with
 |[d],rs,q1 =>
  obtain⟨v,rfl,rd⟩:=rs.one
  obtain⟨u,rfl,ru⟩:=vals1 rv
  cases d with
  |tup es =>
   rw[FR]at q1
   obtain⟨ws,e1,hl,q1⟩:=eM q1
   obtain⟨l,vs,rfl,f,g⟩:=rd.bT
   cases ru
   obtain⟨aD,r1,pl,hz⟩:=I1.tuple f
   obtain⟨hlen,hat⟩:=GG e1 g r1
   have hh:X.A.handled=none:=I1.ok.hd hc
   refine IW (val:=nK ws) hh (show s1.heap.IsTuple l aD.toArray from pl) (fun i v e=>hat i v (by simpa using e)) (by simp;unfold td;omega) fun h' tk hS hk=>?_
   refine kv ?_
   have I2:Inv X pins σ H1 { s1 with heap:=h',toks:=tk }:=I1.kept hk
   obtain⟨o,es',ep,t,ho,hex,hd,hel,hmem,hb,hf,hn⟩:=hS
   refine call_len_set (s:={ s1 with heap:=h',toks:=tk }) ho hex hd hf (by unfold td at hb;omega) ?_
   have hn2:es'.size=wR [] ws:=by
    rw[hn]
    have:=O7 ws ws [] rfl
    simp only[bc,sC,uj]at this
    rw[this]
    simp [hlen]
   rw[hn2]
   exact⟨.int (wR [] ws:Nat),H1,I2.tok _,⟨_,rfl⟩,hq _ _ (.after dA (.here aO (.int _) q1))⟩
  |ref b =>
   obtain⟨_,_,z⟩:=dU (show cF aC b fun xs=>eR .rS xs aC R from q1)
   exact(show False from z).elim
  |_=>exact(show False from q1).elim
 |[],rs,q1=>exact(show False from q1).elim
 |_::_::_,rs,q1=>exact(Ov q1).elim⟩
end
end L3
end
section
namespace L3
open PySem PySem.Spec PyProof.Rows L2
theorem nE.oX {X:Cx}{C:bE}{n:Str}{i:Nat}{scope:Scope}{own cn:List Str}{fp:List Addr}{s:af}{H:Hp}{Ca:Addr}(h:nE X C n i):nE (mI X scope own cn fp s H Ca) C n i:=let⟨a,b⟩:=h;⟨a,b⟩
end L3
end
section
namespace L3
open PySem PySem.Spec PyProof.Rows L2
section
variable {K:aa}{H:Hp}
theorem str_inj {a b:List Nat}(h:(⟨a.toArray⟩:Str)=⟨b.toArray⟩):a=b:=by
 have:a.toArray=b.toArray:=congrArg Sa h
 simpa using this
theorem iG.get {f:List Nat}{d:D}:∀{fs:List (List Nat×D)}{ws:List (Str×V)},iG K H fs ws->cA fs f=some d->∃ v,ws.lookup (⟨f.toArray⟩:Str)=some v/\Rep K H d v
 |[],_,_,h=>by cases h
 |(g,e)::fs,[],r,_=>by cases r.1
 |(g,e)::fs,(g',v)::ws,r,h=>by
  obtain⟨r1,r2⟩:=r
  simp only[aw,uy]at r1
  cases r2 with
  |cons rd rs =>
   simp only[cA]at h
   by_cases q:g=f
   ·rw[if_pos q]at h;cases h
    refine⟨v,?_,rd⟩
    simp [gr,r1.1,q]
   ·rw[if_neg q]at h
    obtain⟨v',e1,e2⟩:=iG.get (fs:=fs) (ws:=ws) ⟨r1.2,rs⟩ h
    refine⟨v',?_,e2⟩
    have:((⟨f.toArray⟩:Str)==g')=false:=beq_eq_false_iff_ne.mpr fun z=>q (str_inj (by rw[z];exact r1.1.symm))
    simp only[gr,this]
    exact e1
theorem iG.no {f:List Nat}:∀{fs:List (List Nat×D)}{ws:List (Str×V)},iG K H fs ws->cA fs f=none->ws.lookup (⟨f.toArray⟩:Str)=none
 |[],[],_,_=>rfl
 |[],_::_,r,_=>by cases r.1
 |(g,e)::fs,[],r,_=>by cases r.1
 |(g,e)::fs,(g',v)::ws,r,h=>by
  obtain⟨r1,r2⟩:=r
  simp only[aw,uy]at r1
  cases r2 with
  |cons rd rs =>
   simp only[cA]at h
   by_cases q:g=f
   ·rw[if_pos q]at h;cases h
   ·rw[if_neg q]at h
    have:((⟨f.toArray⟩:Str)==g')=false:=beq_eq_false_iff_ne.mpr fun z=>q (str_inj (by rw[z];exact r1.1.symm))
    simp only[gr,this]
    exact iG.no (fs:=fs) (ws:=ws) ⟨r1.2,rs⟩ h
theorem iG.put {f:List Nat}{d:D}{v:V}(rd:Rep K H d v):∀{fs:List (List Nat×D)}{ws:List (Str×V)},iG K H fs ws->iG K H (qP f d fs) (iT ⟨f.toArray⟩ v ws)
 |[],[],_=>⟨rfl,.cons rd .nil⟩
 |[],_::_,r=>by cases r.1
 |(g,e)::fs,[],r=>by cases r.1
 |(g,e)::fs,(g',v')::ws,r=>by
  obtain⟨r1,r2⟩:=r
  simp only[aw,uy]at r1
  cases r2 with
  |cons rd' rs =>
   by_cases q:g=f
   ·have q':g'=(⟨f.toArray⟩:Str):=by rw[r1.1,q]
    simp only[qP,iT,if_pos q,if_pos q']
    exact⟨by simp [r1.1,r1.2],.cons rd rs⟩
   ·have q':¬g'=(⟨f.toArray⟩:Str):=fun z=>q (str_inj (r1.1.symm.trans z))
    simp only[qP,iT,if_neg q,if_neg q']
    have ih:=iG.put (f:=f) rd (fs:=fs) (ws:=ws) ⟨r1.2,rs⟩
    exact⟨by simp [r1.1,ih.1],.cons rd' ih.2⟩
theorem iG.length {fs:List (List Nat×D)}{ws:List (Str×V)}(r:iG K H fs ws):ws.length=fs.length:=by
 have:=congrArg zi r.1
 simpa using this
end
theorem xO {st:aB}{a:Nat}{P:List Nat->List (List Nat×D)->Prop}(h:nB st a P):∃ c fs,st a=some (.ins c fs)/\P c fs:=by
 unfold nB at h
 split at h
 ·exact⟨_,_,by assumption,h⟩
 ·exact h.elim
theorem xT {st:aB}{a:Nat}{P:List D->List D->Prop}(h:tabAt st a P):∃ c fs,st a=some (.tab c fs)/\P c fs:=by
 unfold tabAt at h
 split at h
 ·exact⟨_,_,by assumption,h⟩
 ·exact h.elim
theorem SF {c f:List Nat}{x:D}{st:aB}{Q:VK}(h:pW c f x st Q):∃ a fs d,x=.ref a/\st a=some (.ins c fs)/\cA fs f=some d/\Q d st:=by
 unfold pW at h
 split at h
 ·obtain⟨c',fs,e,rfl,q⟩:=xO h
  obtain⟨d,e1,q⟩:=eM q
  exact⟨_,fs,d,rfl,e,e1,q⟩
 ·exact h.elim
theorem XG {c f:List Nat}{v x:D}{st:aB}{Q:aB->Prop}(h:BW c f v x st Q):∃ a fs,x=.ref a/\st a=some (.ins c fs)/\fs.length<900/\Q (put st a (.ins c (qP f v fs))):=by
 unfold BW at h
 split at h
 ·obtain⟨c',fs,e,rfl,l,q⟩:=xO h
  exact⟨_,fs,rfl,e,l,q⟩
 ·exact h.elim
theorem TH {c m:List Nat}{x:D}{st:aB}(h:DU c m x st):∃ a fs,x=.ref a/\st a=some (.ins c fs)/\cA fs m=none:=by
 unfold DU at h
 split at h
 ·obtain⟨c',fs,e,rfl,q⟩:=xO h
  exact⟨_,fs,rfl,e,q⟩
 ·exact h.elim
structure uO (K:aa)(c:List Nat):Prop where
 h:∃ C,clsAt K c C/\uD K C
structure qV (K:aa)(c f:List Nat):Prop where
 h:∀ C,clsAt K c C->rE K C ⟨f.toArray⟩
structure oZ (X:Cx)(C:bE)(c:List Nat)(n:Str)(fid:Nat):Prop where
 h:∃ k f fd ps C0,fF X.prog X.w X.K X.mg X.base dH k f fd ps (fO X.K C fid)/\cX k X.A/\Binds X.K fd ps []/\clsAt X.K c C0/\uD X.K C0/\EC X.K C0 n f
structure xA (X:Cx)(C:bE)(c:List Nat)(n:Str)(fid:Nat):Prop where
 h:∃ k f fd ps C0,fF X.prog X.w X.K X.mg X.base dH k f fd ps (fO X.K C fid)/\cX (k+1) X.A/\Binds X.K fd ps []/\clsAt X.K c C0/\X.mg n=some (.ref C0)/\Mk X.K C0 f
theorem oZ.oX {X:Cx}{C:bE}{c:List Nat}{n:Str}{i:Nat}{scope:Scope}{own cn:List Str}{fp:List Addr}{s:af}{H:Hp}{Ca:Addr}(h:oZ X C c n i):oZ (mI X scope own cn fp s H Ca) C c n i:=let⟨a,b⟩:=h;⟨a,b⟩
section
variable {X:Cx}{C:bE}{sub:Nat->Nat->Bool}{E:XK}{a b e o value:Expr}{es:List Expr}{x y:Ex}{xs:List Ex}{p pos apos pos':Pos}{n:Str}{c f:List Nat}{fid:Nat}
theorem Jw (hn:n=⟨f.toArray⟩)(hc:uO X.K c)(hna:qV X.K c f)(ho:PE X o (bW X.K (aI C sub E x)))(hb:fw o n X.env (eval o X.env)=eval o X.env):PE X (.Attribute o n pos) (bW X.K (aI C sub E (.fld c f x))) :=
 (Z9 ho hb).imp fun σ H Q ⟨σd,st,R,r,ok,q,hq⟩=>by
 refine⟨σd,st,_,r,ok,q,fun v H1 ⟨d,aC,s1,aO,r1,q1⟩=>?_⟩
 obtain⟨a,fs,d',rfl,e,ed,q1⟩:=SF q1
 cases r1.cI
 obtain⟨C0,dx,ws,h1,h2,h3⟩:=aO a _ e
 obtain⟨v,l,rv⟩:=iG.get h3 ed
 obtain⟨C',c1,c2⟩:=hc.h
 have eC:=c1.inj h1
 subst eC
 exact⟨a,C',dx,ws,v,rfl,h2,c2,by rw[hn];exact hna.h C' c1,by rw[hn];exact l,hq _ _ (.after s1 (.here aO rv q1))⟩
theorem Iv (hC:bQ C C)(hn:n=⟨f.toArray⟩)(hc:uO X.K c)(hna:qV X.K c f)(ho:PE X o (bW X.K (aI C sub EF y)))(hv:PE X value (bW X.K (aI C sub EF x)))(hs:lb value (some (.Attribute o n pos')) pos.line X.env=pure false):
 PS X (.Assign [.Attribute o n pos'] value pos) (iD X.K (wpS C sub (.asg (.fl c f y) x))) :=
 (Z7 ho hv hs).imp fun D σ H ⟨σd,st,P,r,ok,q,h⟩=>by
 refine⟨σd,st,_,r,ok,rK hC h.ex q,fun v H1 ⟨d,aC,s1,aO,rd,q1⟩=>?_⟩
 refine⟨σd,aC,_,r.step ok s1,aO,rK hC h.ex q1,fun u H2 ⟨d2,aF,s2,bY,r2,q2⟩=>?_⟩
 obtain⟨a,fs,rfl,e,l,q2⟩:=XG q2
 cases r2.cI
 obtain⟨C0,dx,ws,h1,h2,h3⟩:=bY a _ e
 obtain⟨C',c1,c2⟩:=hc.h
 have eC:=c1.inj h1
 subst eC
 have s3:Step H2 aF (upd H2 a (.ins C' dx (iT n v ws))) (put aF a (.ins c (qP f d fs))):=lV e
 have rd2:=(rd.step aO s2).step bY s3
 have h3':iG X.K (upd H2 a (.ins C' dx (iT n v ws))) fs ws:=⟨h3.1,h3.2.step bY s3⟩
 refine⟨a,C',dx,ws,rfl,h2,c2,by rw[hn];exact hna.h C' c1,by rw[h3.length];omega,h.nx _ _ _ _ (((r.step ok s1).step aO s2).step bY s3) ((s1.trans s2).trans s3) (bY.J1 e ?_) q2⟩
 exact⟨C',dx,_,c1,dF,by rw[hn]at *;exact iG.put rd2 h3'⟩
theorem Hi {k:Nat}{fa:Addr}{fd:gj}{ps:List Str}{C0:Addr}{pl:Sem Bool}{m:List Nat}(hn:n=⟨m.toArray⟩)(hcl:clsAt X.K c C0)(hC0:uD X.K C0)(hm:EC X.K C0 n fa)(F:fF X.prog X.w X.K X.mg X.base dH k fa fd ps (fO X.K C fid))(hr:cX k X.A)(hb:Binds X.K fd ps [])
 (ho:PE X o (bW X.K (aI C sub EF x)))(ha:PA X (e::es) (kD X.K (bL C sub EF xs)))
 (dN:ah (e::es) X.env=(false,eval e X.env)::ah es X.env)(cG:(dh pos (ah es X.env)).any (·.1)=false)
 (ht:eval (.Call (.Attribute o n apos) (e::es) [] pos) X.env=(do
  let ov <-eval o X.env
  p9 apos.atName
  let(f,first) <-j4 [ov] (se ov n pl)
  vj pos f first (dh pos (ah (e::es) X.env)) (ni pos (jx [] X.env)))):
 PE X (.Call (.Attribute o n apos) (e::es) [] pos) (bW X.K (aI C sub EF (.mcl c m fid x xs))) :=
 (YD (pl:=pl) ho hC0 hm F hr hb .nil GQ ha dN cG ht).imp fun σ H Q ⟨σd,st,R,r,ok,q,hq⟩=>by
 refine⟨σd,st,_,r,ok,q,fun v H1 ⟨d,aC,s1,aO,r1,q1,q2⟩=>?_⟩
 obtain⟨a,fs,rfl,e0,l⟩:=TH q1
 cases r1.cI
 obtain⟨C1,dx,ws,h1,h2,h3⟩:=aO a _ e0
 cases hcl.inj h1
 refine⟨a,dx,ws,rfl,h2,by rw[hn];exact iG.no h3 l,?_⟩
 refine⟨σd,aC,_,r.step ok s1,aO,q2,fun vs H2 ⟨ds,aF,s2,bY,r2,q3⟩=>?_⟩
 show fO X.K C fid (.ref a::(vs++[])) H2 Q E0
 rw[el]
 exact⟨.ref a::ds,aF,R,.cons (.ref a) r2,bY,q3,fun v H' z=>hq _ _ (.after (s1.trans s2) z)⟩
theorem Me {k:Nat}{fa:Addr}{fd:gj}{ps:List Str}{C0:Addr}(hcl:clsAt X.K c C0)(hM:Mk X.K C0 fa)(F:fF X.prog X.w X.K X.mg X.base dH k fa fd ps (fO X.K C fid))(hr:cX (k+1) X.A)(hg:Gl X n)(hmg:X.mg n=some (.ref C0))(hb:Binds X.K fd ps [])
 (ha:PA X (e::es) (kD X.K (bL C sub EF xs)))(hdb:(n==("__debug__" : Str))=false)(he:ah (e::es) X.env=(false,eval e X.env)::ah es X.env)(cG:(dh pos (ah es X.env)).any (·.1)=false):
 PE X (.Call (.Name n p) (e::es) [] pos) (bW X.K (aI C sub EF (.mk c fid xs))) :=
 (XI hM F hr hg hmg hb .nil GQ ha hdb he cG).imp fun σ H Q ⟨σd,st,R,r,ok,q,hq⟩=>by
 refine⟨σd,st,_,r,ok,q,fun vs H1 ⟨ds,aC,s1,aO,r1,q1⟩=>?_⟩
 intro x dx hx hdx hne
 show fO X.K C fid (.ref x::(vs++[])) _ _ E0
 rw[el]
 have bY:aR X.K aC (upd H1 dx (.own x)):=aO.new hdx
 have s2:Step H1 aC (upd H1 dx (.own x)) aC:=rA hdx
 have hx2:upd H1 dx (.own x) x=none:=by rw[bG (jc hne)];exact hx
 have s3:Step (upd H1 dx (.own x)) aC (upd (upd H1 dx (.own x)) x (.ins C0 dx [])) (put aC x (.ins c [])):=oY hx2
 have pL:aR X.K (put aC x (.ins c [])) (upd (upd H1 dx (.own x)) x (.ins C0 dx [])):=bY.Et hx2 ⟨C0,dx,[],hcl,dF,rfl,.nil⟩
 refine⟨.ref x::ds,put aC x (.ins c []),_,.cons (.ref x) ((r1.step aO s2).step bY s3),pL,q1 x (aO.fresh hx),fun v H' ⟨d,aA,s',fK,rd,ed,q'⟩=>?_⟩
 subst ed
 exact⟨rd.fP,hq _ _ (.after ((s1.trans s2).trans (s3.trans s')) (.here fK (.ref x) q'))⟩
theorem jU (c:List Nat)(hc:uO X.K c)(hna:qV X.K c f)(ho:JE X C sub E o x)(hn:n=⟨f.toArray⟩:=by kernel_rfl)(hb:fw o n X.env (eval o X.env)=eval o X.env:=by kernel_rfl):JE X C sub E (.Attribute o n pos) (.fld c f x):=⟨Jw hn hc hna ho.h hb⟩
theorem zS (m:bQ C C)(c:List Nat)(hc:uO X.K c)(hna:qV X.K c f)(ho:JE X C sub EF o y)(hv:JE X C sub EF value x)(hn:n=⟨f.toArray⟩:=by kernel_rfl)(hs:lb value (some (.Attribute o n pos')) pos.line X.env=pure false:=by kernel_rfl):
 JS X C sub (.Assign [.Attribute o n pos'] value pos) (.asg (.fl c f y) x):=⟨Iv m hn hc hna ho.h hv.h hs⟩
theorem CY {pl:Sem Bool}{mm:List Nat}(h:oZ X C c n fid)(ho:JE X C sub EF o x)(ha:JA X C sub EF (e::es) xs)(hn:n=⟨mm.toArray⟩:=by kernel_rfl)
 (dN:ah (e::es) X.env=(false,eval e X.env)::ah es X.env:=by kernel_rfl)(cG:(dh pos (ah es X.env)).any (·.1)=false:=by kernel_rfl)
 (ht:eval (.Call (.Attribute o n apos) (e::es) [] pos) X.env=(do
  let ov <-eval o X.env
  p9 apos.atName
  let(f,first) <-j4 [ov] (se ov n pl)
  vj pos f first (dh pos (ah (e::es) X.env)) (ni pos (jx [] X.env))):=by rfl):
 JE X C sub EF (.Call (.Attribute o n apos) (e::es) [] pos) (.mcl c mm fid x xs):=⟨let⟨k,f,fd,ps,C0,h1,h2,h3,h4,h5,h6⟩:=h.h;Hi hn h4 h5 h6 h1 h2 h3 ho.h ha.h dN cG ht⟩
theorem ZR (h:xA X C c n fid)(ha:JA X C sub EF (e::es) xs)(hg:X.env.kindOf n=some .globalImplicit:=by kernel_rfl)(hdb:(n==("__debug__" : Str))=false:=by kernel_rfl)(he:ah (e::es) X.env=(false,eval e X.env)::ah es X.env:=by kernel_rfl)(cG:(dh pos (ah es X.env)).any (·.1)=false:=by kernel_rfl):
 JE X C sub EF (.Call (.Name n p) (e::es) [] pos) (.mk c fid xs):=⟨let⟨k,f,fd,ps,C0,h1,h2,h3,h4,h5,h6⟩:=h.h;Me h4 h6 h1 h2 hg h5 h3 ha.h hdb he cG⟩
end
end L3
end
section
namespace L3
open PySem PySem.Spec PyProof.Rows L2
section
variable {X:Cx}{pins:List (Addr×Obj)}{σ:L2.St}{H:Hp}{s:af}{st:aB}
mutual
theorem HJ (I:Inv X pins σ H s):∀{d:D}{v:V}{u:Value},iX d=true->Rep X.K H d v->RelV v u->jC s.heap d u
 |_,_,u,_,.str x,rv=>by obtain⟨tk,rfl⟩:=rv;exact .str x tk
 |_,_,u,t,.tup h r,rv=>by
  cases rv
  obtain⟨aD,r1,⟨o,e,c,n,d⟩,_⟩:=I.tuple h
  exact .tup e c d (by simpa using ME I (by simpa [iX]using t) r r1)
 |_,_,_,t,.non,_=>by cases t
 |_,_,u,_,.bl b,rv=>by cases rv;exact .bl b
 |_,_,_,t,.int _,_=>by cases t
 |_,_,_,t,.ref _,_=>by cases t
 |_,_,_,t,.bI _ _,_=>by cases t
 |_,_,_,t,.cV _,_=>by cases t
theorem ME (I:Inv X pins σ H s):∀{ds:List D}{vs:List V}{us:List Value},jM ds=true->aL X.K H ds vs->aQ vs us->fW s.heap ds us
 |_,_,_,_,.nil,rv=>by cases rv;exact .nil
 |_,_,_,t,.cons h r,rv=>by
  simp only[jM,aq]at t
  cases rv with
  |cons r1 r2=>exact .cons (HJ I t.1 h r1) (ME I t.2 r r2)
end
theorem key_is (I:Inv X pins σ H s){d:D}{v:V}{u:Value}(k:keyed d)(r:Rep X.K H d v)(rv:RelV v u):∃ a,u=.ref a/\v=.ref a/\(yZ X.prog X.w).is s.heap d a:=by
 have h:=HJ I k.txt r rv
 cases d with
 |tup ds =>
 obtain⟨a,vs,rfl,_,_⟩:=r.bT
 cases rv
 exact⟨a,rfl,rfl,k,h⟩
 |_=>exact k.elim
theorem G8 (I:Inv X pins σ H s)(ok:aR X.K st H){a:Addr}{ks vs:List D}(e:st a=some (.tab ks vs)):∃(xs:List (D×Addr×Value))(ws:List V),H a=some (KI a xs)/\(a==nz)=false/\xs.map (·.1)=ks/\(∀ x∈xs,keyed x.1)/\aQ ws (xs.map (·.2.2))/\aL X.K H vs ws/\aL X.K H ks (xs.map fun x=>.ref x.2.1) /\
  s.heap.DictOfH (yZ X.prog X.w) a xs:=by
 obtain⟨xs,ws,q,q0,q1,q2,q3,q4,q5,r⟩:=ok a _ e
 refine⟨xs,ws,q,q0,q1,q4,q5,r,q3,?_⟩
 obtain⟨⟨o,es,ep,h1,h2,h3,h4⟩,_⟩:=I.bS a _ q
 refine⟨o,es,ep,h1,h2,h3,h4,fun x hx=>?_,q2⟩
 obtain⟨j,hj⟩:=List.mem_iff_getElem?.mp hx
 have e1:ks[j]? = some x.1:=by rw[<-q1,bb,hj];rfl
 obtain⟨v,e2,rv⟩:=q3.get e1
 have e3:v=.ref x.2.1:=by
  rw[bb,hj]at e2
  exact(cz e2).symm
 subst e3
 exact⟨q4 x hx,HJ I (q4 x hx).txt rv rfl⟩
theorem Q4 {xs:List (D×Addr×Value)}{k:D}(kk:keyed k)(h:∀ x∈xs,keyed x.1):(atKey xs k).isSome=(xs.map (·.1)).any fun y=>bN y k:=by
 induction xs with
 |nil=>rfl
 |cons x xs ih =>
 have ih:=ih fun y hy=>h y (by simp [hy])
 simp only[aw,j3,<-ih,DH (h x (by simp)).txt kk.txt]
 by_cases q:x.1=k
 ·simp [atKey,q]
 ·simp [atKey,q]
theorem LO {K:aa}{k:D}(kk:keyed k){d:D}:∀{xs:List (D×Addr×Value)}{vs:List D}{ws:List V},(∀ x∈xs,keyed x.1)->aQ ws (xs.map (·.2.2))->aL K H vs ws->lS (xs.map (·.1)) vs k=some d->∃ p v,atKey xs k=some p/\RelV v p.2/\Rep K H d v
 |[],_,_,_,_,_,h=>by simp [lS]at h
 |x::xs,[],_,_,rv,r,h=>by simp [lS]at h
 |x::xs,d0::vs,ws,hk,rv,r,h=>by
  cases r with
  |cons r1 r2 =>
   cases rv with
   |cons v1 v2 =>
    simp only[aw,lS]at h
    rw[DH (hk x (by simp)).txt kk.txt]at h
    by_cases q:x.1=k
    ·rw[if_pos (by simpa using q)]at h;cases h
     exact⟨x.2,_,by simp [atKey,q],v1,r1⟩
    ·rw[if_neg (by simpa using q)]at h
     obtain⟨p,v,e1,e2,e3⟩:=LO kk (fun y hy=>hk y (by simp [hy])) v2 r2 h
     exact⟨p,v,by simpa [atKey,q]using e1,e2,e3⟩
end
section
variable {X:Cx}{C:bE}{sub:Nat->Nat->Bool}{E:XK}{a b e o i value:Expr}{x y z:Ex}{p pos apos pos':Pos}
theorem Jd (hu:X.A.units+180<cLine)(neg:Bool):nY X (if neg=true then .NotIn else .In) (fun d d' st P=>uQ d d' st fun b=>P (if neg=true then !b else b)):=by
 intro pins s σ H st d d' v v' u u' P I ok r rv r' bH q
 unfold uQ at q
 split at q
 ·obtain⟨ks,vs,e,hk,q⟩:=xT q
  cases r'.cI
  cases bH
  obtain⟨xs,ws,t1,t2,t3,t4,t5,t6,t8,t7⟩:=G8 I ok e
  obtain⟨ka,rfl,rfl,hka⟩:=key_is I hk r rv
  have hroom:(yZ X.prog X.w).room X.A.in1:=by show X.A.in1.units+12<cLine;simp only[fh];omega
  rw[<-t3,<-Q4 hk t4]at q
  cases neg with
  |true=>exact wpAny_notIn_heap hroom hka t2 t7 ⟨_,rfl,q,I.tok _⟩
  |false=>exact wpAny_in_heap hroom hka t2 t7 ⟨_,rfl,q,I.tok _⟩
 ·exact q.elim
theorem As {neg:Bool}(hu:X.A.units+180<cLine)(ha:PE X a (bW X.K (aI C sub E x)))(hb:PE X b (bW X.K (aI C sub E y)))(hm:l5 (if neg=true then .NotIn else .In) b=false):PT X (.Compare a [if neg=true then .NotIn else .In] [b] pos) (jQ X.K (aI C sub E (.din neg x y))):=by
 intro pins s σ H Q I ⟨σd,st,R,r,ok,q,hq⟩
 refine vf (bB (ha pins s σ H _ I ⟨σd,st,_,r,ok,q,fun v H' z=>z⟩) fun u s1 ⟨v,H1,I1,rv,d,aC,dA,aO,r1,q1⟩ =>
 bB (hb pins s1 σ H1 _ I1 ⟨σd,aC,_,r.step ok dA,aO,q1,fun v H' z=>z⟩) fun u' s2 ⟨v',H2,I2,bH,d',aF,iO,bY,r2,q2⟩ =>
 bB (Jd hu neg pins s2 σ H2 aF d d' v v' u u' (fun k=>R k aF) I2 bY (r1.step aO iO) rv r2 bH q2) fun w s3 ⟨k,e,q3,I3⟩=>?_) hm
 subst e
 exact kr ⟨H2,I3,hq _ _ ⟨aF,dA.trans iO,bY,q3⟩⟩
noncomputable def Mp (K:aa):R2:=fun v v' H Q=>∃ d d' st R,Rep K H d v/\Rep K H d' v'/\aR K st H/\rP d' d st R/\∀ v H',QD K H st R v H'->Q v H'
theorem Dh (hu:X.A.units+180<cLine):wN X (Mp X.K):=by
 intro value slice pins s σ H x y v u Q I rx ry h hs
 obtain⟨d,d',st,R,r1,r2,ok,q,hq⟩:=h
 unfold rP at q
 split at q
 ·obtain⟨ks,vs,e,hk,q⟩:=xT q
  obtain⟨d0,e0,q⟩:=eM q
  cases r1.cI
  cases rx
  obtain⟨xs,ws,t1,t2,t3,t4,t5,t6,t8,t7⟩:=G8 I ok e
  obtain⟨ka,rfl,rfl,hka⟩:=key_is I hk r2 ry
  have hroom:(yZ X.prog X.w).room X.A.in1:=by show X.A.in1.units+12<cLine;simp only[fh];omega
  rw[<-t3]at e0
  obtain⟨pp,v0,e1,e2,e3⟩:=LO hk t4 t5 t6 e0
  refine nk (x:=pp.2) t7.typeIs slot_dict_getitem.lookup ?_ hs
  exact wpAny_getItem_heap hroom hka t7 e1 ⟨rfl,v0,H,I.tok _,e2,hq _ _ (.here ok e3 q)⟩
 ·exact q.elim
theorem Jb (hu:X.A.units+180<cLine)(ha:PE X a (bW X.K (aI C sub E x)))(hb:PE X b (bW X.K (aI C sub E y)))(hp:tR b):PE X (.Subscript a b pos) (bW X.K (aI C sub E (.dix x y))) :=
 (VL (Dh hu) ha hb hp).imp fun σ H Q ⟨σd,st,R,r,ok,q,hq⟩=>by
 refine⟨σd,st,_,r,ok,q,fun v H1 ⟨d,aC,s1,aO,r1,q1⟩=>?_⟩
 refine⟨σd,aC,_,r.step ok s1,aO,q1,fun v' H2 ⟨d',aF,s2,bY,r2,q2⟩=>?_⟩
 exact⟨d,d',aF,R,r1.step aO s2,r2,bY,q2,fun v H' z=>hq _ _ (.after (s1.trans s2) z)⟩
theorem Pg {pins:List (Addr×Obj)}{σ:L2.St}{H:Hp}{s:af}(I:Inv X pins σ H s):nz<s.heap.objs.size:=by
 have h:cj<s.heap.objs.size:=(I.mod.glob.keeps I.bk).lt
 exact Qw (by decide) h
theorem FD {a:Addr}{xs:List (D×Addr×Value)}{w:World}:∀ h1 h2:Heap,OF a xs w h1->(∀ o,h1.get? a=some o->h2.get? a=some o)->OF a xs w h2:=fun h1 h2 ⟨o,es,ep,e,r⟩ k=>⟨o,es,ep,k o e,r⟩
theorem Af:PE X (.Dict [] [] pos) (bW X.K (aI C sub E .dnew)):=fun pins s σ H Q I ⟨σd,st,R,r,ok,q,hq⟩=>by
 have hf:H s.heap.objs.size=none:=I.bS.fresh (az _)
 refine wpAny_Dict_empty ⟨.ref s.heap.objs.size,_,I.laid (a:=s.heap.objs.size) (o:=KI s.heap.objs.size []) (t':=s.toks) (fun _ _ q=>ag _ q) (az _) ?_,rfl,hq _ _ ⟨.ref s.heap.objs.size,put st s.heap.objs.size (.tab [] []),oY hf,ok.Et hf ?_,.ref _,q _ (ok.fresh hf)⟩⟩
 ·exact⟨⟨_,#[],0,bh _ rfl,⟨rfl,rfl,rfl⟩,rfl,rfl⟩,⟨_,bh _ rfl⟩,FD⟩
 ·exact⟨[],[],dF,beq_eq_false_iff_ne.mpr (qa (Pg I)),rfl,Py,.nil,fun x hx=>(by cases hx),.nil,.nil⟩
theorem WT {x v y:D}{st:aB}{Q:aB->Prop}(h:AM x v y st Q):∃ a ks vs,y=.ref a/\st a=some (.tab ks vs)/\keyed x/\(ks.any fun k=>bN k x)=false/\ks.length<10000/\Q (put st a (.tab (ks++[x]) (vs++[v]))):=by
 unfold AM at h
 split at h
 ·obtain⟨ks,vs,e,h1,h2,h3,q⟩:=xT h
  exact⟨_,ks,vs,rfl,e,h1,h2,h3,q⟩
 ·exact h.elim
theorem Nc (hC:bQ C C)(hu:X.A.units+180<cLine)(ho:PE X o (bW X.K (aI C sub EF y)))(hi:PE X i (bW X.K (aI C sub EF z)))(hv:PE X value (bW X.K (aI C sub EF x)))(hs:lb value (some (.Subscript o i pos')) pos.line X.env=pure false):
  PS X (.Assign [.Subscript o i pos'] value pos) (iD X.K (wpS C sub (.asg (.dk y z) x))):=by
 intro pins s σ H D I ⟨σd,st,P,r,ok,q,h⟩
 refine wpAny_Assign_Subscript (bB (hv pins s σ H _ I ⟨σd,st,_,r,ok,rK hC h.ex q,fun v H' z=>z⟩) fun uv s1 ⟨v,H1,I1,rv,d,aC,dA,aO,rd,q1⟩ =>
  bB (ho pins s1 σ H1 _ I1 ⟨σd,aC,_,r.step ok dA,aO,rK hC h.ex q1,fun v H' z=>z⟩) fun uo s2 ⟨vo,H2,I2,rvo,d2,aF,iO,bY,rd2,q2⟩ =>
  bB (hi pins s2 σ H2 _ I2 ⟨σd,aF,_,(r.step ok dA).step aO iO,bY,rK hC h.ex q2,fun v H' z=>z⟩) fun ui s3 ⟨vi,H3,I3,rvi,d3,aU,s3s,pL,rd3,q3⟩=>?_) hs
 obtain⟨da,ks,vs,ed2,e,hk,hnew,hlen,q4⟩:=WT q3
 ·subst ed2
  cases rd2.cI
  cases rvo
  obtain⟨xs,ws,t1,t2,t3,t4,t5,t6,t8,t7⟩:=G8 I3 pL e
  obtain⟨ka,rfl,rfl,hka⟩:=key_is I3 hk rd3 rvi
  have hroom:(yZ X.prog X.w).room X.A.in1:=by show X.A.in1.units+12<cLine;simp only[fh];omega
  have hno:atKey xs d3=none:=by
   have:=Q4 (k:=d3) hk t4
   rw[t3,hnew]at this
   cases q:atKey xs d3 with
   |none=>rfl
   |some p=>rw[q]at this;cases this
  have hxl:xs.length=ks.length:=by rw[<-t3];simp
  refine wpAny_setItem_heap hroom hka t7 (fun h' hm hsb=>?_) (by rw[gB,hxl];have h10:(10000:Nat)<=bK:=(by decide);omega)
  rw[storedH_new hno]at hm
  obtain⟨o',es,ep,m1,m2,m3,m4,m5,m6⟩:=id hm
  have hS:Step H3 aU (upd H3 da (KI da (xs++[(d3,ka,uv)]))) (put aU da (.tab (ks++[d3]) (vs++[d]))):=lV e
  have I4:Inv X pins σ (upd H3 da (KI da (xs++[(d3,ka,uv)]))) { s3 with heap:=h',toks:=s3.toks+(yZ X.prog X.w).draws d3 }:=by
   refine I3.write (x:=da) (e:=da) (by rw[t1];exact de) (.inl rfl) (fun b u hb z=>(hsb.2 b hb).trans z) ⟨o',m1⟩ ?_
   exact⟨⟨o',es,ep,m1,m2,m3,m4⟩,⟨o',m1⟩,FD⟩
  refine⟨σ,_,I4,h.nx _ _ _ _ ((((r.step ok dA).step aO iO).step bY s3s).step pL hS) (((dA.trans iO).trans s3s).trans hS) (pL.J1 e ?_) q4⟩
  refine⟨xs++[(d3,ka,uv)],ws++[v],dF,t2,by simp [t3],m6,?_,?_,?_,?_⟩
  ·rw[d5]
   exact(t8.step pL hS).append (.cons (rd3.step pL hS) .nil)
  ·intro x hx
   rcases List.mem_append.mp hx with hx|hx
   ·exact t4 x hx
   ·simp only[ay]at hx;subst hx;exact hk
  ·rw[d5];exact t5.append (.cons rv .nil)
  ·exact(t6.step pL hS).append (.cons ((((rd.step aO iO).step bY s3s)).step pL hS) .nil)
theorem Pk (hu:X.A.units+180<cLine)(ha:JE X C sub E a x)(hb:JE X C sub E b y)(hm:l5 .In b=false:=by kernel_rfl):JT X C sub E (.Compare a [.In] [b] pos) (.din false x y):=⟨As (neg:=false) hu ha.h hb.h hm⟩
theorem L8 (hu:X.A.units+180<cLine)(ha:JE X C sub E a x)(hb:JE X C sub E b y)(hp:tR b:=by intro _ _;rfl):JE X C sub E (.Subscript a b pos) (.dix x y):=⟨Jb hu ha.h hb.h hp⟩
theorem Pa:JE X C sub E (.Dict [] [] pos) .dnew:=⟨Af⟩
theorem Pl (m:bQ C C)(hu:X.A.units+180<cLine)(ho:JE X C sub EF o y)(hi:JE X C sub EF i z)(hv:JE X C sub EF value x)(hs:lb value (some (.Subscript o i pos')) pos.line X.env=pure false:=by kernel_rfl):
 JS X C sub (.Assign [.Subscript o i pos'] value pos) (.asg (.dk y z) x):=⟨Nc m hu ho.h hi.h hv.h hs⟩
end
end L3
end
section
namespace L3
open PySem PySem.Spec PyProof.Rows L2
theorem P0 {P:br}{w:World}{K:aa}{mg:Str->Option Value}{base:Heap}{G:Prog}{r k f:Nat}{fn:Fn}{x qual:Str}{st:Stmt}{a:Addr}{fd:gj}{N ps:List Str}(F:xW K x qual st a fd)(S:mL N ps (aJ st))
  (hG:G.fns f=some fn)(hp:fn.np=ps.length)(hl:fn.nl=N.length)
  (hb:∀(bF:Value)(A:b7)(outer:List Env)(s:af)(H:Hp)(E:L2.XK),cX r (A.deeper (ly qual (aJ st) s.heap.objs.size a bF)) ->
   rW (eV dH P w K mg base N qual (aJ st) a bF A outer s H E).iH (aM G k) G.sub (eU st) fn.body):
  fF P w K mg base dH (r+1) a fd ps (fO K (aM G (k+1)) f):=by
 refine F.ok S (fun vs H Q E h=>?_) (fun bF A outer s H vs Q E hr h=>?_)
 ·obtain⟨ds,aA,R,r,_,h,_⟩:=h
  simp only[aM,hG]at h
  rw[<-r.length,h.1,hp]
 ·obtain⟨ds,aA,R,r,ok,h,hq⟩:=h
  simp only[aM,hG]at h
  refine⟨_,(hb bF A outer s H E hr).h,?_⟩
  refine⟨start fn.np fn.nl ds,aA,_,?_,ok,h.2,⟨fun σ' H' dR aS sr s' fK q=>?_,fun v H' z=>hq v H' z,fun _ _ _ _ _ _ _ q=>q,fun _ _ _ _ _ _ _ q=>q,fun _ _ _ q=>q⟩⟩
  ·rw[hl];exact EJ r h.1
  ·exact hq _ _ ⟨.non,aS,s',fK,.non,q⟩
noncomputable def lO (s:Stmt)(j:Nat):Stmt:=match s with
 |.ClassDef _ _ _ body ..=>body.getD j (.Pass ⟨0,0,0,0⟩)
 |_=>.Pass ⟨0,0,0,0⟩
inductive At where
 |top
 |cD (c:List Nat)
 |init (c:List Nat)
noncomputable def UN (K:aa)(mg:Str->Option Value)(n:Str)(a:Addr):At->Prop
 |.top=>mg n=some (.ref a)
 |.cD c=>∃ C0,clsAt K c C0/\uD K C0/\EC K C0 n a
 |.init c=>∃ C0,clsAt K c C0/\mg ⟨c.toArray⟩=some (.ref C0)/\Mk K C0 a
structure EE (K:aa)(mg:Str->Option Value)(nf:Nat)(nm qn:Nat->Str)(ps:Nat->List Str)(st:Nat->Stmt)(at_:Nat->At) where
 a:Nat->Addr
 fd:Nat->gj
 fn:∀ i,i<nf->xW K (nm i) (qn i) (st i) (a i) (fd i)
 bi:∀ i,i<nf->Binds K (fd i) (ps i) []
 mg:∀ i,i<nf->UN K mg (nm i) (a i) (at_ i)
noncomputable def DX (n q:Str)(ps:List Str)(st:Stmt):Prop:=∀(kV doc pm:Value)(an:Option Addr)(bF ct:Value)(us:List Value),us.length=ps.length->zr (gy n q (lA st) (eU st) (aJ st) .none kV doc pm an bF ct) ⟨us,[]⟩=pure (ps.zip us)
noncomputable def rV (K:aa)(mg:Str->Option Value)(n q:Str)(st:Stmt)(at_:At):Prop:=∃ a fd,xW K n q st a fd/\UN K mg n a at_
theorem Hu {K:aa}{h:Heap}{mg:Str->Option Value}(X:K.In h)(G:h.Ns cj mg){n:Str}{st:Stmt}{f:Addr}{oc:Value}{od an:Option Addr}{sl:Array (Option Value)}{kV dc pm cd ct:Value}
 (a:gV K cj n=some (some (.ref f)))(l:K.lookup f=some ⟨oc,od,.func (gy n n (lA st) (eU st) (aJ st) .none kV dc pm an cd ct),sl⟩)(c:j6 K cd n=true)(k:ek K (.ref f)=true):rV K mg n n st .top :=
 ⟨f,_,CF l c k,kq X G a⟩
theorem Hd {K:aa}{h:Heap}{mg:Str->Option Value}(X:K.In h)(G:h.Ns cj mg){n q:Str}{c:List Nat}{C:Addr}{st:Stmt}{f:Addr}{oc:Value}{od an:Option Addr}{sl:Array (Option Value)}{kV dc pm cd ct:Value}
 (cl:gV K cj ⟨c.toArray⟩=some (some (.ref C)))(pg:j5 K C Qo=true)(hd:ku K C=true)(po:nh K C=true)(sa:d7 K (.ref C) "__setattr__" = some (some (.builtin "object.__setattr__")))
 (a:d7 K (.ref C) n=some (some (.ref f)))(fn:qb K (.ref f)=true)
 (l:K.lookup f=some ⟨oc,od,.func (gy n q (lA st) (eU st) (aJ st) .none kV dc pm an cd ct),sl⟩)(cc:j6 K cd q=true)(k:ek K (.ref f)=true):rV K mg n q st (.cD c) :=
 ⟨f,_,CF l cc k,C,cl,⟨pg,hd,po,sa⟩,⟨a,fn,k⟩⟩
theorem Jc {K:aa}{h:Heap}{mg:Str->Option Value}(X:K.In h)(G:h.Ns cj mg){q:Str}{c:List Nat}{C:Addr}{st:Stmt}{f:Addr}{oc:Value}{od an:Option Addr}{sl:Array (Option Value)}{kV dc pm cd ct:Value}
 (cl:gV K cj ⟨c.toArray⟩=some (some (.ref C)))(mk:uu K C=true)(kp:ek K (.ref C)=true)
 (a:d7 K (.ref C) "__init__" = some (some (.ref f)))(fn:qb K (.ref f)=true)
 (l:K.lookup f=some ⟨oc,od,.func (gy "__init__" q (lA st) (eU st) (aJ st) .none kV dc pm an cd ct),sl⟩)(cc:j6 K cd q=true)(k:ek K (.ref f)=true):rV K mg "__init__" q st (.init c) :=
 ⟨f,_,CF l cc k,C,cl,kq X G cl,⟨mk,a,fn,kp⟩⟩
theorem Dk {K:aa}{c:List Nat}{C:Addr}(cl:gV K cj ⟨c.toArray⟩=some (some (.ref C)))(pg:j5 K C Qo=true)(hd:ku K C=true)(po:nh K C=true)(sa:d7 K (.ref C) "__setattr__" = some (some (.builtin "object.__setattr__"))):uO K c:=⟨C,cl,pg,hd,po,sa⟩
theorem Z4 {K:aa}{c f:List Nat}{C:Addr}(cl:gV K cj ⟨c.toArray⟩=some (some (.ref C)))(na:d7 K (.ref C) ⟨f.toArray⟩=some none):qV K c f:=⟨fun C' h=>by cases clsAt.inj h cl;exact na⟩
theorem ON {K:aa}{n q x:Str}{st:Stmt}{a:Addr}{fd:gj}(F:xW K n q st a fd)(h:DX n q [x] st)(s:af)(u:Value):yd s fd ⟨[u],[]⟩ [(x,u)]:=by
 obtain⟨oc,od,kV,doc,pm,an,bF,ct,osl,rfl,lk,hcd⟩:=F.ex
 exact .of_eq (h kV doc pm an bF ct [u] rfl)
end L3
end
section
namespace L3
section
variable {C:bE}{sub:Nat->Nat->Bool}{E:XK}{σ:St}{st:aB}{Q:VK}{QQ:List D->aB->Prop}{QB:Bool->aB->Prop}{P:gM}{e a b c:Ex}{es:List Ex}{i:Nat}{d:D}{M:St->aB->Prop}
theorem IA:aI C sub E (.c d) σ st Q=Q d st:=rfl
theorem FP:aI C sub E (.v i) σ st Q=eD σ i fun d=>Q d st:=rfl
theorem Gi:aI C sub E (.tup es) σ st Q=bL C sub E es σ st fun ds aA=>Q (.tup ds) aA:=rfl
theorem Kn:aI C sub E (.lst es) σ st Q=bL C sub E es σ st fun ds aA=>gE ds aA Q:=rfl
theorem NH {op:tH}:aI C sub E (.bin op a b) σ st Q=aI C sub E a σ st fun x aC=>aI C sub E b σ aC fun y aF=>iR op x y aF Q:=rfl
theorem Gu:aI C sub E (.neg a) σ st Q=aI C sub E a σ st fun x aC=>yD x aC Q:=rfl
theorem Kl {op:qR}:aI C sub E (.cmp op a b) σ st Q=aI C sub E a σ st fun x aC=>aI C sub E b σ aC fun y aF=>dB op x y aF fun k=>Q (.bl k) aF:=rfl
theorem W4 {op op':qR}:aI C sub E (.chain op op' a b c) σ st Q=aI C sub E a σ st fun x aC=>aI C sub E b σ aC fun y aF=>dB op x y aF fun k =>
 if k=true then aI C sub E c σ aF fun z aU=>dB op' y z aU fun k=>Q (.bl k) aU else Q (.bl false) aF:=rfl
theorem Ja:aI C sub E (.and_ a b) σ st Q=aI C sub E a σ st fun x aC=>eB x aC fun k=>if k=true then aI C sub E b σ aC Q else Q x aC:=rfl
theorem Oc:aI C sub E (.or_ a b) σ st Q=aI C sub E a σ st fun x aC=>eB x aC fun k=>if k=true then Q x aC else aI C sub E b σ aC Q:=rfl
theorem Hv:aI C sub E (.not_ a) σ st Q=aI C sub E a σ st fun x aC=>eB x aC fun k=>Q (.bl (!k)) aC:=rfl
theorem Gm:aI C sub E (.ite c a b) σ st Q=aI C sub E c σ st fun x aC=>eB x aC fun k=>if k=true then aI C sub E a σ aC Q else aI C sub E b σ aC Q:=rfl
theorem Cq {f:Nat}:aI C sub E (.call f es) σ st Q=bL C sub E es σ st fun ds aA=>C f ds aA Q E:=rfl
theorem Cn {f:BI}:aI C sub E (.bi f es) σ st Q=bL C sub E es σ st fun ds aA=>gP f ds aA Q:=rfl
theorem Jz {ts:List Ty}:aI C sub E (.isi a ts) σ st Q=aI C sub E a σ st fun x aC=>vI sub x aC ts fun k=>Q (.bl k) aC:=rfl
theorem Dw {m:MT}:aI C sub E (.cD m a es) σ st Q=aI C sub E a σ st fun x aC=>yG m x aC/\bL C sub E es σ aC fun ds aF=>jO m x ds aF Q:=rfl
theorem BF:aI C sub E (.ix a b) σ st Q=aI C sub E a σ st fun x aC=>aI C sub E b σ aC fun y aF=>lC x y aF Q:=rfl
theorem Lo {lo hi:List Ex}:aI C sub E (.sl a lo hi) σ st Q=aI C sub E a σ st fun x aC=>bL C sub E lo σ aC fun ls aF=>oM ls fun l=>bL C sub E hi σ aF fun hs aU=>oM hs fun h=>B5 x l h aU Q:=rfl
theorem Kj {f:BI}{k:IK}:aI C sub E (.bit f k es) σ st Q=bL C sub E es σ st fun ds aC=>gG (some k) ds aC fun _ xs=>eR f xs aC Q:=rfl
theorem Bc {n:Nat}{aK tg:List Nat}{one:Bool}{k:Option IK}{aD ifs:List Ex}:aI C sub E (.comp n aK tg one k aD ifs e) σ st Q=bL C sub E aD σ st fun ds aC=>gG k ds aC fun as xs =>
 jN (same as aC) (fun x aF K=>kF one tg x (a9 n none++aK.map fun i=>(σ[i]?).getD none) fun σ' =>
 iC C sub E ifs σ' aF fun b aU=>if b=true then aI C sub E e σ' aU fun d cN=>K (some d) cN else K none aU) xs [] aC fun ds eJ=>gE ds eJ Q:=rfl
theorem RJ:bL C sub E [] σ st QQ=QQ [] st:=rfl
theorem LG:bL C sub E (e::es) σ st QQ=aI C sub E e σ st fun d aA=>bL C sub E es σ aA fun ds aS=>QQ (d::ds) aS:=rfl
theorem Kr:iC C sub E [] σ st QB=QB true st:=rfl
theorem ZS:iC C sub E (e::es) σ st QB=aI C sub E e σ st fun d aA=>eB d aA fun k=>if k=true then iC C sub E es σ aA QB else QB false aA:=rfl
theorem Hf:wpS C sub (.ex e) P σ st=aI C sub (fun c aA=>P.ex c σ aA) e σ st fun _ aA=>P.nx σ aA:=rfl
theorem uG {t:Tg}:wpS C sub (.asg t e) P σ st=aI C sub (fun c aA=>P.ex c σ aA) e σ st fun d aA=>mW C sub (fun c aA=>P.ex c σ aA) t d σ aA P.nx:=rfl
theorem ZW {op:tH}:wpS C sub (.aug i op e) P σ st=eD σ i fun x=>aI C sub (fun c aA=>P.ex c σ aA) e σ st fun y aA=>notRef x/\iR op x y aA fun d aS=>P.nx (σ.set i (some d)) aS:=rfl
theorem Ct {x y:List Sx}:wpS C sub (.iff e x y) P σ st=aI C sub (fun c aA=>P.ex c σ aA) e σ st fun d aA=>eB d aA fun k=>if k=true then cR C sub x P σ aA else cR C sub y P σ aA:=rfl
theorem ZN {t:Tg}{k:Option IK}{b:List Sx}:wpS C sub (.hJ t k es b) P σ st=bL C sub (fun c aA=>P.ex c σ aA) es σ st fun ds aC=>gG k ds aC fun as xs=>xB (same as aC) (fun x next σ st=>mW C sub (fun c aA=>P.ex c σ aA) t x σ st fun σ' aA=>cR C sub b { P with nx:=next,ct:=next,bk:=P.nx } σ' aA) P.nx xs σ aC:=rfl
theorem RT:wpS C sub (.ret e) P σ st=aI C sub (fun c aA=>P.ex c σ aA) e σ st P.rt:=rfl
theorem Bi:wpS C sub .brk P σ st=P.bk σ st:=rfl
theorem ZY:wpS C sub .cnt P σ st=P.ct σ st:=rfl
theorem XT:wpS C sub .pass P σ st=P.nx σ st:=rfl
theorem yS:mW C sub E (.nm i) d σ st M=M (σ.set i (some d)) st:=rfl
theorem Fy {is:List Nat}:mW C sub E (.tp is) d σ st M=kF false is d σ fun σ'=>M σ' st:=rfl
theorem Gy:mW C sub E (.ix a b) d σ st M=aI C sub E a σ st fun x aC=>aI C sub E b σ aC fun y aF=>A5 x y d aF fun aU=>M σ aU:=rfl
theorem Ko {c f:List Nat}:mW C sub E (.fl c f a) d σ st M=aI C sub E a σ st fun x aC=>BW c f d x aC fun aF=>M σ aF:=rfl
theorem Gj:mW C sub E (.dk a b) d σ st M=aI C sub E a σ st fun x aC=>aI C sub E b σ aC fun y aF=>AM y d x aF fun aU=>M σ aU:=rfl
theorem Gz {c f:List Nat}:aI C sub E (.fld c f a) σ st Q=aI C sub E a σ st fun x aC=>pW c f x aC Q:=rfl
theorem Nq {c:List Nat}{f:Nat}:aI C sub E (.mk c f es) σ st Q=bL C sub E es σ st fun ds aC=>∀ p,aC p=none->C f (.ref p::ds) (put aC p (.ins c [])) (fun d aF=>d=.non/\Q (.ref p) aF) E:=rfl
theorem Hy {c m:List Nat}{f:Nat}:aI C sub E (.mcl c m f a es) σ st Q=aI C sub E a σ st fun x aC=>DU c m x aC/\bL C sub E es σ aC fun ds aF=>C f (x::ds) aF Q E:=rfl
theorem Mq:aI C sub E (.cv i es) σ st Q=eD σ i fun d=>wX d st (fun _ _ _=>True)/\bL C sub E es σ st fun ds aA=>wX d aA fun a f cs=>C f (cs++ds) (del aA a) (fun d2 aF=>Q d2 (put aF a (.fn f cs))) (fun c aF=>E c (put aF a (.fn f cs))):=rfl
theorem Y2 {f g:Nat}{aK:List Nat}{κ:CK}:aI C sub E (.callL f es g aK κ) σ st Q=bL C sub E es σ st fun ds aC=>(∃ P,aC P=some (.cod κ))/\qH σ aK fun cs=>∀ a,aC a=none->C f (ds++[.ref a]) (put aC a (.fn g cs)) (fun d aF=>Q d (del aF a)) (fun c aF=>E c (del aF a)):=rfl
theorem WL {QL:List D->Prop}:qH σ [] QL=QL []:=rfl
theorem UU {QL:List D->Prop}{is:List Nat}:qH σ (i::is) QL=eD σ i fun d=>qH σ is fun ds=>QL (d::ds):=rfl
theorem VY {f p:Nat}{cs:List D}{K:Nat->Nat->List D->Prop}(h:st p=some (.fn f cs)):wX (.ref p) st K=K p f cs:=by unfold wX;simp only[h]
theorem tP {p q:Nat}(h:q≠p):del st p q=st q:=by unfold del;rw[if_neg h]
theorem Fe:aI C sub E .dnew σ st Q = ∀ p,st p=none->Q (.ref p) (put st p (.tab [] [])):=rfl
theorem Ih {neg:Bool}:aI C sub E (.din neg a b) σ st Q=aI C sub E a σ st fun x aC=>aI C sub E b σ aC fun y aF=>uQ x y aF fun k=>Q (.bl (if neg=true then !k else k)) aF:=rfl
theorem Gg:aI C sub E (.dix a b) σ st Q=aI C sub E a σ st fun y aC=>aI C sub E b σ aC fun x aF=>rP x y aF Q:=rfl
theorem eS {c f:List Nat}{p:Nat}{fs:List (List Nat×D)}(h:st p=some (.ins c fs)){x:D}(hx:cA fs f=some x):pW c f (.ref p) st Q=Q x st:=by
 simp only[pW,nB,h,hx,cZ,true_and]
theorem oO {c f:List Nat}{p:Nat}{fs:List (List Nat×D)}{R:aB->Prop}(h:st p=some (.ins c fs))(hl:fs.length<900):BW c f d (.ref p) st R=R (put st p (.ins c (qP f d fs))):=by
 simp only[BW,nB,h,hl,true_and]
theorem nA {c m:List Nat}{p:Nat}{fs:List (List Nat×D)}(h:st p=some (.ins c fs))(hm:cA fs m=none):DU c m (.ref p) st=True:=by
 simp only[DU,nB,h,hm,and_self]
theorem Df {x:D}{p:Nat}{ks vs:List D}{R:Bool->Prop}(h:st p=some (.tab ks vs))(hx:keyed x):uQ x (.ref p) st R=R (ks.any fun k=>bN k x):=by
 simp only[uQ,tabAt,h,hx,true_and]
theorem BV {x v:D}{p:Nat}{ks vs:List D}(h:st p=some (.tab ks vs))(hx:keyed x)(hv:lS ks vs x=some v):rP x (.ref p) st Q=Q v st:=by
 simp only[rP,tabAt,h,hx,hv,cZ,true_and]
theorem Gb {x v:D}{p:Nat}{ks vs:List D}{R:aB->Prop}(h:st p=some (.tab ks vs))(hx:keyed x)(hn:(ks.any fun k=>bN k x)=false)(hl:ks.length<10000):AM x v (.ref p) st R=R (put st p (.tab (ks++[x]) (vs++[v]))):=by
 simp only[AM,tabAt,h,hx,hn,hl,true_and]
end
section
variable {d:D}{r:St}{R:D->Prop}{o0 o1 o2 o3 o4 o5 o6 o7 o8 o9 sU uN WE:Option D}
theorem DV:eD (some d::r) 0 R=R d:=rfl
theorem Ba:eD (o0::some d::r) 1 R=R d:=rfl
theorem Ml:eD (o0::o1::some d::r) 2 R=R d:=rfl
theorem Nw:eD (o0::o1::o2::some d::r) 3 R=R d:=rfl
theorem Ma:eD (o0::o1::o2::o3::some d::r) 4 R=R d:=rfl
theorem Ln:eD (o0::o1::o2::o3::o4::some d::r) 5 R=R d:=rfl
theorem Lp:eD (o0::o1::o2::o3::o4::o5::some d::r) 6 R=R d:=rfl
theorem Mx:eD (o0::o1::o2::o3::o4::o5::o6::some d::r) 7 R=R d:=rfl
theorem Mm:eD (o0::o1::o2::o3::o4::o5::o6::o7::some d::r) 8 R=R d:=rfl
theorem Mh:eD (o0::o1::o2::o3::o4::o5::o6::o7::o8::some d::r) 9 R=R d:=rfl
theorem Hc:eD (o0::o1::o2::o3::o4::o5::o6::o7::o8::o9::some d::r) 10 R=R d:=rfl
theorem Jp:eD (o0::o1::o2::o3::o4::o5::o6::o7::o8::o9::sU::some d::r) 11 R=R d:=rfl
theorem Js:eD (o0::o1::o2::o3::o4::o5::o6::o7::o8::o9::sU::uN::some d::r) 12 R=R d:=rfl
theorem Ii:eD (o0::o1::o2::o3::o4::o5::o6::o7::o8::o9::sU::uN::WE::some d::r) 13 R=R d:=rfl
end
end L3
end
section
namespace L3
open PySem PySem.Spec PyProof.Rows L2
noncomputable def iZ (H:Hp)(a:Addr):Hp:=fun b=>match H b with
 |some (.frz o (.own n))=>if n=a then none else some (.frz o (.own n))
 |y=>y
theorem tQ {H:Hp}{a b:Addr}{o:Obj}(h:H b=some (.frz o (.own a))):iZ H a b=none:=by unfold iZ;rw[h];simp
theorem lY {H:Hp}{a b:Addr}(h:H b=none):iZ H a b=none:=by unfold iZ;rw[h]
theorem pA (H:Hp)(a b:Addr):(∃ o,H b=some (.frz o (.own a))/\iZ H a b=none)∨((∀ o,H b≠some (.frz o (.own a)))/\iZ H a b=H b):=by
 cases h:H b with
 |none=>exact .inr ⟨fun o z=>(by cases z),lY h⟩
 |some y =>
  by_cases q:∃ o,y=.frz o (.own a)
  ·obtain⟨o,rfl⟩:=q
   exact .inl ⟨o,rfl,tQ h⟩
  ·refine .inr ⟨fun o z=>q ⟨o,cz z⟩,?_⟩
   unfold iZ
   rw[h]
   cases y with
   |frz o u=>cases u with
    |own n =>
     have hn:n≠a:=fun z=>q ⟨o,by rw[z]⟩
     simp [hn]
    |_=>rfl
   |_=>rfl
theorem U9 {H:Hp}{a b:Addr}{y:HO}(h:iZ H a b=some y):H b=some y:=by
 rcases pA H a b with⟨o,_,e⟩|⟨_,e⟩
 ·rw[e]at h;cases h
 ·rw[<-e];exact h
theorem qS {H:Hp}{a b:Addr}{y:HO}(h:H b=some y)(n:∀ o,y≠.frz o (.own a)):iZ H a b=some y:=by
 rcases pA H a b with⟨o,e,_⟩|⟨_,e⟩
 ·rw[h]at e;exact absurd (cz e) (n o)
 ·rw[e];exact h
noncomputable def yX (H H':Hp)(a:Addr):Hp:=fun b=>match H b with
 |some (.frz o (.own n))=>if n=a then some (.frz o (.own n))else H' b
 |_=>H' b
theorem A0 {H H':Hp}{a b:Addr}{o:Obj}(h:H b=some (.frz o (.own a))):yX H H' a b=some (.frz o (.own a)):=by unfold yX;rw[h];simp
theorem gO {H H':Hp}{a b:Addr}(h:∀ o,H b≠some (.frz o (.own a))):yX H H' a b=H' b:=by
 unfold yX
 cases e:H b with
 |none=>rfl
 |some y=>cases y with
 |frz o u=>cases u with
  |own n =>
  have hn:n≠a:=fun z=>h o (by rw[e,z])
  simp [hn]
  |_=>rfl
 |_=>rfl
theorem YJ {P:br}{w:World}{H:Hp}{h:Heap}{a:Addr}(ok:gS P w H h):gS P w (iZ H a) h:=fun b o e =>
 (ok b o (U9 e)).pO (fun _ _ _ q=>q) (fun _ q=>qS q (fun _ z=>nomatch z)) fun _ _ q=>qS q (fun _ z=>nomatch z)
noncomputable def Kp (H H':Hp)(a:Addr):Prop:=∀ b y,H b=some y->(∀ o,y≠.frz o (.own a))->(∀ o u,y≠.frz o (.frz u (.own a)))->H' b=some y
theorem O6 {H:Hp}{a:Addr}:Kp H (iZ H a) a:=fun _ _ h n _=>qS h n
theorem Ea {K:aa}{H H':Hp}{a b:Addr}{vs:List V}(k:Kp H H' a)(h:eI K H b vs):eI K H' b vs:=by
 rcases h with(h|⟨o,h⟩)|h
 ·exact .inl (.inl (k _ _ h (fun _ z=>nomatch z) (fun _ _ z=>nomatch z)))
 ·exact .inl (.inr ⟨o,k _ _ h (fun _ z=>nomatch z) (fun _ _ z=>nomatch z)⟩)
 ·exact .inr h
theorem YU {K:aa}{H H':Hp}{a b:Addr}{vs:List V}(k:Kp H H' a)(h:mB K H b vs):mB K H' b vs:=by
 rcases h with⟨o,h⟩|h
 ·exact .inl ⟨o,k _ _ h (fun _ z=>nomatch z) (fun _ _ z=>nomatch z)⟩
 ·exact .inr h
mutual
theorem Rep.to {K:aa}{H H':Hp}{a:Addr}(k:Kp H H' a):∀{d:D}{v:V},Rep K H d v->Rep K H' d v
 |_,_,.non=>.non
 |_,_,.bl b=>.bl b
 |_,_,.int i=>.int i
 |_,_,.str x=>.str x
 |_,_,.tup h r=>.tup (Ea k h) (aL.to k r)
 |_,_,.ref a=>.ref a
 |_,_,.bI h r=>.bI (YU k h) (aL.to k r)
 |_,_,.cV h=>.cV h
theorem aL.to {K:aa}{H H':Hp}{a:Addr}(k:Kp H H' a):∀{ds:List D}{vs:List V},aL K H ds vs->aL K H' ds vs
 |_,_,.nil=>.nil
 |_,_,.cons h r=>.cons (Rep.to k h) (aL.to k r)
end
theorem LD {K:aa}{H H':Hp}{a b:Addr}{o:MO}(k:Kp H H' a)(ne0:a≠0)(hb:b≠a)(h:sV K H b o):sV K H' b o:=by
 cases o with
 |lst ds=>obtain⟨vs,q,r⟩:=h;exact⟨vs,k _ _ q (fun _ z=>nomatch z) (fun _ _ z=>nomatch z),r.to k⟩
 |dic _ _=>exact h
 |ins c fs=>obtain⟨C,dx,ws,q,q2,q3,r⟩:=h;exact⟨C,dx,ws,q,k _ _ q2 (fun _ z=>nomatch z) (fun _ _ z=>nomatch z),q3,r.to k⟩
 |tab ks vs=>obtain⟨xs,ws,q,q0,q1,q2,q3,q4,q5,r⟩:=h;exact⟨xs,ws,k _ _ q (fun _ z=>nomatch z) (fun _ _ z=>nomatch z),q0,q1,q2,q3.to k,q4,q5,r.to k⟩
 |fn f cs =>
 obtain⟨vs,⟨T,clos,pm,ctv,c',oc,nb,t,q,ec,co,inj,dom,cap⟩,r⟩:=h
 refine⟨vs,⟨T,clos,pm,ctv,c',oc,nb,t,k _ _ q (fun _ z=>nomatch z) (fun _ _ z=>?_),k _ _ ec (fun _ z=>?_) (fun _ _ z=>nomatch z),co,inj,dom,cap.of fun b' o z=>k _ _ z (fun _ y=>?_) (fun _ _ y=>nomatch y)⟩,r.to k⟩
 ·injection z with _ z;injection z with _ z;injection z with z;exact hb z
 ·injection z with _ z;injection z with z;exact ne0 z.symm
 ·injection y with _ y;injection y with y;exact hb y
 |cod κ =>
 obtain⟨q0,q|⟨c',oc,q,ec,co⟩⟩:=h
 ·exact⟨q0,.inl (k _ _ q (fun _ z=>nomatch z) (fun _ _ z=>nomatch z))⟩
 ·exact⟨q0,.inr ⟨c',oc,k _ _ q (fun _ z=>nomatch z) (fun _ _ z=>nomatch z),k _ _ ec (fun _ z=>by injection z with _ z;injection z with z;exact ne0 z.symm) (fun _ _ z=>nomatch z),co⟩⟩
theorem YK {K:aa}{H H':Hp}{st:aB}{a:Addr}(k:Kp H H' a)(ne0:a≠0)(ok:aR K st H)(hn:st a=none):aR K st H':=fun b o e =>
 LD k ne0 (fun z=>by rw[z,hn]at e;cases e) (ok b o e)
theorem xN:∀{ps:List Str}{us:List Value}{i:Nat}{x:Str}{u:Value},ps.Nodup->ps[i]? = some x->us[i]? = some u->(ps.zip us).reverse.lookup x=some u
 |[],_,_,_,_,_,h,_=>by simp at h
 |_::_,[],_,_,_,_,_,h=>by simp at h
 |p::ps,v::us,0,x,u,nd,h1,h2=>by
  simp at h1 h2;subst h1;subst h2
  rw[kj,ig,xr]
  have:(ps.zip us).reverse.lookup p=none:=by
   rw[List.lookup_eq_none_iff]
   intro q hq
   have hq:q∈ps.zip us:=by simpa using hq
   have:=(me hq).1
   rw[bne_iff_ne]
   intro z
   exact(List.nodup_cons.mp nd).1 (z▸this)
  rw[this];simp
 |p::ps,v::us,i+1,x,u,nd,h1,h2=>by
  rw[kj,ig,xr,xN (List.nodup_cons.mp nd).2 (by simpa using h1) (by simpa using h2)];rfl
structure OR (T:jI):Prop where
 kind:T.scope.kind=.function
 co:T.scope.isCoroutine=false
 gen:T.scope.isGenerator=false
 nc:∀ x∈T.scope.names,x.2≠.cell
 nd:(T.aK++T.ps).Nodup
 lo:∀ x∈T.ps,T.scope.names.lookup x=some .local
 fr:∀ x,T.scope.names.lookup x=some .free->x∈T.aK
 cf:∀ x∈T.aK,T.scope.names.lookup x=some .free
noncomputable def IS (P:br)(w:World)(K:aa)(mg:Str->Option Value)(base:Heap)(T:jI)(clos:List (Str×Addr))(a c':Addr)(A:b7)(outer:List Env)(s:af)(H:Hp):Cx where
 prog:=P
 w:=w
 K:=K
 mg:=mg
 base:=base
 A:=A.deeper (qf T.q T.scope s.heap.objs.size a (.ref c') clos)
 N:=T.aK++T.ps
 s₀:=s
 H₀:=H
 env:=qf T.q T.scope s.heap.objs.size a (.ref c') clos
 outer:=outer
 stack:=qf T.q T.scope s.heap.objs.size a (.ref c') clos::outer
 ex:=[]
 calm:=true
 fn:=fun _=>false
 pn:=[]
 xe:=fun _ _=>False
noncomputable def mN (P:br)(w:World)(K:aa)(mg:Str->Option Value)(base:Heap)(r:Nat)(C:bE)(f:Nat):Prop :=
 ∀(A:b7)(outer:List Env)(s:af)(H:Hp)(a:Addr)(us:List Value)(vs cvs:List V)(ds cs:List D)(st:aB)(R:VK)(Q:L2.VK)(E:L2.XK),
 cX r A->tF P w K mg base A outer s H->WC H a f cvs->st a=none->aR K st H->aL K H cs cvs->aL K H ds vs->aQ vs us->C f (cs++ds) st R (fun _ _=>False)->(∀ v H',QD K H st R v H'->Q v H') ->
 kf (model P w) A (.call (.ref a) ⟨us,[]⟩) (CR dH outer P w H s Q E) s
theorem KN {H:Hp}{a:Addr}{clos:List (Str×Addr)}{xs:List Str}{vs:List V}(h:iY H a clos xs vs):xs.length=vs.length:=by
 induction h with
 |nil=>rfl
 |cons _ _ _ _ _ _ _ _ ih=>exact congrArg Nat.succ ih
theorem BE {H:Hp}{a:Addr}{clos:List (Str×Addr)}{xs:List Str}{vs:List V}(h:iY H a clos xs vs):∀{i:Nat}{x:Str},xs[i]? = some x->∃ v cl o u,vs[i]? = some v/\clos.lookup x=some cl/\H cl=some (.frz o (.own a))/\o.data=.cell (some u)/\RelV v u:=by
 induction h with
 |nil=>intro i x e;simp at e
 |cons cl o u l k d r t ih =>
 intro i x e
 cases i with
 |zero=>simp at e;subst e;exact⟨_,cl,o,u,rfl,l,k,d,r⟩
 |succ i=>exact ih (by simpa using e)
section
variable {P:br}{w:World}{K:aa}{mg:Str->Option Value}{base:Heap}{T:jI}{clos:List (Str×Addr)}{a c':Addr}{A:b7}{outer:List Env}{s:af}{H:Hp}{us:List Value}{vs cvs:List V}
theorem YC (S:OR T)(hd:A.handled=none)(e0:tF P w K mg base A outer s H)(inj:∀ x y c,clos.lookup x=some c->clos.lookup y=some c->x=y)(dom:∀ x c,clos.lookup x=some c->x∈T.aK)(cap:iY H a clos T.aK cvs)(hl:vs.length=T.ps.length)(r:aQ vs us)
  {h₁:Heap}{tk:Nat}(hns:h₁.Ns s.heap.objs.size (fun y=>(T.ps.zip us).reverse.lookup y))(hk:∀ b o,s.heap.get? b=some o->h₁.get? b=some o):
  Inv (IS P w K mg base T clos a c' A outer s (iZ H a)) [] (cvs.map some++vs.map some) (iZ H a) { s with heap:=h₁,toks:=tk }:=by
 have clen:=KN cap
 have cells:∀ x c,clos.lookup x=some c->∃ o u,H c=some (.frz o (.own a))/\o.data=.cell (some u):=fun x c e=>by
  obtain⟨i,hi⟩:=oy (dom x c e)
  obtain⟨v,cl,o,u,_,l,k,d,_⟩:=BE cap hi
  rw[e]at l;cases l
  exact⟨o,u,k,d⟩
 have hcl:∀{c o u},H c=some (.frz o (.own a))->o.data=.cell (some u)->h₁.IsCell c (some u):=fun{c o u} k d=>⟨o,hk _ _ (e0.bS c _ k).1,d⟩
 have noA:∀ b:Addr,b∉(IS P w K mg base T clos a c' A outer s (iZ H a)).ex:=fun b z=>absurd (show b∈([]:List Addr)from z) (by simp)
 refine⟨⟨e0.mod,S.kind,rfl,rfl,az _,inj,fun y hy=>?_,fun y c z _=>(nomatch (show false=true from z)),fun _=>hd,vk e0.frames,.inr ⟨rfl,rfl⟩,fun b z=>absurd z (noA b),fun b o e=>⟨(e0.bs b o e).1,lY (e0.bs b o e).2⟩,e0.bsz,fun b _ _=>noA b,fun b z=>absurd z (noA b),e0.lF,fun b z=>lY (e0.frf b z)⟩,
  rfl,e0.bare,Un.kept hk,⟨_,hns,fun i y v h1 h2 h3=>?_⟩,fun y c h=>?_,lY (e0.bS.fresh (az _)),fun y c h=>?_,fun p hp=>absurd (show p∈([]:List (Addr×Obj))from hp) (by simp),(YJ e0.bS).kept hk,?_⟩
 ·have hy:T.scope.names.lookup y=some .cell∨T.scope.names.lookup y=some .free:=hy
  rcases hy with hy|hy
  ·exact absurd rfl (S.nc _ (gq hy))
  ·obtain⟨i,hi⟩:=oy (S.fr y hy)
   obtain⟨_,cl,_,_,_,l,_⟩:=BE cap hi
   exact⟨cl,l⟩
 ·by_cases hi:i<T.aK.length
  ·have h1':T.aK[i]? = some y:=by
    have h1:(T.aK++T.ps)[i]? = some y:=h1
    rwa [bu hi]at h1
   obtain⟨v',cl,o,u,e1,l,k,d,rv⟩:=BE cap h1'
   rw[bu (by rw[ab,<-clen];exact hi),bb,e1]at h2
   cases h2
   exact⟨u,rv,.inr ⟨.inr (S.cf y (bf h1')),cl,l,hcl k d⟩⟩
  ·have h1':T.ps[i-T.aK.length]? = some y:=by
    have h1:(T.aK++T.ps)[i]? = some y:=h1
    rwa [cq (by omega)]at h1
   have h2':vs[i-T.aK.length]? = some v:=by
    rw[cq (by rw[ab,<-clen];omega),ab,<-clen,bb]at h2
    cases e:vs[i-T.aK.length]? with
    |none=>rw[e]at h2;cases h2
    |some z=>rw[e]at h2;cases h2;rfl
   obtain⟨u,hu,rv⟩:=r.get h2'
   have ndp:T.ps.Nodup:=(List.nodup_append.mp S.nd).2.1
   refine⟨u,rv,.inl ⟨S.lo y (bf h1'),?_⟩⟩
   exact xN ndp h1' hu
 ·obtain⟨o,u,k,d⟩:=cells y c h
  exact⟨some u,hcl k d⟩
 ·obtain⟨o,u,k,d⟩:=cells y c h
  exact tQ k
 ·show _=(T.aK++T.ps).length
  rw[bq,bq,ab,ab,clen,hl]
end
end L3
end
section
namespace L3
open PySem PySem.Spec PyProof.Rows L2
section
variable {P:br}{w:World}{K:aa}{mg:Str->Option Value}{base:Heap}
theorem LP {G:Prog}{k r f n:Nat}{T:jI}{x:Ex}(hT:LT f=some T)(S:OR T)(hG:G.fns f=some ⟨n,n,[.ret x]⟩)(hn:n=T.aK.length+T.ps.length)
  (hbind:∀(clos:List (Str×Addr))(pm:Value)(c':Addr)(ctv:Value)(us:List Value),us.length=T.ps.length->zr (PySem.W.kla_fn "<lambda>" T.q T.params T.body T.scope clos pm (.ref c') ctv) ⟨us,[]⟩=pure (T.ps.zip us))
  (hb:∀(clos:List (Str×Addr))(a c':Addr)(A:b7)(outer:List Env)(s:af)(H:Hp),cX r (A.deeper (qf T.q T.scope s.heap.objs.size a (.ref c') clos))->JE (IS P w K mg base T clos a c' A outer s H) (aM G k) G.sub (fun _ _=>False) T.body x):
  mN P w K mg base (r+1) (aM G (k+1)) f:=by
 intro A outer s H a us vs cvs ds cs st R Q E hr e0 hF dN ok rc rd rv hC hQ
 obtain⟨T',clos,pm,ctv,c',oc,ne0,t,e,ec,co,inj,dom,cap⟩:=hF
 rw[hT]at t;cases t
 simp only[aM,hG]at hC
 have clen:=KN cap
 have hlen:(cs++ds).length=n:=hC.1
 have hl:vs.length=T.ps.length:=by
  have h1:=rd.length
  have h2:=rc.length
  rw[bq]at hlen;omega
 have hus:us.length=T.ps.length:=by rw[<-rv.length];exact hl
 obtain⟨vs0,t0,co1,co2⟩:=co
 have lim:s.heap.NoLimit:=e0.mod.nolimit.keeps fun b o z=>(e0.bs b o z).1
 refine PySem.W.kla_callFunE hr.depth (e0.bS a _ e).1 rfl S.co S.gen rfl ⟨c',oc,vs0,t0,rfl,(e0.bS c' _ ec).1,co1,co2⟩ ?_
 rw[hbind clos pm c' ctv us hus]
 refine ao (vx S.nc (fun y hy=>S.lo y.1 (me hy).1) (fun h₁ hns hsb=>⟨lim.fresh _ hsb,?_⟩) S.kind)
 show kf _ _ (.expr T.body (qf T.q T.scope s.heap.objs.size a (.ref c') clos)) _ _
 have hk:∀ b o,s.heap.get? b=some o->h₁.get? b=some o:=fun b o z=>hsb.extBut b o (b9 (bg z)) (ag _ z)
 refine PySem.W.kla_codeExpr ?_
 have I:=YC (P:=P) (w:=w) (c':=c') (tk:=s.toks+(T.ps.zip us).length) S hr.hd e0 inj dom cap hl rv hns hk
 have hq:aI (aM G k) G.sub (fun _ _=>False) x (start n n (cs++ds)) st R:=by
  have:=hC.2
  simp only[cR,wpS]at this
  exact this
 have est:start n n (cs++ds)=cs.map some++ds.map some:=by simp [start]
 have hsr:dE K (iZ H a) (start n n (cs++ds)) (cvs.map some++vs.map some):=by
  have rr:aL K (iZ H a) (cs++ds) (cvs++vs):=(rc.append rd).to O6
  rw[est,<-d5,<-d5]
  refine⟨by rw[ab,ab,rr.length],fun i d e=>?_⟩
  rw[bb,c9]at e
  obtain⟨d',e1,e2⟩:=e
  cases e2
  obtain⟨v,e3,e4⟩:=rr.get e1
  exact⟨v,by rw[bb,e3];rfl,e4⟩
 have key:=(hb clos a c' A outer s (iZ H a) (hr.deeper _)).h [] _ _ (iZ H a) (fun v H'=>QD K (iZ H a) st R v H') I ⟨start n n (cs++ds),st,R,hsr,YK O6 ne0 ok dN,hq,fun v H' z=>z⟩
 refine jk key (fun u s' z=>?_) fun e s' z=>z.elim
 obtain⟨v,H',J,bH,d,aA,s1,aO,r1,q1⟩:=z
 have jb:Un (uA outer) [] (iZ H a) H' s.heap s'.heap:=J.base
 have nc:∀{b y},H' b=some y->∀ o,H b≠some (.frz o (.own a)):=fun{b y} h o z=>by
  have:=jb.free b o (e0.bS b _ z).1 (tQ z) (by simp)
  rw[h]at this;cases this
 have aF:Step H' aA (yX H H' a) aA:=fun b o eb n=>⟨by rw[gO (nc eb)];exact eb,n⟩
 refine⟨v,yX H H' a,J.os,J.bare,⟨fun b o q n hb hx=>jb.keep b o q (lY n) hb hx,fun b o q n hb hx=>jb.slot b o q (lY n) hb hx,fun b o q n hx=>?_,fun b o q hx=>jb.there b o q hx,fun b xs q=>?_,fun b o u q=>?_,fun b ps q=>?_⟩,fun b o e=>?_,bH,hQ v _ ⟨d,aA,fun b o eb n=>?_,fun b o e=>?_,r1.step aO aF,q1⟩⟩
 ·rw[gO (fun o z=>by rw[n]at z;cases z)];exact jb.free b o q (lY n) hx
 ·rw[gO (fun o z=>by rw[q]at z;cases z)];exact jb.rQ b xs (qS q (fun _ z=>nomatch z))
 ·rcases pA H a b with⟨o',e',_⟩|⟨n,e'⟩
  ·rw[A0 e',<-e'];exact q
  ·rw[gO n];exact jb.nQ b o u (by rw[e'];exact q)
 ·obtain⟨more,z⟩:=jb.pY b ps (qS q (fun _ z=>nomatch z))
  exact⟨more,by rw[gO (fun o z=>by rw[q]at z;cases z)];exact z⟩
 ·rcases pA H a b with⟨o',e',_⟩|⟨n,e'⟩
  ·rw[A0 e']at e;cases e
   have g:=jb.keep b o' (e0.bS b _ e').1 (tQ e') (fun z=>by rw[e0.frf b z]at e';cases e') (by simp)
   exact⟨g,o',g⟩
  ·rw[gO n]at e
   exact(J.bS b o e).pO (fun _ _ _ q=>q) (fun b' q=>by rw[gO (nc q)];exact q) fun b' xs q=>by rw[gO (nc q)];exact q
 ·rcases pA H a b with⟨o',e',_⟩|⟨n',e'⟩
  ·refine⟨by rw[A0 e',<-e'];exact eb,aO.fresh ?_⟩
   exact jb.free b o' (e0.bS b _ e').1 (tQ e') (by simp)
  ·obtain⟨h1,h2⟩:=s1 b o (by rw[e'];exact eb) n
   exact⟨by rw[gO n'];exact h1,h2⟩
 ·have h:=aO b o e
  obtain⟨o',h1,_⟩:=h.bears
  exact h.step aO aF (gO (nc h1))
end
end L3
end
section
namespace L3
open PySem PySem.Spec PyProof.Rows L2
theorem JJ {σ:St}{i:Nat}{Q:D->Prop}(h:eD σ i Q):∃ d,σ[i]? = some (some d)/\Q d:=by
 unfold eD at h
 split at h
 ·rename_i d e;exact⟨d,e,h⟩
 ·exact h.elim
theorem MC {d:D}{st:aB}{K:Nat->Nat->List D->Prop}(h:wX d st K):∃ a f cs,d=.ref a/\st a=some (.fn f cs)/\K a f cs:=by
 cases d<;>first|exact dv h|skip
 rename_i a
 unfold wX at h
 simp only at h
 split at h
 ·rename_i f cs e;exact⟨a,f,cs,rfl,e,h⟩
 ·exact h.elim
theorem BA {st:aB}{a:Nat}:del st a a=none:=by unfold del;rw[if_pos rfl]
theorem BC {st:aB}{a b:Nat}(h:b≠a):del st a b=st b:=by unfold del;rw[if_neg h]
theorem L4 {st:aB}{a b:Nat}{o:MO}(h:del st a b=some o):st b=some o/\b≠a:=by
 by_cases z:b=a
 ·rw[z,BA]at h;cases h
 ·rw[BC z]at h;exact⟨h,z⟩
section
variable {X:Cx}{C:bE}{sub:Nat->Nat->Bool}{i k:Nat}{x:Str}{p pos:Pos}{e:Expr}{es:List Expr}{xs:List Ex}{E0:L2.XK}
theorem MM {H:Hp}{h:Heap}{P:br}{w:World}{a:Addr}{f:Nat}{vs:List V}(ok:gS P w H h)(F:WC H a f vs):PySem.W.FnAt a h:=by
 obtain⟨T,clos,pm,ctv,c',oc,_,_,e,_⟩:=F
 exact⟨_,_,_,_,(ok a _ e).1⟩
theorem Np (hL:∀ f T,LT f=some T->mN X.prog X.w X.K X.mg X.base k C f)(hr:cX k X.A)(hN:X.N[i]? = some x)(hv:VN X.env.scope x)(hx:pC dH X E0)(ha:PA X (e::es) (kD X.K (bL C sub (fun _ _=>False) xs)))
  (hd:(x==("__debug__" : Str))=false)(hcd:(x==("__classdict__" : Str))=false)(he:ah (e::es) X.env=(false,eval e X.env)::ah es X.env)(cG:(dh pos (ah es X.env)).any (·.1)=false):
  PE X (.Call (.Name x p) (e::es) [] pos) (bW X.K (aI C sub (fun _ _=>False) (.cv i xs))):=by
 intro pins s σ H Q I ⟨σd,st,R,r,ok,q,hq⟩
 obtain⟨d,ed,q0,q⟩:=JJ q
 obtain⟨a,f0,cs0,rfl,ea0,_⟩:=MC q0
 obtain⟨v,ev,rep⟩:=r.2 i _ ed
 cases rep.cI
 obtain⟨cvs0,F0,_⟩:=ok a _ ea0
 refine dm (bB (O2 hN hv hd hcd pins s σ H (fun v' H1=>v'=.ref a/\H1=H) I ⟨_,ev,rfl,rfl⟩) fun u s1 z=>?_)
 obtain⟨v',H1,I1,rv,rfl,rfl⟩:=z
 obtain rfl:u=gp a:=rv
 refine PySem.W.callWith_F (MM I1.bS F0) (bB (ha pos pins s1 σ H1 _ I1 ⟨σd,st,_,r,ok,q,fun vs H2 z=>z⟩) fun us s2 z=>?_) he cG
 obtain⟨vs,H2,I2,rvs,ds,aF,dA,bY,rds,q3⟩:=z
 obtain⟨a',f,cs,e1,ea,q4⟩:=MC q3
 cases e1
 have hO:=bY a _ ea
 obtain⟨cvs,F,rcs⟩:=id hO
 refine⟨MM I2.bS F,?_⟩
 have okd:aR X.K (del aF a) H2:=fun b o e=>bY b o (L4 e).1
 have hT:∃ T,LT f=some T:=by obtain⟨T,_,_,_,_,_,_,t,_⟩:=F;exact⟨T,t⟩
 obtain⟨T,hT⟩:=hT
 refine tx (kg (hL f T hT X.A X.stack s2 H2 a us vs cvs ds cs (del aF a) _ Q E0 hr I2.OI F BA okd rcs rds rvs q4 fun v H' z=>?_) fun r s' hq=>?_)
 ·obtain⟨d2,aU,s3,pL,r3,q5⟩:=z
  obtain⟨oa,ha1,_⟩:=hO.bears
  have h3:=s3 a oa ha1 BA
  refine hq v H' (.after dA ⟨d2,put aU a (.fn f cs),fun b o eb n=>?_,fun b o e=>?_,r3,q5⟩)
  ·have ba:b≠a:=fun z=>by rw[z,ea]at n;cases n
   obtain⟨h1,h2⟩:=s3 b o eb (by rw[BC ba];exact n)
   exact⟨h1,by rw[bD ba];exact h2⟩
  ·by_cases ba:b=a
   ·subst ba
    rw[aW]at e;cases e
    exact hO.step okd s3 (by rw[h3.1,ha1])
   ·rw[bD ba]at e;exact pL b o e
 ·cases r with
  |error e=>exact hx pins σ H2 s2 e s' I2 hq
  |ok fl =>
   cases fl with
   |ret u=>exact I2.after hq
   |next=>exact dv hq
   |brk=>exact dv hq
   |cont=>exact dv hq
end
end L3
end
section
namespace L3
open PySem PySem.Spec PyProof.Rows L2
theorem FL {σ:St}:∀{is:List Nat}{Q:List D->Prop},qH σ is Q->∃ cs,cs.length=is.length/\(∀(j i:Nat),is[j]? = some i->∃ d,σ[i]? = some (some d)/\cs[j]? = some d)/\Q cs
 |[],Q,h=>⟨[],rfl,fun j i e=>by simp at e,h⟩
 |i::is,Q,h=>by
  obtain⟨d,e,h⟩:=JJ h
  obtain⟨cs,l,g,q⟩:=FL (is:=is) h
  refine⟨d::cs,by simp [l],fun j i' e'=>?_,q⟩
  cases j with
  |zero=>simp at e';subst e';exact⟨d,e,rfl⟩
  |succ j=>exact g j i' (by simpa using e')
inductive mY (h:Heap)(cells:List (Str×Addr)):List Str->List V->Prop where
 |nil:mY h cells [] []
 |cons {x:Str}{xs:List Str}{v:V}{vs:List V}(cl:Addr)(o:Obj)(u:Value)(l:cells.lookup x=some cl)(k:h.get? cl=some o) (d:o.data=.cell (some u)) (r:RelV v u) (t:mY h cells xs vs):mY h cells (x::xs) (v::vs)
section
variable {X:Cx}{pins:List (Addr×Obj)}{σ:L2.St}{H:Hp}{s:af}{σd:St}
theorem BL (I:Inv X pins σ H s)(r:dE X.K H σd σ):∀(xs:List Str)(aK:List Nat)(cs:List D),(∀(j:Nat)(x:Str),xs[j]? = some x->∃ i,aK[j]? = some i/\X.N[i]? = some x/\X.env.scope.names.lookup x=some .cell)->xs.length=aK.length->cs.length=aK.length->(∀(j i:Nat),aK[j]? = some i->∃ d,σd[i]? = some (some d)/\cs[j]? = some d) ->
  ∃ cvs,aL X.K H cs cvs/\mY s.heap X.env.cells xs cvs
 |[],[],[],_,_,_,_=>⟨[],.nil,.nil⟩
 |x::xs,c::aK,d::cs,hx,h1,h2,hg=>by
  obtain⟨cvs,rr,cc⟩:=BL I r xs aK cs (fun j y e=>by simpa using hx (j+1) y (by simpa using e)) (by simpa using h1) (by simpa using h2) (fun j i e=>by simpa using hg (j+1) i (by simpa using e))
  obtain⟨i,e1,e2,e3⟩:=hx 0 x rfl
  cases e1
  obtain⟨d',e4,e5⟩:=hg 0 c rfl
  cases e5
  obtain⟨v,e6,e7⟩:=r.2 c d e4
  obtain⟨m,hn,hl⟩:=I.loc
  obtain⟨u,rv,l⟩:=hl c x v e2 e6 (.inr (.inl e3))
  rcases l with⟨hk,_⟩|⟨_,cl,hc,o,ho,hd⟩
  ·have hk:X.env.scope.names.lookup x=some .local:=hk
   rw[e3]at hk;cases hk
  ·exact⟨v::cvs,.cons e7 rr,.cons cl o u hc ho hd rv cc⟩
 |[],_::_,_,_,h1,_,_=>by simp at h1
 |_::_,[],_,_,h1,_,_=>by simp at h1
 |[],[],_::_,_,_,h2,_=>by simp at h2
 |_::_,_::_,[],_,_,h2,_=>by simp at h2
end
theorem M8 {h h':Heap}{cells:List (Str×Addr)}{xs:List Str}{vs:List V}(c:mY h cells xs vs)(k:∀ x cl o u,cells.lookup x=some cl->h.get? cl=some o->o.data=.cell u->h'.get? cl=some o):mY h' cells xs vs:=by
 induction c with
 |nil=>exact .nil
 |cons cl o u l q d r t ih=>exact .cons cl o u l (k _ _ _ _ l q d) d r ih
noncomputable def P2 (clos:List (Str×Addr))(xs:List Str):List Addr:=xs.filterMap fun x=>clos.lookup x
noncomputable def iV (H:Hp)(h:Heap)(a:Addr)(fo:Obj)(l:List Addr):Hp:=fun b=>if b=a then some (.frz fo (.frz fo (.own a)))else if b∈l then(h.get? b).map fun o=>.frz o (.own a)else H b
noncomputable def zE (H:Hp)(l:List Addr):Hp:=fun b=>if b∈l then none else H b
section
variable {H:Hp}{h:Heap}{a b:Addr}{fo:Obj}{l:List Addr}
theorem J9:iV H h a fo l a=some (.frz fo (.frz fo (.own a))):=by unfold iV;rw[if_pos rfl]
theorem HF {o:Obj}(n:b≠a)(m:b∈l)(e:h.get? b=some o):iV H h a fo l b=some (.frz o (.own a)):=by unfold iV;rw[if_neg n,if_pos m,e];rfl
theorem wZ (n:b≠a)(m:b∉l):iV H h a fo l b=H b:=by unfold iV;rw[if_neg n,if_neg m]
theorem RI (m:b∈l):zE H l b=none:=by unfold zE;rw[if_pos m]
theorem rF (m:b∉l):zE H l b=H b:=by unfold zE;rw[if_neg m]
theorem K9 {clos:List (Str×Addr)}{xs ys:List Str}{vs:List V}(c:mY h clos xs vs)(na:∀ x cl,clos.lookup x=some cl->cl≠a)(sub:∀ x∈xs,x∈ys):iY (iV H h a fo (P2 clos ys)) a clos xs vs:=by
 induction c with
 |nil=>exact .nil
 |cons cl o u l q d r t ih =>
 refine .cons cl o u l (HF (na _ _ l) ?_ q) d r (ih fun x hx=>sub x (cb _ hx))
 exact List.mem_filterMap.mpr ⟨_,sub _ (cy ..),l⟩
end
end L3
end
section
namespace L3
open PySem PySem.Spec PyProof.Rows L2
noncomputable def rD (mg:Str->Option Value)(base:Heap):Prop:=∃ bm ob,mg "__builtins__" = some (.ref bm)/\bm≠builtinsNs/\base.get? bm=some ob/\ob.cls=.type "module" /\ ob.dict=some xf/\ob.data=.plain
section
variable {X:Cx}{pins:List (Addr×Obj)}{σ:L2.St}{H:Hp}{s:af}
theorem SE {P:Addr}{κ:CK}{T:jI}{clos:List (Str×Addr)}{lpos:Pos}{Q:Value->af->Prop}{E:Value->af->Prop}(I:Inv X pins σ H s)(hR:M9 X.K H P κ)(hBm:rD X.mg X.base)(hq:T.q=X.env.qual ++"<lambda>")(hκ:T.q=⟨κ.q.toArray⟩)(hln:κ.ln=lpos.line)(hcol:κ.col=lpos.col)(hcode:X.env.code=.ref κ.c)
  (hcl:xq T.scope X.env=pure clos)(hdef:Pz T.params X.env=([],[]))
  (h:∀(pm ctv:Value)(c' a:Addr)(oc:Obj)(s':af)(H':Hp),Inv X pins σ H' s'->s'.os=s.os->s'.heap.get? a=some (mf "<lambda>" T.q T.params T.body T.scope clos pm c' ctv)->H' a=none->H a=none->s.heap.objs.size<=a->H' c'=some (.frz oc (.own 0))->NX oc T.q->M9 X.K H' P κ ->
   (∀ b y,b≠P->H b=some y->H' b=some y)->(∀ b o,b≠P->s.heap.get? b=some o->s'.heap.get? b=some o)->Q (.ref a) s'):
  wpAny (model X.prog X.w) X.A (eval (.Lambda T.params T.body T.scope lpos) X.env) Q E s:=by
 obtain⟨hhd,hps⟩:=hR
 have hg:s.heap.Ns cj X.mg:=I.mod.glob.keeps I.bk
 have C:PySem.W.CodeHd s.heap κ.c P:=wq I.iU hhd
 have hPs:∃ ps,H P=some (.tbl ps):=by
  rcases hps with q|⟨_,_,q,_⟩
  ·exact⟨_,q⟩
  ·exact⟨_,q⟩
 have hne:∀{b:Addr}{o:Obj},X.base.get? b=some o->b≠P:=fun{b o} e z=>by
  obtain⟨ps,q⟩:=hPs
  have:=(I.bs b o e).2
  rw[z,q]at this;cases this
 have hgP:mainGlobals≠P:=by
  obtain⟨o,_,_,e,_⟩:=I.mod.glob
  exact hne e
 have hB:s.heap.BuiltinsAt X.mg P:=by
  obtain⟨bm,ob,b1,b2,b3,b4,b5,b6⟩:=hBm
  refine⟨bm,ob,b1,b2,fun z=>?_,hne b3,I.bk _ _ b3,b4,b5,b6⟩
  obtain⟨o,es,ep,e,hd,_⟩:=I.mod.glob
  rw[z,e]at b3;cases b3;rw[hd]at b6;cases b6
 refine PySem.W.kla_eval hdef ?_
 rw[<-hq]
 rcases hps with q|⟨c',oc,q,ec,co⟩
 ·have hP:s.heap.get? P=some (Qa #[]):=I.bS P _ q
  refine PySem.W.kla_makeFunction (mg:=X.mg) hcl I.ok.glob hg hcode C hP de rfl hgP hB fun c' ctv h' tk hx hge cY hrec htb=>?_
  obtain⟨c2,oc,vs,t,e2,hoc,hd,hv⟩:=hrec
  cases e2
  have hc0:H c'=none:=I.bS.fresh hge
  have cP:c'≠P:=fun z=>by rw[z,q]at hc0;cases hc0
  have hszle:s.heap.objs.size<=h'.objs.size:=c7 hge (p8 cY)
  have ha0:H h'.objs.size=none:=I.bS.fresh hszle
  have aP:h'.objs.size≠P:=fun z=>by rw[z,q]at ha0;cases ha0
  have ac:h'.objs.size≠c':=qa cY
  have ko:∀ b o,b≠P->s.heap.get? b=some o->(h'.push (mf "<lambda>" T.q T.params T.body T.scope clos ((X.mg "__name__").getD .none) c' ctv)).get? b=some o:=fun b o n e=>ag _ (hx b o n e)
  have kH:∀ b y,b≠P->H b=some y->upd (upd H P (.tbl #[gf lpos.line,gf lpos.col,.ref c'])) c' (.frz oc (.own 0)) b=some y:=fun b y n e=>by
   rw[bG (fun z=>by rw[z,hc0]at e;cases e),bG n];exact e
  have kN:∀ b,b≠P->b≠c'->H b=none->upd (upd H P (.tbl #[gf lpos.line,gf lpos.col,.ref c'])) c' (.frz oc (.own 0)) b=none:=fun b n n' e=>by rw[bG n',bG n];exact e
  have hPn:upd (upd H P (.tbl #[gf lpos.line,gf lpos.col,.ref c'])) c' (.frz oc (.own 0)) P=some (.tbl #[gf lpos.line,gf lpos.col,.ref c']):=by rw[bG cP.symm,dF]
  have nP:∀{b},H b=none->b≠P:=fun{b} n z=>by rw[z,q]at n;cases n
  refine h _ ctv c' h'.objs.size oc _ _ (I.un (t':=tk) (H':=upd (upd H P (.tbl #[gf lpos.line,gf lpos.col,.ref c'])) c' (.frz oc (.own 0))) ⟨fun b o e n _ _=>ko b o (nP n) e,fun b o e n _ _=>⟨o.slots,ko b o (nP n) e⟩,fun b o e n _=>kN b (nP n) (b9 (bp (bg e) hge)) n,fun b o e _=>?_,fun b xs e=>kH b _ (fun z=>by rw[z,q]at e;cases e) e,fun b o u e=>kH b _ (fun z=>by rw[z,q]at e;cases e) e,fun b ps e=>?_⟩ (fun b o e=>?_)) rfl (bh _ rfl) (kN _ aP ac ha0) ha0 hszle dF ⟨vs,t,hd,hv⟩ ⟨hhd,.inr ⟨c',oc,?_,dF,by rw[<-hκ];exact⟨vs,t,hd,hv⟩⟩⟩ kH ko
  ·by_cases z:b=P
   ·subst z;exact⟨_,ag _ htb⟩
   ·exact⟨o,ko b o z e⟩
  ·by_cases z:b=P
   ·subst z
    rw[q]at e;cases e
    exact⟨#[gf lpos.line,gf lpos.col,.ref c'],hPn⟩
   ·exact⟨#[],by rw[kH b _ z e];simp⟩
  ·by_cases z:b=c'
   ·subst z
    rw[dF]at e;cases e
    exact⟨Heap.get?_push_of_some _ hoc,oc,ag _ hoc⟩
   ·rw[bG z]at e
    by_cases z2:b=P
    ·subst z2
     rw[dF]at e;cases e
     exact ag _ htb
    ·rw[bG z2]at e
     refine(I.bS b o e).pO (fun c v hc w=>ko c v ?_ w) (fun b' w=>kH b' _ (fun z=>by rw[z,q]at w;cases w) w) fun b' xs w=>kH b' _ (fun z=>by rw[z,q]at w;cases w) w
     rcases hc with rfl|hc
     ·exact z2
     ·exact fun z=>by rw[z,q]at hc;cases hc
  ·rw[hPn,hln,hcol]
 ·have hP:s.heap.get? P=some (Qa #[gf κ.ln,gf κ.col,.ref c']):=I.bS P _ q
  have hf:codeAmong lpos (#[gf κ.ln,gf κ.col,.ref c']:Array Value).toList=some (.ref c'):=by rw[hln,hcol];simp [codeAmong,gf]
  refine PySem.W.kla_makeFunctionHit (mg:=X.mg) hcl I.ok.glob hg hcode C hP de hf hB fun ctv h' tk hk mM=>?_
  have ha0:H h'.objs.size=none:=I.bS.fresh mM
  refine h _ ctv c' h'.objs.size oc _ H (I.kept (t':=tk) fun b o e=>ag _ (hk b o e)) rfl (bh _ rfl) ha0 ha0 mM ec (by rw[hκ];exact co) ⟨hhd,.inr ⟨c',oc,q,ec,co⟩⟩ (fun _ _ _ e=>e) fun b o _ e=>ag _ (hk b o e)
end
end L3
end
section
namespace L3
open PySem PySem.Spec PyProof.Rows L2
theorem OC {h:Heap}{cells clos:List (Str×Addr)}{xs:List Str}{vs:List V}(c:mY h cells xs vs)(k:∀ x∈xs,clos.lookup x=cells.lookup x):mY h clos xs vs:=by
 induction c with
 |nil=>exact .nil
 |cons cl o u l q d r t ih=>exact .cons cl o u (by rw[k _ (cy ..)];exact l) q d r (ih fun x hx=>k x (cb _ hx))
theorem G6 {cells:List (Str×Addr)}{L:List Str}:∀(names:List (Str×NameKind))(cs:List (Str×Addr)){x:Str}{c:Addr},(∀ p∈names,p.2=.free->p.1∈L)->(∀ x c,cs.lookup x=some c->x∈L)->(kT cells names cs).lookup x=some c->x∈L
 |[],cs,x,c,_,h,e=>h x c e
 |(n,k)::r,cs,x,c,hn,h,e=>by
  simp only[kT]at e
  refine G6 r _ (fun p hp=>hn p (cb _ hp)) (fun y d ed=>?_) e
  split at ed
  ·rename_i hk
   rw[cu]at ed
   split at ed
   ·rename_i q
    have q:y=n:=by simpa using q
    rw[q];exact hn (n,k) (cy ..) (by simpa using hk)
   ·exact h y d ed
  ·exact h y d ed
theorem RG {h:Heap}{cells:List (Str×Addr)}{xs:List Str}{vs:List V}(c:mY h cells xs vs):∀ x∈xs,∃ cl o u,cells.lookup x=some cl/\h.get? cl=some o/\o.data=.cell (some u):=by
 induction c with
 |nil=>intro x hx;cases hx
 |cons cl o u l q d r t ih =>
 intro x hx
 rcases List.mem_cons.mp hx with rfl|hx
 ·exact⟨cl,o,u,l,q,d⟩
 ·exact ih x hx
section
variable {X:Cx}{C:bE}{sub:Nat->Nat->Bool}{k fid g:Nat}{f:Addr}{fd:gj}{ps:List Str}{n:Str}{p pos lpos:Pos}{e1 e2:Expr}{x1 x2:Ex}{T:jI}{aK:List Nat}{κ:CK}
theorem YL (F:fF X.prog X.w X.K X.mg X.base dH k f fd ps (fO X.K C fid))(hr:cX k X.A)(hg:Gl X n)(hm:X.mg n=some (.ref f))(hk:ek X.K (.ref f)=true)(hb:Binds X.K fd ps [])
  (h1:PE X e1 (bW X.K (aI C sub (fun _ _=>False) x1)))(h2:PE X e2 (bW X.K (aI C sub (fun _ _=>False) x2)))(hBm:rD X.mg X.base)(hT:LT g=some T)(hq:T.q=X.env.qual ++"<lambda>")(hκ:T.q=⟨κ.q.toArray⟩)(hln:κ.ln=lpos.line)(hcol:κ.col=lpos.col)(hcode:X.env.code=.ref κ.c)
  (hfn:∀ x,X.fn x=true)(hfree:∀ p∈T.scope.names,p.2=.free->p.1∈T.aK)(hcapf:∀ x∈T.aK,T.scope.names.lookup x=some .free)(hcap:∀(j:Nat)(x:Str),T.aK[j]? = some x->∃ i,aK[j]? = some i/\X.N[i]? = some x/\X.env.scope.names.lookup x=some .cell)(hlen:T.aK.length=aK.length)
  (hdef:Pz T.params X.env=([],[]))(hdb:(n==("__debug__" : Str))=false)(he:ah [e1,e2,.Lambda T.params T.body T.scope lpos] X.env=[(false,eval e1 X.env),(false,eval e2 X.env),(false,eval (.Lambda T.params T.body T.scope lpos) X.env)])(he2:ah [e2,.Lambda T.params T.body T.scope lpos] X.env=[(false,eval e2 X.env),(false,eval (.Lambda T.params T.body T.scope lpos) X.env)]):
  PE X (.Call (.Name n p) [e1,e2,.Lambda T.params T.body T.scope lpos] [] pos) (bW X.K (aI C sub (fun _ _=>False) (.callL fid [x1,x2] g aK κ))):=by
 intro pins s σ H Q I ⟨σd,st,R,r,ok,q,hq0⟩
 refine dm (yU I hg hm ?_ hdb)
 refine mi (h₀:=X.base) I.ok.mod.kin hk ?_ (by rw[he,he2]) (by rw[he2];rfl)
 rw[he]
 show wpAny _ _ (wb [(false,eval e1 X.env),(false,eval e2 X.env),(false,eval (.Lambda T.params T.body T.scope lpos) X.env)]) _ _ s
 refine gx (bB (h1 pins s σ H _ I ⟨σd,st,_,r,ok,q,fun v H' z=>z⟩) fun u1 s1 z=>?_)
 obtain⟨v1,H1,I1,rv1,d1,aC,ss1,aO,rd1,q1⟩:=z
 have r1:=r.step ok ss1
 refine gx (bB (h2 pins s1 σ H1 _ I1 ⟨σd,aC,_,r1,aO,q1,fun v H' z=>z⟩) fun u2 s2 z=>?_)
 obtain⟨v2,H2,I2,rv2,d2,aF,ss2,bY,rd2,q2⟩:=z
 have r2:=r1.step aO ss2
 obtain⟨⟨P,eP⟩,q3⟩:=q2
 obtain⟨cs,cl1,cl2,q4⟩:=FL q3
 obtain⟨cvs,rcs,cH⟩:=BL I2 r2 T.aK aK cs hcap hlen cl1 cl2
 have hcellsX:∀ p∈T.scope.names,p.2=.free->∃ c,X.env.cells.lookup p.1=some c:=fun p hp hf=>by
  obtain⟨j,hj⟩:=oy (hfree p hp hf)
  obtain⟨i,_,_,e⟩:=hcap j _ hj
  exact I2.ok.has _ (.inl e)
 generalize hclos:kT X.env.cells T.scope.names []=clos
 have hcl:xq T.scope X.env=pure clos:=by rw[<-hclos];exact pM hcellsX
 have csub:∀ x c,clos.lookup x=some c->X.env.cells.lookup x=some c:=fun x c e=>by rw[<-hclos]at e;exact kP _ _ hcellsX (fun _ _ z=>by simp at z) e
 have chas:∀ x∈T.aK,clos.lookup x=X.env.cells.lookup x:=fun x hx=>by
  obtain⟨c,e⟩:=vV (cells:=X.env.cells) T.scope.names [] (hcapf x hx)
  rw[hclos]at e
  rw[e,csub x c e]
 have cdom:∀ x c,clos.lookup x=some c->x∈T.aK:=fun x c e=>by
  rw[<-hclos]at e
  exact G6 T.scope.names [] (fun p hp hf=>hfree p hp hf) (fun x c z=>by simp at z) e
 have hCod:M9 X.K H2 P κ:=bY P _ eP
 refine gx (SE I2 hCod hBm hq hκ hln hcol hcode hcl hdef fun pm ctv c' a oc s3 H3' I3 os3 ea na na2 asz ec co hCod3 kH ko=>?_)
 refine kv ⟨I3.iU,?_⟩
 obtain⟨psP,hP2⟩:∃ ps,H2 P=some (.tbl ps):=by
  obtain⟨_,z|⟨_,_,z,_⟩⟩:=hCod
  ·exact⟨_,z⟩
  ·exact⟨_,z⟩
 have sizeP:∀ x c,X.env.cells.lookup x=some c->H2 c=none/\H3' c=none/\c≠a/\c≠P:=fun x c e=>by
  have h2:=I2.kG x c e
  have h3:=I3.kG x c e
  obtain⟨v,o,ho,_⟩:=I2.cell x c e
  refine⟨h2,h3,fun z=>?_,fun z=>?_⟩
  ·have cY:=bg ho
   rw[z]at cY
   exact absurd (bp cY asz) (ey _)
  ·rw[z,hP2]at h2;cases h2
 have ne0:a≠0:=fun z=>by
  have cY:=I2.lt
  rw[z]at asz
  exact absurd (bp cY asz) (Nat.not_lt_zero _)
 have cH3:mY s3.heap clos T.aK cvs:=M8 (OC cH chas) fun x cl o u e h0 _=>ko cl o (sizeP x cl (csub x cl e)).2.2.2 h0
 generalize hfo:mf "<lambda>" T.q T.params T.body T.scope clos pm c' ctv=fo at ea
 generalize hl:P2 clos T.aK=l
 have lmem:∀ c∈l,∃ x o,X.env.cells.lookup x=some c/\s3.heap.get? c=some o:=fun c hc=>by
  rw[<-hl]at hc
  obtain⟨x,hx,e⟩:=List.mem_filterMap.mp hc
  obtain⟨cl,o,u,e2,e3,_⟩:=RG cH3 x hx
  rw[e]at e2;cases e2
  exact⟨x,o,csub x c e,e3⟩
 have lH:∀ c∈l,H2 c=none/\H3' c=none/\c≠a/\c≠P:=fun c hc=>by
  obtain⟨x,_,e,_⟩:=lmem c hc
  exact sizeP x c e
 have nl:∀{b y},H3' b=some y->b≠a/\b∉l:=fun{b y} e=>⟨(fun z=>by rw[z,na]at e;cases e),(fun z=>by rw[(lH b z).2.1]at e;cases e)⟩
 have k3:∀{b y},H3' b=some y->iV H3' s3.heap a fo l b=some y:=fun{b y} e=>by rw[wZ (nl e).1 (nl e).2];exact e
 have k23:∀{b y},b≠P->H2 b=some y->iV H3' s3.heap a fo l b=some y:=fun{b y} n e=>k3 (kH b y n e)
 have hst2:aF a=none:=bY.fresh na2
 have stepS:Step H2 aF (iV H3' s3.heap a fo l) (put aF a (.fn g cs)):=fun b o e nn=>by
  have ba:b≠a:=fun z=>by rw[z,na2]at e;cases e
  exact⟨k23 (fun z=>by rw[z,eP]at nn;cases nn) e,by rw[bD ba];exact nn⟩
 have e3:=I3.OI
 have pL:aR X.K (put aF a (.fn g cs)) (iV H3' s3.heap a fo l):=fun b o e=>by
  by_cases ba:b=a
  ·subst ba
   rw[aW]at e;cases e
   refine⟨cvs,⟨T,clos,pm,ctv,c',oc,ne0,hT,by rw[hfo];exact J9,k3 ec,co,fun x y c h1 h2=>I2.ok.inj x y c (csub x c h1) (csub y c h2),cdom,?_⟩,rcs.step bY stepS⟩
   rw[<-hl]
   exact K9 cH3 (fun x cl e=>(sizeP x cl (csub x cl e)).2.2.1) fun x hx=>hx
  ·rw[bD ba]at e
   by_cases bP:b=P
   ·subst bP
    rw[eP]at e;cases e
    obtain⟨z0,z|⟨c2,oc2,z1,z2,z3⟩⟩:=hCod3
    ·exact⟨z0,.inl (k3 z)⟩
    ·exact⟨z0,.inr ⟨c2,oc2,k3 z1,k3 z2,z3⟩⟩
   ·obtain⟨o',z,_⟩:=(bY b o e).bears
    exact(bY b o e).step bY stepS (by rw[k23 bP z,z])
 have env3:tF X.prog X.w X.K X.mg X.base X.A X.stack s3 (iV H3' s3.heap a fo l):=by
  refine⟨e3.frames,e3.mod,fun b o e=>⟨(e3.bs b o e).1,?_⟩,e3.bsz,e3.lF,fun b hb=>?_,fun b o e=>?_,e3.bare⟩
  ·have b1:b≠a:=fun z=>by
    have cY:=bg (I2.bk b o e)
    rw[z]at cY
    exact absurd (bp cY asz) (ey _)
   have b2:b∉l:=fun z=>by
    obtain⟨x,_,ex,_⟩:=lmem b z
    have cY:=bg (I2.ok.bs b o e).1
    exact absurd (bp cY (I2.ok.cab x b (hfn x) ex)) (ey _)
   rw[wZ b1 b2];exact(e3.bs b o e).2
  ·have b1:b≠a:=fun z=>by
    obtain⟨_,o,ho,_⟩:=I2.stack.mem hb
    have cY:=bg ho
    rw[z]at cY
    exact absurd (bp cY asz) (ey _)
   have b2:b∉l:=fun z=>by
    obtain⟨x,_,ex,_⟩:=lmem b z
    rcases List.mem_cons.mp (I2.C8 b hb)with e|hb
    ·exact I2.FV x b ex e
    ·obtain⟨_,o,ho,_⟩:=I2.ok.lF.mem hb
     exact absurd (bp (bg ho) (I2.ok.cab x b (hfn x) ex)) (ey _)
   rw[wZ b1 b2];exact e3.frf b hb
  ·by_cases ba:b=a
   ·subst ba
    rw[J9]at e;cases e
    exact⟨ea,ea,fo,ea⟩
   ·by_cases bl:b∈l
    ·obtain⟨x,ob,_,eb⟩:=lmem b bl
     rw[HF ba bl eb]at e;cases e
     exact⟨eb,ob,eb⟩
    ·rw[wZ ba bl]at e
     exact(I3.bS b o e).pO (fun _ _ _ q=>q) (fun b' q=>k3 q) fun b' xs q=>k3 q
 have rr:aL X.K (iV H3' s3.heap a fo l) [d1,d2,.ref a] [v1,v2,.ref a]:=.cons ((rd1.step aO ss2).step bY stepS) (.cons (rd2.step bY stepS) (.cons (.ref a) .nil))
 have vv:aQ [v1,v2,.ref a] [u1,u2,.ref a]:=.cons rv1 (.cons rv2 (.cons rfl .nil))
 have hsp:fO X.K C fid [v1,v2,.ref a] (iV H3' s3.heap a fo l) (fun v H'=>QD X.K (iV H3' s3.heap a fo l) (put aF a (.fn g cs)) (fun d aA=>R d (del aA a)) v H') E0:=⟨[d1,d2,.ref a],_,_,rr,pL,q4 a hst2,fun v H' z=>z⟩
 have hlen3:([u1,u2,.ref a]:List Value).length=ps.length:=by rw[<-vv.length];exact F.len _ _ _ _ hsp
 refine tx (kg (F.run X.A X.stack s3 _ ⟨[u1,u2,.ref a],[]⟩ [u1,u2,.ref a] [v1,v2,.ref a] _ E0 hr env3 (hb s3 [u1,u2,.ref a] I3.iU (by rw[el];exact hlen3)) vv hsp) fun rs s4 hq4=>?_)
 cases rs with
 |error e=>exact dv hq4
 |ok fl =>
  cases fl with
  |next=>exact dv hq4
  |brk=>exact dv hq4
  |cont=>exact dv hq4
  |ret u =>
   obtain⟨v,H4,os4,bare4,un,hok4,rv4,z4⟩:=hq4
   obtain⟨d,cN,s34,MV,r4,q5⟩:=z4
   have h4a:H4 a=some (.frz fo (.frz fo (.own a))):=un.nQ a _ _ J9
   have h4l:∀ c∈l,∃ o,s3.heap.get? c=some o/\H4 c=some (.frz o (.own a))/\s4.heap.get? c=some o:=fun c hc=>by
    obtain⟨x,o,_,eo⟩:=lmem c hc
    have h:=un.nQ c _ _ (HF (lH c hc).2.2.1 hc eo)
    exact⟨o,eo,h,(hok4 c _ h).1⟩
   have nb:∀{b y},H3' b=some y->b∉a::l:=fun{b y} e z=>by
    rcases List.mem_cons.mp z with z|z
    ·exact(nl e).1 z
    ·exact(nl e).2 z
   have keepO:∀ b o,s3.heap.get? b=some o->H3' b=none->(b∈a::l->s4.heap.get? b=some o):=fun b o e n z=>by
    rcases List.mem_cons.mp z with z|z
    ·subst z;rw[ea]at e;cases e;exact(hok4 b _ h4a).1
    ·obtain⟨o',e1,_,e2⟩:=h4l b z
     rw[e]at e1;cases e1;exact e2
   have lo:∀{b},b∉a::l->iV H3' s3.heap a fo l b=H3' b:=fun{b} z=>wZ (fun w=>z (by rw[w];exact cy ..)) fun w=>z (cb _ w)
   have kp:Kp H4 (zE H4 (a::l)) a:=fun b y e n1 n2=>by
    rw[rF];·exact e
    intro z
    rcases List.mem_cons.mp z with z|z
    ·rw[z,h4a]at e;exact n2 _ _ (cz e).symm
    ·obtain⟨o,_,h,_⟩:=h4l b z
     rw[h]at e;exact n1 _ (cz e).symm
   have I4:Inv X pins σ (zE H4 (a::l)) s4:=by
    refine I3.VO (ch:=[]) os4 ⟨fun b o e n hb hx=>?_,fun b o e n hb hx=>?_,fun b o e n hx=>?_,fun b o e hx=>un.there b o e hx,fun b xs e=>?_,fun b o u e=>?_,fun b ps e=>?_⟩ (fun b o e=>?_) bare4 (fun b z=>absurd z (by simp))
    ·by_cases z:b∈a::l
     ·exact keepO b o e n z
     ·exact un.keep b o e (by rw[lo z];exact n) hb hx
    ·by_cases z:b∈a::l
     ·exact⟨o.slots,keepO b o e n z⟩
     ·exact un.slot b o e (by rw[lo z];exact n) hb hx
    ·by_cases z:b∈a::l
     ·exact RI z
     ·rw[rF z];exact un.free b o e (by rw[lo z];exact n) hx
    ·rw[rF (nb e)];exact un.rQ b xs (k3 e)
    ·rw[rF (nb e)];exact un.nQ b o u (k3 e)
    ·rw[rF (nb e)];exact un.pY b ps (k3 e)
    ·by_cases z:b∈a::l
     ·rw[RI z]at e;cases e
     ·rw[rF z]at e
      exact(hok4 b o e).pO (fun _ _ _ q=>q) (fun b' q=>kp b' _ q (fun _ z=>nomatch z) (fun _ _ z=>nomatch z)) fun b' xs q=>kp b' _ q (fun _ z=>nomatch z) (fun _ _ z=>nomatch z)
   refine⟨v,_,I4,rv4,hq0 v _ (.after ss1 (.after ss2 ⟨d,del cN a,fun b o e nn=>?_,fun b o e=>?_,r4.to kp,q5⟩))⟩
   ·obtain⟨z1,z2⟩:=stepS b o e nn
    obtain⟨z3,z4⟩:=s34 b o z1 z2
    have ba:b≠a:=fun z=>by rw[z,na2]at e;cases e
    have bl:b∉a::l:=fun z=>by
     rcases List.mem_cons.mp z with z|z
     ·exact ba z
     ·rw[(lH b z).1]at e;cases e
    exact⟨by rw[rF bl];exact z3,by rw[BC ba];exact z4⟩
   ·obtain⟨z1,z2⟩:=L4 e
    exact LD kp ne0 z2 (MV b o z1)
end
end L3
end
section
namespace L3
open PySem PySem.Spec PyProof.Rows L2
theorem RC {P:br}{w:World}{K:aa}{mg mb:Str->Option Value}{k:Nat}{fa a:Addr}{fd:gj}{x:Str}{sp:Sp}{s₁:af}{vs:List Value}{ns:List Int}{tabs:List (CK×Addr)}
  (KX:K.In s₁.heap)(hns:s₁.heap.Ns cj mg)(hb:s₁.heap.Ns xf mb)(hbb:∀ x:Str,x ≠"__name__" -> mb x=cp x)(hlim:s₁.heap.NoLimit)(hg:s₁.gens = #[])
  (hB:rD mg s₁.heap)(t1:∀ p∈tabs,s₁.heap.get? p.2=some { cls:=.none,data:=.fields #[] })(t2:∀ p∈tabs,og K p.1.c p.2=true)(t3:∀ p∈tabs,K.lookup p.2=none)
  (ha:s₁.heap.get? a=some { cls:=.type "list", data:=.seq vs.toArray })(hi:ue vs ns)(hl:ns.length<=sizeLine)(hr:cX k we)
  (F:∀ base:Heap,K.In base->base.Ns cj mg->rD mg base->fF P w K mg base dH k fa fd [x] sp)(hbind:∀(s:af)(u:Value),yd s fd ⟨[u],[]⟩ [(x,u)])
  (hsp:∀ H:Hp,(∀ p∈tabs,H p.2=some (.tbl #[]))->mB K H a (ns.map V.int)->sp [.ref a] H (fun v _=>v=.bl true) fun _ _ _=>False):
  kf (model P w) we (.call (.ref fa) ⟨[.ref a],[]⟩) (fun r s'=>r=.ok (.ret (.bool true))/\OldK s₁.heap s'.heap/\s'.os=s₁.os/\qy s'.gens) s₁:=by
 have rv:=FE hi
 have lenV:=hi.length
 have aT:∀ p∈tabs,p.2≠a:=fun p hp z=>by
  have:=t1 p hp
  rw[z,ha]at this;cases this
 have core:∀ H:Hp,(∀ p∈tabs,H p.2=some (.tbl #[]))->mB K H a (ns.map V.int)->gS P w H s₁.heap->(∀ b,H b≠none->b=a∨∃ p∈tabs,b=p.2)->(∀ b u,H b=some u->(∃ o xs,u=.frz o xs)∨∃ p∈tabs,b=p.2)->(H a≠none->K.lookup a=none) ->
   kf (model P w) we (.call (.ref fa) ⟨[.ref a],[]⟩) (fun r s'=>r=.ok (.ret (.bool true))/\OldK s₁.heap s'.heap/\s'.os=s₁.os/\qy s'.gens) s₁:=by
  intro H hT hS bS hA hO hK
  have base_of:∀{b:Addr}{o:Obj},s₁.heap.get? b=some o->H b=none->(tD s₁.heap H).get? b=some o:=fun e n=>TK e n
  have noK:∀{b:Addr}{o:Obj},K.lookup b=some o->H b=none:=fun{b o} e=>by
   cases q:H b with
   |none=>rfl
   |some u =>
    rcases hA b (by rw[q];simp)with z|⟨p,hp,z⟩
    ·subst z
     rw[hK (by rw[q];simp)]at e;cases e
    ·subst z
     rw[t3 p hp]at e;cases e
  have noA:∀{b:Addr}{o:Obj},s₁.heap.get? b=some o->(∀ xs,o.data≠.seq xs)->(∀ ps,o.data≠.fields ps)->H b=none:=fun{b o} e d1 d2=>by
   cases q:H b with
   |none=>rfl
   |some u =>
    rcases hA b (by rw[q];simp)with z|⟨p,hp,z⟩
    ·subst z
     rw[ha]at e;cases e
     exact absurd rfl (d1 _)
    ·subst z
     rw[t1 p hp]at e;cases e
     exact absurd rfl (d2 _)
  have nsK:∀{b:Addr}{m:Str->Option Value},s₁.heap.Ns b m->(tD s₁.heap H).Ns b m:=fun{b m} ⟨o,es,ep,e,d,r⟩=>⟨o,es,ep,base_of e (noA e (fun _ z=>by rw[d]at z;cases z) (fun _ z=>by rw[d]at z;cases z)),d,r⟩
  have hKb:K.In (tD s₁.heap H):=fun b o e=>base_of (KX b o e) (noK e)
  have hBb:rD mg (tD s₁.heap H):=by
   obtain⟨bm,ob,b1,b2,b3,b4,b5,b6⟩:=hB
   exact⟨bm,ob,b1,b2,base_of b3 (noA b3 (fun _ z=>by rw[b6]at z;cases z) (fun _ z=>by rw[b6]at z;cases z)),b4,b5,b6⟩
  have hM:Mod K mg (tD s₁.heap H):=⟨hKb,nsK hns,⟨mb,nsK hb,hbb⟩,let⟨mc,h1,h2⟩:=hlim;⟨mc,nsK h1,h2⟩⟩
  have e0:tF P w K mg (tD s₁.heap H) we [] s₁ H:=⟨rfl,hM,fun b o e=>YF e,Qu (R3 _ _),trivial,fun b hb=>absurd (show b∈([]:List Addr)from hb) (by simp),bS,.of_eq hg⟩
  refine kg ((F _ hKb (nsK hns) hBb).run we [] s₁ H ⟨[.ref a],[]⟩ [.ref a] [.ref a] _ _ hr e0 (hbind s₁ (.ref a)) (.cons rfl .nil) (hsp H hT hS)) fun r s' h=>?_
  cases r with
  |error e=>exact h.elim
  |ok fl =>
   cases fl with
   |next=>exact dv h
   |brk=>exact dv h
   |cont=>exact dv h
   |ret u =>
    obtain⟨v,H',os,bare,un,hok',r',q⟩:=h
    have q':v=.bl true:=q
    subst q'
    obtain rfl:u=qg true:=r'
    have tb:∀ p∈tabs,∃ more,s'.heap.get? p.2=some { cls:=.none,data:=.fields (#[]++more) }:=fun p hp=>by
     obtain⟨more,z⟩:=un.pY p.2 _ (hT p hp)
     exact⟨more,hok' _ _ z⟩
    have fr:∀ b o,s₁.heap.get? b=some o->(¬∃ p∈tabs,b=p.2)->s'.heap.get? b=some o:=fun b o e nt=>by
     cases q:H b with
     |none=>exact un.keep b o e q (by intro z;exact absurd (show b∈([]:List Addr)from z) (by simp)) (by simp)
     |some u =>
      rcases hO b u q with⟨ob,xs,z⟩|z
      ·subst z
       have z2:=un.nQ b ob _ q
       obtain⟨e1,_⟩:=bS b _ q
       obtain⟨e2,_⟩:=hok' b _ z2
       rw[e]at e1;cases e1
       exact e2
      ·exact absurd z nt
    refine⟨rfl,⟨fun b o e=>?_,fun b o e=>?_⟩,os,bare⟩
    ·by_cases h:∃ p∈tabs,b=p.2
     ·obtain⟨p,hp,z⟩:=h
      subst z
      obtain⟨more,z⟩:=tb p hp
      rw[t1 p hp]at e;cases e
      obtain⟨oc,ws,_,_,_,_,_,_,_,c1,c2,c3,c4,_⟩:=wq KX (t2 p hp)
      exact .inr (.inl ⟨⟨_,oc,ws,c1,c2,c3,c4⟩,rfl,#[],more,rfl,z⟩)
     ·exact .inl (fr b o e h)
    ·by_cases h:∃ p∈tabs,b=p.2
     ·obtain⟨p,hp,z⟩:=h
      subst z
      obtain⟨more,z⟩:=tb p hp
      exact⟨_,z⟩
     ·exact⟨o,fr b o e h⟩
 have tn:∀ b,b∈tabs.map (·.2)->∃ p∈tabs,b=p.2:=fun b hb=>by
  obtain⟨p,hp,z⟩:=List.mem_map.mp hb
  exact⟨p,hp,z.symm⟩
 have na:a∉tabs.map (·.2):=fun z=>by
  obtain⟨p,hp,e⟩:=tn a z
  exact aT p hp e.symm
 cases hk:K.lookup a with
 |some o =>
  have e:=KX a o hk
  rw[ha]at e
  cases e
  refine core (fun b=>if b∈tabs.map (·.2)then some (.tbl #[])else none) (fun p hp=>if_pos (List.mem_map.mpr ⟨p,hp,rfl⟩)) (.inr ⟨_,vs.toArray,_,hk,rfl,rfl,rfl,by rw[ar,lenV];exact hl,by simpa using rv⟩) (fun b u z=>?_) (fun b z=>?_) (fun b u z=>?_) fun z=>absurd (if_neg na) z
  ·by_cases hb:b∈tabs.map (·.2)
   ·have z':=(if_pos hb).symm.trans z
    cases z'
    obtain⟨p,hp,e⟩:=tn b hb
    subst e
    exact t1 p hp
   ·have z':=(if_neg hb).symm.trans z
    cases z'
  ·by_cases hb:b∈tabs.map (·.2)
   ·exact .inr (tn b hb)
   ·exact absurd (if_neg hb) z
  ·by_cases hb:b∈tabs.map (·.2)
   ·exact .inr (tn b hb)
   ·have z':=(if_neg hb).symm.trans z
    cases z'
 |none =>
  refine core (fun b=>if b∈tabs.map (·.2)then some (.tbl #[])else if b=a then some (.frz { cls:=.type "list", data:=.seq vs.toArray } (.lst (ns.map V.int)))else none) (fun p hp=>if_pos (List.mem_map.mpr ⟨p,hp,rfl⟩)) (.inl ⟨{ cls:=.type "list", data:=.seq vs.toArray },(if_neg na).trans (if_pos rfl)⟩) (fun b u z=>?_) (fun b z=>?_) (fun b u z=>?_) fun _=>hk
  ·by_cases hb:b∈tabs.map (·.2)
   ·have z':=(if_pos hb).symm.trans z
    cases z'
    obtain⟨p,hp,e⟩:=tn b hb
    subst e
    exact t1 p hp
   ·have z1:=(if_neg hb).symm.trans z
    by_cases hb:b=a
    ·have z':=(if_pos hb).symm.trans z1
     cases z'
     subst hb
     exact⟨ha,by rw[ab];exact hl,vs,_,rv,ha⟩
    ·have z':=(if_neg hb).symm.trans z1
     cases z'
  ·by_cases hb:b∈tabs.map (·.2)
   ·exact .inr (tn b hb)
   ·by_cases hb2:b=a
    ·exact .inl hb2
    ·exact absurd ((if_neg hb).trans (if_neg hb2)) z
  ·by_cases hb:b∈tabs.map (·.2)
   ·exact .inr (tn b hb)
   ·have z1:=(if_neg hb).symm.trans z
    by_cases hb2:b=a
    ·have z':=(if_pos hb2).symm.trans z1
     cases z'
     exact .inl ⟨_,_,rfl⟩
    ·have z':=(if_neg hb2).symm.trans z1
     cases z'
theorem ZH {K:aa}{G:Prog}{k f:Nat}{tabs:List (CK×Addr)}(t2:∀ p∈tabs,og K p.1.c p.2=true)(h:∀(ns:List Int)(st:aB),ns.length<=63->(∀ p∈tabs,∃ P,st P=some (.cod p.1))->aM G k f [.bI (ns.map .int)] st (fun d _=>d=.bl true) fun _ _=>False)(dj:(tabs.map (·.2)).Nodup)(H:Hp)(a:Addr)(ns:List Int)(hl:ns.length<=63)(hT:∀ p∈tabs,H p.2=some (.tbl #[]))(hF:mB K H a (ns.map V.int)):
  fO K (aM G k) f [.ref a] H (fun v _=>v=.bl true) fun _ _ _=>False:=by
 have ri:∀ ns:List Int,aL K H (ns.map .int) (ns.map V.int):=fun ns=>by
  induction ns with
  |nil=>exact .nil
  |cons i r ih=>exact .cons (.int i) ih
 refine⟨[.bI (ns.map .int)],fun b=>(tabs.find? fun p=>p.2==b).map fun p=>.cod p.1,fun d _=>d=.bl true,.cons (.bI hF (ri ns)) .nil,fun b o e=>?_,h ns _ hl fun p hp=>⟨p.2,?_⟩,fun v H' ⟨d,aA,_,_,r,q⟩=>?_⟩
 ·obtain⟨p,e1,e2⟩:=Option.map_eq_some_iff.mp e
  have hp:=List.mem_of_find?_eq_some e1
  have hb:=List.find?_some e1
  have hb:p.2=b:=by simpa using hb
  subst hb
  cases e2
  exact⟨t2 p hp,.inl (hT p hp)⟩
 ·have key:∀(l:List (CK×Addr)),(l.map (·.2)).Nodup->∀ p∈l,(l.find? fun q=>q.2==p.2)=some p:=fun l=>by
   induction l with
   |nil=>intro _ p hp;cases hp
   |cons q r ih =>
    intro nd p hp
    rw[aw,List.nodup_cons]at nd
    rcases List.mem_cons.mp hp with z|hp
    ·subst z;simp
    ·rw[List.find?_cons_of_neg]
     ·exact ih nd.2 p hp
     ·intro z
      exact nd.1 (List.mem_map.mpr ⟨p,hp,(by simpa using z:q.2=p.2).symm⟩)
  show(List.find? (fun q=>q.2==p.2) tabs).map _=_
  rw[key tabs dj p hp];rfl
 ·subst q
  exact r.fJ
theorem Gq {l:PySem.W.OpenLaw}{q:br}{loose:List Str}{XP:(Str->Option Value)->Heap->Prop}{YP:World->Heap->Prop}{d:DefRec}{K:Params->aa}{G:Prog}{r k f:Nat}{x:Str}{tabs:List (CK×Addr)}(hr:cX r we)(S8:∀(ns:List Int)(st:aB),ns.length<=63->(∀ p∈tabs,∃ P,st P=some (.cod p.1))->aM G k f [.bI (ns.map .int)] st (fun d _=>d=.bl true) fun _ _=>False)(dj:(tabs.map (·.2)).Nodup)(hn:l.most=some 63)(hdf:d.params.defaults=[])
 (hY:∀(w:World)(h:Heap),YP w h->(K w.params).In h)
 (hY2:∀(w:World)(h:Heap),YP w h->∀ p∈tabs,h.get? p.2=some { cls:=.none,data:=.fields #[] })
 (t2:∀(w:World)(p:CK×Addr),p∈tabs->og (K w.params) p.1.c p.2=true)(t3:∀(w:World)(p:CK×Addr),p∈tabs->gr p.2 (K w.params)=none)
 (F:∀(w:World)(mg:Str->Option Value)(fa:Addr)(h:Heap),(K w.params).In h->h.Ns cj mg->mg d.name=some (.ref fa) ->
  ∃ fd:gj,(∀(s:af)(u:Value),yd s fd ⟨[u],[]⟩ [(x,u)])/\∀ base:Heap,(K w.params).In base->base.Ns cj mg->rD mg base->fF l.prog w (K w.params) mg base dH r fa fd [x] (fO (K w.params) (aM G k) f)):
 PySem.W.WalkO q loose XP YP l.row.toRowW d [] (fun f vs=>PySem.call f vs):=by
 refine Att.KY hn hdf fun w s₀ s₁ mg mb fa o pm cd doc a vs ns G Y ho hd hcd hmg hobj hints hlen hg=>?_
 have KX:=hY w _ Y
 obtain⟨fd,hb,hF⟩:=F w mg fa _ KX G.T.g hmg
 exact RC (tabs:=tabs) KX G.T.g G.T.b G.T.builtins G.T.nolimit hg G.T.bmain (hY2 w _ Y) (t2 w) (t3 w) hobj hints (c7 hlen (by decide)) hr hF hb fun H hT hS=>ZH (t2 w) S8 dj H a ns hlen hT hS
end L3
end
section
namespace L3
open PySem PySem.Spec PyProof.Rows L2
theorem Cz {P:br}{w:World}{K:aa}{mg:Str->Option Value}{base:Heap}{G:Prog}{r k f:Nat}{fn:Fn}{x qual:Str}{st:Stmt}{a c:Addr}{fd:gj}{N ps:List Str}(F:xW K x qual st a fd)(hc:fd.code=.ref c)(S:mL N ps (aJ st))
  (hG:G.fns f=some fn)(hp:fn.np=ps.length)(hl:fn.nl=N.length)
  (hb:∀(A:b7)(outer:List Env)(s:af)(H:Hp)(E:L2.XK),cX r (A.deeper (ly qual (aJ st) s.heap.objs.size a (.ref c))) ->
   rW (eV dH P w K mg base N qual (aJ st) a (.ref c) A outer s H E).iH (aM G k) G.sub (eU st) fn.body):
  fF P w K mg base dH (r+1) a fd ps (fO K (aM G (k+1)) f):=by
 obtain⟨oc,od,kV,doc,pm,an,bF,ct,osl,rfl,lk,hcd⟩:=F.ex
 have hc:bF=.ref c:=hc
 subst hc
 refine VX lk hcd S (fun vs H Q E h=>?_) fun A outer s H vs Q E hr h=>?_
 ·obtain⟨ds,aA,R,r,_,h,_⟩:=h
  simp only[aM,hG]at h
  rw[<-r.length,h.1,hp]
 ·obtain⟨ds,aA,R,r,ok,h,hq⟩:=h
  simp only[aM,hG]at h
  refine⟨_,(hb A outer s H E hr).h.iH,?_⟩
  refine⟨start fn.np fn.nl ds,aA,_,?_,ok,h.2,⟨fun σ' H' dR aS sr s' fK q=>?_,fun v H' z=>hq v H' z,fun _ _ _ _ _ _ _ q=>q,fun _ _ _ _ _ _ _ q=>q,fun _ _ _ q=>q⟩⟩
  ·rw[hl];exact EJ r h.1
  ·exact hq _ _ ⟨.non,aS,s',fK,.non,q⟩
structure PQ (X:Cx)(C:bE):Prop where
 h:∃ k,(∀ f T,LT f=some T->mN X.prog X.w X.K X.mg X.base k C f)/\cX k X.A
theorem UL {P:br}{w:World}{K:aa}{mg:Str->Option Value}{base:Heap}{G:Prog}{f:Nat}:mN P w K mg base 0 (aM G 0) f :=
 fun _ _ _ _ _ _ _ _ _ _ _ _ _ _ _ _ _ _ _ _ _ _ h=>dv h
section
variable {X:Cx}{C:bE}{sub:Nat->Nat->Bool}{E:XK}{e e1 e2 lam:Expr}{es:List Expr}{x1 x2:Ex}{xs:List Ex}{p pos lpos:Pos}{n:Str}{fid g:Nat}{T:jI}{aK:List Nat}{κ:CK}
theorem Ei (i:Nat)(hN:X.N[i]? = some n:=by kernel_rfl)(hv:X.env.scope.names.lookup n=some .free:=by kernel_rfl)(hd:(n==("__debug__" : Str))=false:=by kernel_rfl)
 (hcd:(n==("__classdict__" : Str))=false:=by kernel_rfl):JE X C sub E (.Name n pos) (.v i):=⟨N3 (pv i hN (.inr (.inr hv)) hd hcd)⟩
theorem Oj (i:Nat)(L:PQ X C)(ha:JA X C sub EF (e::es) xs)(hN:X.N[i]? = some n:=by kernel_rfl)(hv:X.env.scope.names.lookup n=some .local:=by kernel_rfl)
 (hd:(n==("__debug__" : Str))=false:=by kernel_rfl)(hcd:(n==("__classdict__" : Str))=false:=by kernel_rfl)(he:ah (e::es) X.env=(false,eval e X.env)::ah es X.env:=by kernel_rfl)(cG:(dh pos (ah es X.env)).any (·.1)=false:=by kernel_rfl):
 JE X C sub EF (.Call (.Name n p) (e::es) [] pos) (.cv i xs):=⟨let⟨k,h1,h2⟩:=L.h;Np h1 h2 hN (.inl hv) GQ ha.h hd hcd he cG⟩
noncomputable def D1 (aK:List Nat)(tc:List Str)(N:List Str)(names:List (Str×NameKind)):Bool:=match aK,tc with
 |[],[]=>true
 |i::is,x::xs=>(N[i]? == some x)&&(names.lookup x==some .cell)&&D1 is xs N names
 |_,_=>false
theorem JR:∀(aK:List Nat)(tc N:List Str)(names:List (Str×NameKind)),D1 aK tc N names=true->(∀(j:Nat)(x:Str),tc[j]? = some x->∃ i,aK[j]? = some i/\N[i]? = some x/\names.lookup x=some .cell)/\tc.length=aK.length
 |[],[],N,names,_=>⟨fun j x e=>by simp at e,rfl⟩
 |[],_::_,_,_,h=>by simp [D1]at h
 |_::_,[],_,_,h=>by simp [D1]at h
 |i::is,y::ys,N,names,h=>by
  simp only[D1,aq,beq_iff_eq]at h
  obtain⟨⟨h1,h2⟩,h3⟩:=h
  obtain⟨q1,q2⟩:=JR is ys N names h3
  refine⟨fun j x e=>?_,by simp [q2]⟩
  cases j with
  |zero=>simp at e;subst e;exact⟨i,rfl,h1,h2⟩
  |succ j=>simpa using q1 j x (by simpa using e)
noncomputable def GV (T:jI):Bool:=(T.scope.names.all fun p=>!(p.2 == .free)||T.aK.contains p.1)&&T.aK.all fun x=>T.scope.names.lookup x==some .free
theorem Ll {pa:Arguments}{bo:Expr}{sc:Scope}(T:jI)(h:nE X C n fid)(h1:JE X C sub EF e1 x1)(h2:JE X C sub EF e2 x2)(hB:rD X.mg X.base)(hT:LT g=some T)(hcode:X.env.code=.ref κ.c)(hfn:∀ x,X.fn x=true)
 (hl1:pa=T.params:=by kernel_rfl)(hl2:bo=T.body:=by kernel_rfl)(hl3:sc=T.scope:=by kernel_rfl)(hq:T.q=X.env.qual ++"<lambda>":=by kernel_rfl)(hκ:T.q=⟨κ.q.toArray⟩:=by kernel_rfl)(hln:κ.ln=lpos.line:=by kernel_rfl)(hcol:κ.col=lpos.col:=by kernel_rfl)
 (hf:GV T=true:=by kernel_rfl)(hc:D1 aK T.aK X.N X.env.scope.names=true:=by kernel_rfl)(hdef:Pz T.params X.env=([],[]):=by kernel_rfl)(hg:X.env.kindOf n=some .globalImplicit:=by kernel_rfl)(hdb:(n==("__debug__" : Str))=false:=by kernel_rfl)
 (he:ah [e1,e2,(.Lambda pa bo sc lpos)] X.env=[(false,eval e1 X.env),(false,eval e2 X.env),(false,eval (.Lambda pa bo sc lpos) X.env)]:=by kernel_rfl)(he2:ah [e2,(.Lambda pa bo sc lpos)] X.env=[(false,eval e2 X.env),(false,eval (.Lambda pa bo sc lpos) X.env)]:=by kernel_rfl):
 JE X C sub EF (.Call (.Name n p) [e1,e2,(.Lambda pa bo sc lpos)] [] pos) (.callL fid [x1,x2] g aK κ):=by
 subst hl1 hl2 hl3
 obtain⟨k,f,fd,ps,q1,q2,q3,q4,q5⟩:=h.h
 obtain⟨c1,c2⟩:=JR _ _ _ _ hc
 simp only[GV,aq,oh]at hf
 refine⟨YL q1 q2 hg q3 q4 q5 h1.h h2.h hB hT hq hκ hln hcol hcode hfn (fun p hp hf'=>?_) (fun x hx=>by simpa using hf.2 x hx) c1 c2 hdef hdb he he2⟩
 have:=hf.1 p hp
 rw[hf']at this
 simpa using this
end
noncomputable def uF (K:aa)(mg:Str->Option Value)(n q:Str)(st:Stmt)(at_:At)(oc:Option Addr):Prop:=∃ a fd,xW K n q st a fd/\UN K mg n a at_/\∀ c,oc=some c->fd.code=.ref c
theorem rV.Cb {K:aa}{mg:Str->Option Value}{n q:Str}{st:Stmt}{at_:At}(h:rV K mg n q st at_):uF K mg n q st at_ none:=let⟨a,fd,h1,h2⟩:=h;⟨a,fd,h1,h2,fun _ z=>nomatch z⟩
theorem QR {K:aa}{h:Heap}{mg:Str->Option Value}(X:K.In h)(G:h.Ns cj mg){n:Str}{st:Stmt}{f c:Addr}{oc:Value}{od an:Option Addr}{sl:Array (Option Value)}{kV dc pm ct:Value}
 (a:gV K cj n=some (some (.ref f)))(l:K.lookup f=some ⟨oc,od,.func (gy n n (lA st) (eU st) (aJ st) .none kV dc pm an (.ref c) ct),sl⟩)(cc:j6 K (.ref c) n=true)(k:ek K (.ref f)=true):uF K mg n n st .top (some c) :=
 ⟨f,_,CF l cc k,kq X G a,fun _ z=>by cases z;rfl⟩
theorem HA {K:aa}{mg:Str->Option Value}{nm qn:Nat->Str}{ps:Nat->List Str}{st:Nat->Stmt}{at_:Nat->At}{cd:Nat->Option Addr}:∀(nf:Nat),(∀ i,i<nf->DX (nm i) (qn i) (ps i) (st i))->(∀ i,i<nf->uF K mg (nm i) (qn i) (st i) (at_ i) (cd i))->gj->∃ T:EE K mg nf nm qn ps st at_,∀ i,i<nf->∀ c,cd i=some c->(T.fd i).code=.ref c
 |0,_,_,d=>⟨⟨fun _=>0,fun _=>d,fun i h=>absurd h (by omega),fun i h=>absurd h (by omega),fun i h=>absurd h (by omega)⟩,fun i h=>absurd h (by omega)⟩
 |nf+1,B,H,d=>by
  obtain⟨T,hc⟩:=HA nf (fun i h=>B i (by omega)) (fun i h=>H i (by omega)) d
  obtain⟨a,fd,hF,hm,hcd⟩:=H nf (by omega)
  refine⟨⟨fun i=>if i=nf then a else T.a i,fun i=>if i=nf then fd else T.fd i,fun i h=>?_,fun i h=>?_,fun i h=>?_⟩,fun i h=>?_⟩
  ·by_cases e:i=nf
   ·subst e;simpa using hF
   ·simpa only[if_neg e]using T.fn i (by omega)
  ·by_cases e:i=nf
   ·subst e;simpa using hF.binds (B i (by omega))
   ·simpa only[if_neg e]using T.bi i (by omega)
  ·by_cases e:i=nf
   ·subst e;simpa using hm
   ·simpa only[if_neg e]using T.mg i (by omega)
  ·by_cases e:i=nf
   ·subst e;simpa using hcd
   ·simpa only[if_neg e]using hc i (by omega)
theorem EA {P:br}{w:World}{K:aa}{mg:Str->Option Value}{base:Heap}{G:Prog}{nf:Nat}{nm qn:Nat->Str}{ps:Nat->List Str}{st:Nat->Stmt}{at_:Nat->At}(T:EE K mg nf nm qn ps st at_)
 (step:∀ k,(∀ i,i<nf->fF P w K mg base dH (2*k) (T.a i) (T.fd i) (ps i) (fO K (aM G k) i))->(∀ f Tx,LT f=some Tx->mN P w K mg base (2*k) (aM G k) f)->(∀ i,i<nf->fF P w K mg base dH (2*k+1+1) (T.a i) (T.fd i) (ps i) (fO K (aM G (k+1)) i))/\∀ f Tx,LT f=some Tx->mN P w K mg base (2*k+1+1) (aM G (k+1)) f):
 ∀ k,(∀ i,i<nf->fF P w K mg base dH (2*k) (T.a i) (T.fd i) (ps i) (fO K (aM G k) i))/\∀ f Tx,LT f=some Tx->mN P w K mg base (2*k) (aM G k) f
 |0=>⟨fun i _=>YB,fun f Tx _=>UL⟩
 |k+1=>step k (EA T step k).1 (EA T step k).2
end L3
end
section
namespace L3
open PySem PySem.Spec PyProof.Rows L2
theorem AE {α β:Type}[BEq α] [LawfulBEq α]:∀{l:List (α×β)}{a:α}{b:β},l.lookup a=some b->(a,b)∈l
 |[],_,_,h=>by cases h
 |(x,y)::r,a,b,h=>by
  rw[cu]at h
  split at h
  ·rename_i q
   have q:a=x:=by simpa using q
   subst q
   cases h
   exact cy ..
  ·exact cb _ (AE h)
theorem IY {T:jI}(h1:T.scope.kind=.function:=by kernel_rfl)(h2:T.scope.isCoroutine=false:=by kernel_rfl)(h3:T.scope.isGenerator=false:=by kernel_rfl)(h4:(T.scope.names.all fun p=>!(p.2 == .cell))=true:=by kernel_rfl)(h5:(T.aK++T.ps).Nodup:=by decide +kernel)(h6:(T.ps.all fun x=>T.scope.names.lookup x==some .local)=true:=by kernel_rfl)(h7:GV T=true:=by kernel_rfl):OR T:=by
 simp only[GV,aq,oh]at h7
 rw[oh]at h4 h6
 refine⟨h1,h2,h3,fun x hx z=>?_,h5,fun x hx=>by simpa using h6 x hx,fun x hx=>?_,fun x hx=>by simpa using h7.2 x hx⟩
 ·have:=h4 x hx
  rw[z]at this
  simp at this
 ·have:=h7.1 _ (AE hx)
  simpa using this
end L3
end
section
namespace L3
open PySem PySem.Spec PyProof.Rows L2
theorem MA:∀(l:List Value)(lo:Int),(∀(i:Nat)(v:Value),l[i]? = some v->∃ t,v=.int (lo+(i:Nat)) t)->aQ (((ai l.length).map fun k:Nat=>lo+(k:Nat)).map V.int) l
 |[],_,_=>.nil
 |u::r,lo,h=>by
  rw[bj,jd,aw,aw]
  obtain⟨t,e⟩:=h 0 u rfl
  refine .cons ⟨t,e⟩ ?_
  have:=MA r (lo+1) fun i v hv=>by
   obtain⟨t,e⟩:=h (i+1) v hv
   exact⟨t,by rw[e];congr 1;omega⟩
  rw[j1,j1]at *
  have ef:(V.int∘(fun k:Nat=>lo+(k:Nat)))∘Nat.succ=V.int∘fun k:Nat=>lo+1+(k:Nat):=by funext k;simp;omega
  rw[ef];exact this
theorem E3 {K:aa}{H:Hp}:∀ ns:List Int,aL K H (ns.map .int) (ns.map V.int)
 |[]=>.nil
 |i::r=>.cons (.int i) (E3 r)
section
variable {X:Cx}{C:bE}{sub:Nat->Nat->Bool}{E:XK}{a b:Expr}{x y:Ex}{p p2 pos pos2:Pos}
theorem Kc (hC:bQ C C)(hm:X.mg "list" = none)(hm2:X.mg "range" = none)(hc:X.calm=true)(ha:PA X [a,b] (kD X.K (bL C sub E [x,y])))(hg:X.env.kindOf "list" = some .globalImplicit)(hg2:X.env.kindOf "range" = some .globalImplicit)
 (he:ah [.Call (.Name "range" p2) [a,b] [] pos2] X.env=(false,eval (.Call (.Name "range" p2) [a,b] [] pos2) X.env)::ah [] X.env)(cG:(dh pos (ah [] X.env)).any (·.1)=false)
 (hs:ah [a,b] X.env=[(false,eval a X.env),(false,eval b X.env)])(hs2:ah [b] X.env=[(false,eval b X.env)]):
 PE X (.Call (.Name "list" p) [.Call (.Name "range" p2) [a,b] [] pos2] [] pos) (bW X.K (aI C sub E (.bit .list .range [x,y]))):=by
 intro pins s σ H Q I ⟨σd,st,R,r,ok,q,hq⟩
 refine dm (kQ I hg hm qM ?_ (by decide) (by decide))
 refine di ?_ he cG
 rw[he]
 show wpAny _ _ (wb ((false,eval (.Call (.Name "range" p2) [a,b] [] pos2) X.env)::dh pos (ah [] X.env))) _ _ s
 refine gx ?_
 refine dm (kQ I hg2 hm2 HG ?_ (by decide) (by decide))
 refine di (bB (ha pos2 pins s σ H _ I ⟨σd,st,_,r,ok,nX [x,y] hC q,fun vs H' z=>z⟩) fun us s1 ⟨vs,H1,I1,rv,ds,aC,dA,aO,rs,l1,q1⟩=>?_) (by rw[hs,hs2]) (by rw[hs2];rfl)
 match ds,l1,q1 with
 |[d,d'],_,q1 =>
 have q1:gG (some .range) [d,d'] aC fun _ xs=>eR .list xs aC R:=q1
 cases rs with|cons r1 r2=>cases r2 with|cons r2 r3 =>
  cases r3
  cases d<;>first|exact(show False from q1).elim|skip
  cases d'<;>first|exact(show False from q1).elim|skip
  rename_i i j _ _
  cases r1.int_inv;cases r2.int_inv
  cases rv with|cons v1 rv=>cases rv with|cons v2 rv =>
  cases rv
  obtain⟨t,rfl⟩:=v1
  obtain⟨t',rfl⟩:=v2
  obtain⟨⟨a1,a2⟩,⟨b1,b2⟩,q1⟩:=q1
  have hh:X.A.handled=none:=I1.ok.hd hc
  have q1:gE (dX i (j-i).toNat) aC R:=q1
  have hln:(dX i (j-i).toNat).length=(j-i).toNat:=by simp [dX]
  have hz:(j-i).toNat<=2 ^ 24:=by have:=q1.1;rw[hln]at this;exact this
  refine call_range_2 (kv ?_)
  refine call_list_range (n:=(j-i).toNat) hh (zg ..) (small_one a1 a2 b1 b2) (by rw[Qc];split<;>omega) hz fun h' tk acc cc k hS hacc=>?_
  have I2:Inv X pins σ H1 { s1 with heap:=s1.heap.push { cls:=.type "range", data:=.fields #[.int i t,.int j t',.int 1 s1.toks] },toks:=s1.toks+1 }:=I1.kept fun b o e=>ag _ e
  obtain⟨h1,h2⟩:=hacc
  have hal:acc.toList.length=(j-i).toNat:=by simpa using h1
  have hv:=MA acc.toList i fun m v hv=>by
   obtain⟨t,e⟩:=h2 m v (by simpa using hv)
   exact⟨t,by rw[e];congr 1;omega⟩
  rw[hal]at hv
  refine⟨.ref _,_,JU (aD:=acc.toList) I2 (I1.ED (az _) I1.fresh) (fun b o hb e=>k b o e) (by simpa using hS) hv (by rw[ab,ab,bw,jh];exact hz),rfl,hq _ _ (.after dA ?_)⟩
  have er:dX i (j-i).toNat=((ai (j-i).toNat).map fun k:Nat=>i+(k:Nat)).map .int:=by simp [dX]
  rw[er]at q1
  exact .gE aO (E3 _) I2.fresh q1.2
theorem Ph (m:bQ C C)(hm:X.mg "list" = none)(hm2:X.mg "range" = none)(ha:JA X C sub E [a,b] [x,y])(hc:X.calm=true:=by kernel_rfl)(hg:X.env.kindOf "list" = some .globalImplicit:=by kernel_rfl)(hg2:X.env.kindOf "range" = some .globalImplicit:=by kernel_rfl)
 (he:ah [.Call (.Name "range" p2) [a,b] [] pos2] X.env=(false,eval (.Call (.Name "range" p2) [a,b] [] pos2) X.env)::ah [] X.env:=by kernel_rfl)(cG:(dh pos (ah [] X.env)).any (·.1)=false:=by kernel_rfl)
 (hs:ah [a,b] X.env=[(false,eval a X.env),(false,eval b X.env)]:=by kernel_rfl)(hs2:ah [b] X.env=[(false,eval b X.env)]:=by kernel_rfl):
 JE X C sub E (.Call (.Name "list" p) [.Call (.Name "range" p2) [a,b] [] pos2] [] pos) (.bit .list .range [x,y]):=⟨Kc m hm hm2 hc ha.h hg hg2 he cG hs hs2⟩
end
end L3
end
section
open L3 PySem
local macro_rules|`(tactic| walk_at"wpe")=>`(tactic| simp only[↓IA,↓FP,↓Gi,↓Kn,↓NH,↓Gu,↓Kl,↓W4,↓Ja,↓Oc,↓Hv,↓Gm,↓Cq,↓Cn,↓Jz,↓Dw,↓BF,↓Lo,↓Kj,↓Bc,↓Gz,↓Nq,↓Hy,↓Mq,↓Y2,↓WL,↓UU,↓Fe,↓Ih,↓Gg,↓Ko,↓Gj,↓RJ,↓LG,↓Kr,↓ZS,↓Hf,↓uG,↓ZW,↓Ct,↓ZN,↓RT,↓Bi,↓ZY,↓XT,↓yS,↓Fy,↓Gy,↓DV,↓Ba,↓Ml,↓Nw,↓Ma,↓Ln,↓Lp,↓Mx,↓Mm,↓Mh,↓Hc,↓Jp,↓Js,↓Ii,↓Cc,↓XU,↓ZG,↓XC,↓SM,↓Dt,↓Fs,↓Au,↓ZK,↓cmp_gt,↓ZU,↓Y9,↓XD,↓SV,↓U8,↓NR,↓K0,↓N0,↓K4,↓IB,↓LA,↓add_int,↓add_str,↓X0,↓L7,↓sub_int,↓mul_int,↓X6,↓SD,↓mod_int,↓pow_int,↓neg_int,↓XS,↓YS,iM,↓kJ,↓LW,↓HS,↓YE,IJ,U3,TY,Ny,Mw,↓aZ,↓P7,↓Bh,↓Fp,↓HB,↓Al,Ik,↓ZC,↓TN,↓SU,↓OZ,↓lZ,↓tS,↓tZ,↓SQ,↓MZ,↓N4,↓XJ,↓R6,↓Y5,↓IV,↓len_str,↓LF,↓RP,↓QT,↓X7,↓Bd,↓Dc,↓QI,↓LX,↓J2,↓An,↓Y6,↓FR,↓Cy,↓ZJ,↓XA,↓US,↓Ed,↓YM,↓XZ,↓CB,↓OK,↓ZD,↓sP,↓xQ,↓HI,↓MB,↓Cu,↓QH,aw,gz,cw,av,a9,el,if_true,if_false,fb,j7,ak,reduceIte,dg,dy,true_and,and_true,vM,N1,xK,NQ,FT,EL,KD,EM,iE,WJ,Dd,XE,jj,mx,my,decide_eq_true_eq,aq,kj,List.zip_nil_left,List.zip_nil_right,pf,List.foldl_nil,bj,bc])
local macro_rules|`(tactic| walk_at"st")=>`(tactic| ((try dsimp only);(first|refine gH ?_|rw[R0]);(try walk_at"wpe")))
local macro_rules|`(tactic| walk_at"ex")=>`(tactic| ((try dsimp only);(try walk_at"wpe")))
section
namespace L3
open PySem
theorem aY {G:Prog}{f k:Nat}{fn:Fn}{ds:List D}{st:aB}{Q:VK}{E:XK}(h:G.fns f=some fn):aM G (k+1) f ds st Q E=(ds.length=fn.np/\cR (aM G k) G.sub fn.body ⟨fun _ aA=>Q .non aA,Q,fun _ _=>False,fun _ _=>False,fun c _ aA=>E c aA⟩ (start fn.np fn.nl ds) st):=by
 simp only[aM,h]
noncomputable def bR (as:List Nat)(st aA:aB):Prop:=∀ a o,a∉as->st a=some o->aA a=some o
theorem bR.refl {as:List Nat}{st:aB}:bR as st st:=fun _ _ _ h=>h
theorem bR.trans {as:List Nat}{a b c:aB}(h:bR as a b)(h':bR as b c):bR as a c:=fun x o n e=>h' x o n (h x o n e)
theorem bR.mono {as bs:List Nat}{st aA:aB}(h:bR as st aA)(s:∀ a∈as,a∈bs):bR bs st aA:=fun x o n e=>h x o (fun z=>n (s x z)) e
theorem Ext.keep {as:List Nat}{st aA:aB}(h:Ext st aA):bR as st aA:=fun x o _ e=>h x o e
theorem bR.put {as:List Nat}{st:aB}{a:Nat}{o:MO}(h:a∈as):bR as st (put st a o):=fun x u n e=>by rw[bD (fun z=>n (by rw[z];exact h))];exact e
noncomputable def vA (ns:List Int)(k:Int):Int:=if k<ns.length then(ns[k.toNat]?).getD 0 else if ns=[]then 0 else(ns[(k % ns.length).toNat]?).getD 0*31+k
noncomputable def jL (ns:List Int)(k many:Int):Int :=
 let d:=(vA ns k+7919*k+1)*48271 % 2147483647
 (d*d+7*d+k) % 2147483629 % many
theorem gA {ns:List Int}{k many:Int}(h:0<many):0<=jL ns k many:=uz _ (by omega)
theorem gD {ns:List Int}{k many:Int}(h:0<many):jL ns k many<many:=qs _ h
noncomputable def mX:Fn:=⟨2,2,[.iff (.cmp .lt (.v 1) (.bi .len [(.v 0)])) [.ret (.ix (.v 0) (.v 1))] [],.iff (.cmp .eq (.v 0) (.lst [])) [.ret (.c (.int 0))] [],
 .ret (.bin .add (.bin .mul (.ix (.v 0) (.bin .mod (.v 1) (.bi .len [(.v 0)]))) (.c (.int 31))) (.v 1))]⟩
noncomputable def lK (ic:Nat):Fn:=⟨3,4,[.asg (.nm 3) (.bin .mod (.bin .mul (.bin .add (.bin .add (.call ic [(.v 0),(.v 1)]) (.bin .mul (.c (.int 7919)) (.v 1))) (.c (.int 1))) (.c (.int 48271))) (.c (.int 2147483647))),
 .ret (.bin .mod (.bin .mod (.bin .add (.bin .add (.bin .mul (.v 3) (.v 3)) (.bin .mul (.c (.int 7)) (.v 3))) (.v 1)) (.c (.int 2147483629))) (.v 2))]⟩
noncomputable def sI (im:Nat):Fn:=⟨3,3,[.asg (.ix (.v 1) (.c (.int 0))) (.bin .add (.ix (.v 1) (.c (.int 0))) (.c (.int 1))),.ret (.call im [(.v 0),(.ix (.v 1) (.c (.int 0))),(.v 2)])]⟩
theorem BN (ns:List Int):bM (ns.map .int)=true/\cK (ns.map .int)=0:=by
 induction ns with
 |nil=>exact⟨rfl,rfl⟩
 |cons n r ih=>exact⟨by simp only[aw,bM,bC,ih.1,dt],by simp only[aw,cK,cJ,ih.2,Nat.max_self]⟩
theorem MU {ns:List Int}{k:Int}(h0:0<=k)(h1:k<ns.length):fQ (ns.map D.int) k=some (.int ((ns[k.toNat]?).getD 0)):=by
 obtain⟨n,rfl⟩:∃ n:Nat,k=n:=⟨k.toNat,by omega⟩
 rw[dW (by simp;omega)]
 simp only[bb,Int.toNat_natCast]
 rw[aj (by omega)]
 rfl
section
variable {G:Prog}{k ic im dD:Nat}{st:aB}{Q:VK}{E:XK}{ns:List Int}
theorem WZ (hc:G.fns ic=some mX){i:Int}(hi:0<=i)(hQ:∀ aA,Ext st aA->Q (.int (vA ns i)) aA):aM G (k+1) ic [.bI (ns.map .int),.int i] st Q E:=by
 rw[aY hc]
 simp only[mX,start]
 refine⟨rfl,?_⟩
 refine gH ?_
 walk_at"wpe"
 simp only[ab]
 by_cases h:i<ns.length
 ·simp only[h,decide_true,if_true]
  refine gH ?_
  walk_at"wpe"
  rw[MU hi h]
  walk_at"wpe"
  have:=hQ st .refl
  simp only[vA,h,if_true]at this
  exact this
 ·simp only[h,decide_false,ak,if_false,aE]
  refine gH ?_
  walk_at"wpe"
  refine⟨Nat.zero_le _,fun p hp=>?_⟩
  have hx:Ext st (put st p (.lst [])):=Ext.new hp
  dsimp only
  have e1:bO (put st p (.lst [])) (.bI (ns.map .int)) (.ref p)=ns.isEmpty:=by
   simp only[bO,aW,AQ]
   cases ns with
   |nil=>rfl
   |cons n r=>rfl
  rw[e1]
  refine⟨⟨?_,df _⟩,⟨?_,df _⟩,?_⟩
  ·simp only[fG,(BN ns).1,(BN ns).2,fy];rfl
  ·simp only[fG,aW,HZ];rfl
  cases ns with
  |nil =>
   simp only[zf,if_true]
   refine gH ?_
   walk_at"wpe"
   have:=hQ _ hx
   simp only[vA,h,if_false,if_true]at this
   exact this
  |cons n r =>
   simp only[yg,ak,if_false,aE]
   refine gH ?_
   have hl:(0:Int)<((n::r).length:Int):=by simp only[bj];omega
   simp only[RT,NH,BF,FP,IA,Cn,LG,RJ,Cj,Z8,R6,IV,mod_int,LW,ab,aw,cw,av,gz]
   refine⟨by simpa using hl,?_⟩
   have hm0:0<=i % ((n::r).length:Int):=uz _ (by omega)
   have hm1:i % ((n::r).length:Int)<(n::r).length:=qs _ hl
   have:=MU (ns:=n::r) hm0 hm1
   simp only[aw,bj]at this
   simp only[bj,ab]
   rw[this]
   walk_at"wpe"
   refine⟨.inr ⟨by omega,by omega⟩,?_⟩
   have:=hQ _ hx
   simp only[vA,h,if_false]at this
   simpa using this
theorem A3 (hm:G.fns im=some (lK ic))(hc:G.fns ic=some mX){i many:Int}(hi:0<=i)(hmany:0<many)(hQ:∀ aA,Ext st aA->Q (.int (jL ns i many)) aA):aM G (k+2) im [.bI (ns.map .int),.int i,.int many] st Q E:=by
 rw[aY hm]
 simp only[lK,start]
 refine⟨rfl,?_⟩
 refine gH ?_
 walk_at"wpe"
 refine WZ hc hi fun aA e=>?_
 walk_at"wpe"
 refine⟨.inl ⟨by omega,by omega⟩,.inr ⟨by omega,by omega⟩,by omega,?_⟩
 refine gH ?_
 walk_at"wpe"
 have d0:0<=(vA ns i+7919*i+1)*48271 % 2147483647:=uz _ (by omega)
 have d1:(vA ns i+7919*i+1)*48271 % 2147483647<2147483647:=qs _ (by omega)
 refine⟨.inl ⟨by omega,by omega⟩,.inl ⟨by omega,by omega⟩,by omega,hmany,?_⟩
 exact hQ aA e
theorem fL (hn:G.fns dD=some (sI im))(hm:G.fns im=some (lK ic))(hc:G.fns ic=some mX){a:Nat}{i many:Int}(ha:st a=some (.lst [.int i]))(hi:0<=i)(hmany:0<many)
 (hQ:∀ aA,bR [a] st aA->aA a=some (.lst [.int (i+1)])->Q (.int (jL ns (i+1) many)) aA):aM G (k+3) dD [.bI (ns.map .int),.ref a,.int many] st Q E:=by
 rw[aY hn]
 simp only[sI,start]
 refine⟨rfl,?_⟩
 refine gH ?_
 walk_at"wpe"
 rw[eQ ha]
 walk_at"wpe"
 rw[aH ha]
 have e0:nW [D.int i].length 0=some 0:=rfl
 simp only[e0,aZ,dg]
 refine gH ?_
 walk_at"wpe"
 rw[eQ aW]
 walk_at"wpe"
 refine A3 hm hc (by omega) hmany fun aA e=>?_
 refine hQ aA (fun x o n h=>e x o (by rw[bD (by simpa using n)];exact h)) (e a _ aW)
end
end L3
end
section
namespace L3
open PySem
inductive W1 where
 |not|before|once|sofar
 deriving DecidableEq
inductive W2 where
 |and|or|bB|same|since
 deriving DecidableEq
inductive Sy where
 |yes|no|cO (n:List Nat)|one (w:W1)(s:Sy)|two (w:W2)(s t:Sy)
 deriving DecidableEq
noncomputable def c1:W1->List Nat
 |.not=>W "not"
 |.before=>W "before"
 |.once=>W "once"
 |.sofar=>W "sofar"
noncomputable def c2:W2->List Nat
 |.and=>W "and"
 |.or=>W "or"
 |.bB=>W "then"
 |.same=>W "same"
 |.since=>W "since"
noncomputable def toD:Sy->D
 |.yes=>.tup [.str (W "yes")]
 |.no=>.tup [.str (W "no")]
 |.cO n=>.tup [.str (W "lamp"),.str n]
 |.one w s=>.tup [.str (c1 w),toD s]
 |.two w s t=>.tup [.str (c2 w),toD s,toD t]
noncomputable def aN:Sy->Nat
 |.one _ s=>aN s+1
 |.two _ s t=>max (aN s) (aN t)+1
 |_=>1
noncomputable def p1:W1->Bool
 |.not=>false
 |_=>true
noncomputable def p2:W2->Bool
 |.since=>true
 |_=>false
noncomputable def cnt:Sy->Nat
 |.one w s=>(if p1 w then 1 else 0)+cnt s
 |.two w s t=>(if p2 w then 1 else 0)+(cnt s+cnt t)
 |_=>0
noncomputable def over (names:List (List Nat)):Sy->Prop
 |.cO n=>n∈names
 |.one _ s=>over names s
 |.two _ s t=>over names s/\over names t
 |_=>True
theorem lX:∀ s:Sy,bC (toD s)=true
 |.yes=>rfl
 |.no=>rfl
 |.cO n=>rfl
 |.one w s=>by simp only[toD,bC,bM,lX s,dt]
 |.two w s t=>by simp only[toD,bC,bM,lX s,lX t,dt]
theorem qJ:∀ s:Sy,cJ (toD s)=aN s
 |.yes=>rfl
 |.no=>rfl
 |.cO n=>rfl
 |.one w s=>by simp only[toD,cJ,cK,qJ s,aN];omega
 |.two w s t=>by simp only[toD,cJ,cK,qJ s,qJ t,aN];omega
noncomputable def oA (dD is:Nat):Fn:=⟨5,7,[.asg (.nm 5) (.call dD [(.v 0),(.v 1),(.c (.int 13))]),.iff (.or_ (.cmp .eq (.v 3) (.c (.int 0))) (.cmp .lt (.v 5) (.c (.int 3)))) [.ret (.tup [(.c (.str (W "lamp"))),(.ix (.v 2) (.call dD [(.v 0),(.v 1),(.bi .len [(.v 2)])]))])] [],.iff (.cmp .eq (.v 5) (.c (.int 3))) [.ret (.tup [(.ix (.lst [(.c (.str (W "yes"))),(.c (.str (W "no")))]) (.call dD [(.v 0),(.v 1),(.c (.int 2))]))])] [],.iff (.and_ (.cmp .gt (.v 5) (.c (.int 8))) (.cmp .gt (.ix (.v 4) (.c (.int 0))) (.c (.int 0)))) [.asg (.ix (.v 4) (.c (.int 0))) (.bin .sub (.ix (.v 4) (.c (.int 0))) (.c (.int 1))),.asg (.nm 6) (.call is [(.v 0),(.v 1),(.v 2),(.bin .sub (.v 3) (.c (.int 1))),(.v 4)]),.iff (.cmp .eq (.v 5) (.c (.int 12))) [.ret (.tup [(.c (.str (W "since"))),(.v 6),(.call is [(.v 0),(.v 1),(.v 2),(.bin .sub (.v 3) (.c (.int 1))),(.v 4)])])] [],.ret (.tup [(.ix (.lst [(.c (.str (W "before"))),(.c (.str (W "once"))),(.c (.str (W "sofar")))]) (.bin .sub (.v 5) (.c (.int 9)))),(.v 6)])] [],.asg (.nm 6) (.call is [(.v 0),(.v 1),(.v 2),(.bin .sub (.v 3) (.c (.int 1))),(.v 4)]),.iff (.or_ (.cmp .eq (.v 5) (.c (.int 4))) (.cmp .gt (.v 5) (.c (.int 8)))) [.ret (.tup [(.c (.str (W "not"))),(.v 6)])] [],.ret (.tup [(.ix (.lst [(.c (.str (W "and"))),(.c (.str (W "or"))),(.c (.str (W "then"))),(.c (.str (W "same")))]) (.bin .sub (.v 5) (.c (.int 5)))),(.v 6),(.call is [(.v 0),(.v 1),(.v 2),(.bin .sub (.v 3) (.c (.int 1))),(.v 4)])])]⟩
noncomputable def Drawn (a b:Nat)(i l:Int)(st aA:aB)(i' l':Int):Prop:=bR [a,b] st aA/\0<=i'/\aA a=some (.lst [.int i'])/\aA b=some (.lst [.int l'])
section
variable {G:Prog}{k ic im dD is:Nat}{st:aB}{Q:VK}{E:XK}{ns:List Int}
theorem X5 {xs:List (List Nat)}{v:Int}(h0:0<=v)(h1:v<xs.length):∃ x∈xs,fQ (xs.map D.str) v=some (.str x):=by
 obtain⟨n,rfl⟩:∃ n:Nat,v=n:=⟨v.toNat,by omega⟩
 have h:n<xs.length:=by omega
 refine⟨xs[n],List.getElem_mem h,?_⟩
 rw[dW (by simpa using h)]
 simp only[bb]
 rw[aj h]
 rfl
theorem VT {d:D}{r:List D}:nW (d::r).length 0=some 0:=by
 unfold nW
 rw[if_pos (by omega),if_pos (by simp only[bj];omega)]
 rfl
theorem bV {ds:List D}{Q:VK}(hl:ds.length<=bK)(h:∀ p aA,Ext st aA->st p=none->aA p=some (.lst ds)->Q (.ref p) aA):gE ds st Q:=⟨hl,fun p hp=>h p _ (Ext.new hp) hp aW⟩
theorem rX (hs:G.fns is=some (oA dD is))(hn:G.fns dD=some (sI im))(hm:G.fns im=some (lK ic))(hc:G.fns ic=some mX){names:List (List Nat)}(kI:0<names.length){a b:Nat}(dS:a≠b):
  ∀(n:Nat){st:aB}{Q:VK}{E:XK}{i l:Int},st a=some (.lst [.int i])->st b=some (.lst [.int l])->0<=i->0<=l ->
   (∀ s aA i',over names s->aN s<=n+1->(cnt s:Int)<=l->bR [a,b] st aA->0<=i'->aA a=some (.lst [.int i'])->aA b=some (.lst [.int (l-cnt s)])->Q (toD s) aA) ->
   aM G (k+n+4) is [.bI (ns.map .int),.ref a,.tup (names.map .str),.int n,.ref b] st Q E:=by
 intro n
 have cO:∀{n:Nat}{st:aB}{Q:VK}{E:XK}{i l:Int}{K:Nat}{P:gM}{r:St},st a=some (.lst [.int i])->st b=some (.lst [.int l])->0<=i->0<=l ->
   (∀ s aA i',over names s->aN s<=n+1->(cnt s:Int)<=l->bR [a,b] st aA->0<=i'->aA a=some (.lst [.int i'])->aA b=some (.lst [.int (l-cnt s)])->P.rt (toD s) aA) ->
   cR (aM G (K+3)) G.sub [.ret (.tup [(.c (.str (W "lamp"))),(.ix (.v 2) (.call dD [(.v 0),(.v 1),(.bi .len [(.v 2)])]))])] P (some (.bI (ns.map .int))::some (.ref a)::some (.tup (names.map .str))::r) st:=by
  intro n st Q E i l K P r ha hb hi hl hQ
  walk_at"st"
  simp only[ab]
  refine fL hn hm hc ha hi (by omega) fun aC k1 a1=>?_
  walk_at"ex"
  obtain⟨x,hx,e⟩:=X5 (xs:=names) (gA (ns:=ns) (k:=i+1) (many:=names.length) (by omega)) (gD (by omega))
  rw[e]
  walk_at"ex"
  have b1:aC b=some (.lst [.int l]):=k1 b _ (by simpa using dS.symm) hb
  exact hQ (.cO x) aC (i+1) hx (by simp [aN]) (by simp [cnt];omega) (k1.mono (by simp)) (by omega) a1 (by simpa [cnt]using b1)
 induction n with
 |zero =>
  intro st Q E i l ha hb hi hl hQ
  rw[aY hs]
  simp only[oA,start]
  refine⟨rfl,?_⟩
  walk_at"st"
  refine fL hn hm hc ha hi (by omega) fun aC k1 a1=>?_
  walk_at"st"
  simp only[lj,beq_self_eq_true,if_true]
  have b1:aC b=some (.lst [.int l]):=k1 b _ (by simpa using dS.symm) hb
  have kk:bR [a,b] st aC:=k1.mono (by simp)
  exact cO (n:=0) (Q:=Q) (E:=E) a1 b1 (by omega) hl fun s aA i' h1 h2 h3 h4 h5 h6 h7=>hQ s aA i' h1 h2 h3 (kk.trans h4) h5 h6 h7
 |succ n ih =>
  intro st Q E i l ha hb hi hl hQ
  rw[aY hs]
  simp only[oA,start]
  refine⟨rfl,?_⟩
  walk_at"st"
  refine fL hn hm hc ha hi (by omega) fun aC k1 a1=>?_
  have v0:=gA (ns:=ns) (k:=i+1) (many:=13) (by omega)
  have v1:=gD (ns:=ns) (k:=i+1) (many:=13) (by omega)
  generalize jL ns (i+1) 13=v at v0 v1
  have b1:aC b=some (.lst [.int l]):=k1 b _ (by simpa using dS.symm) hb
  have kk:bR [a,b] st aC:=k1.mono (by simp)
  have hn0:(((n+1:Nat):Int)==0)=false:=by rw[beq_eq_false_iff_ne];omega
  have hn1:((n+1:Nat):Int)-1=(n:Int):=by omega
  walk_at"st"
  simp only[hn0,ak,if_false]
  by_cases h3:v<3
  ·simp only[h3,decide_true,if_true]
   exact cO (n:=n+1) (Q:=Q) (E:=E) a1 b1 (by omega) hl fun s aA i' h1 h2 h3 h4 h5 h6 h7=>hQ s aA i' h1 h2 h3 (kk.trans h4) h5 h6 h7
  simp only[h3,decide_false,ak,if_false,aE]
  walk_at"st"
  by_cases e3:v=3
  ·subst e3
   simp only[beq_self_eq_true,if_true]
   walk_at"st"
   refine bV (by decide) fun p aF x2 hp kA=>?_
   walk_at"ex"
   have pa:p≠a:=fun z=>by rw[z,a1]at hp;cases hp
   have pb:p≠b:=fun z=>by rw[z,b1]at hp;cases hp
   refine fL hn hm hc (x2 a _ a1) (by omega) (by omega) fun aU k3 a3=>?_
   walk_at"ex"
   have w0:=gA (ns:=ns) (k:=i+1+1) (many:=2) (by omega)
   have w1:=gD (ns:=ns) (k:=i+1+1) (many:=2) (by omega)
   generalize jL ns (i+1+1) 2=w at w0 w1
   rw[eQ (k3 p _ (by simpa using pa) kA)]
   have b3:aU b=some (.lst [.int l]):=k3 b _ (by simpa using dS.symm) (x2 b _ b1)
   have kk3:bR [a,b] st aU:=(kk.trans x2.keep).trans (k3.mono (by simp))
   obtain rfl|rfl:w=0∨w=1:=by omega
   ·walk_at"ex"
    exact hQ .yes aU _ trivial (by simp [aN]) (by simp [cnt];omega) kk3 (by omega) a3 (by simpa [cnt]using b3)
   ·walk_at"ex"
    exact hQ .no aU _ trivial (by simp [aN]) (by simp [cnt];omega) kk3 (by omega) a3 (by simpa [cnt]using b3)
  have e3':(v==3)=false:=by rw[beq_eq_false_iff_ne];exact e3
  simp only[e3',ak,if_false,aE]
  walk_at"st"
  have plain:∀{P:gM},(∀ s aA i',over names s->aN s<=n+1+1->(cnt s:Int)<=l->bR [a,b] st aA->0<=i'->aA a=some (.lst [.int i'])->aA b=some (.lst [.int (l-cnt s)])->P.rt (toD s) aA) ->
    cR (aM G (k+n+4)) G.sub [.asg (.nm 6) (.call is [(.v 0),(.v 1),(.v 2),(.bin .sub (.v 3) (.c (.int 1))),(.v 4)]),.iff (.or_ (.cmp .eq (.v 5) (.c (.int 4))) (.cmp .gt (.v 5) (.c (.int 8)))) [.ret (.tup [(.c (.str (W "not"))),(.v 6)])] [],.ret (.tup [(.ix (.lst [(.c (.str (W "and"))),(.c (.str (W "or"))),(.c (.str (W "then"))),(.c (.str (W "same")))]) (.bin .sub (.v 5) (.c (.int 5)))),(.v 6),(.call is [(.v 0),(.v 1),(.v 2),(.bin .sub (.v 3) (.c (.int 1))),(.v 4)])])] P [some (.bI (ns.map .int)),some (.ref a),some (.tup (names.map .str)),some (.int ((n+1:Nat):Int)),some (.ref b),some (.int v),none] aC:=by
   intro P hQ
   walk_at"st"
   rw[hn1]
   refine ih a1 b1 (by omega) hl fun s1 aF i2 o1 d1 cc1 k2 hi2 a2 b2=>?_
   walk_at"st"
   have hor:((v==4)||decide (8<v))=true∨(v=5∨v=6∨v=7∨v=8):=by
    by_cases q:v=4
    ·left;simp [q]
    ·by_cases q':8<v
     ·left;simp [q']
     ·right;omega
   rcases hor with hor|hor
   ·have go:cR (aM G (k+n+4)) G.sub [.ret (.tup [.c (.str (W "not")),.v 6])] { P with nx:=cR (aM G (k+n+4)) G.sub [.ret (.tup [(.ix (.lst [(.c (.str (W "and"))),(.c (.str (W "or"))),(.c (.str (W "then"))),(.c (.str (W "same")))]) (.bin .sub (.v 5) (.c (.int 5)))),(.v 6),(.call is [(.v 0),(.v 1),(.v 2),(.bin .sub (.v 3) (.c (.int 1))),(.v 4)])])] P } [some (.bI (ns.map .int)),some (.ref a),some (.tup (names.map .str)),some (.int ((n+1:Nat):Int)),some (.ref b),some (.int v),some (toD s1)] aF:=by
     walk_at"st"
     exact hQ (.one .not s1) aF i2 o1 (by simp only[aN];omega) (by simp [cnt,p1];omega) (kk.trans k2) hi2 a2 (by simpa [cnt,p1]using b2)
    by_cases q:v=4
    ·simp only[q,beq_self_eq_true,if_true]
     rw[q]at go;exact go
    ·have q1:(v==4)=false:=by rw[beq_eq_false_iff_ne];exact q
     have q2:8<v:=by simpa [q1]using hor
     simp only[q1,q2,ak,if_false,if_true]
     exact go
   ·have q1:(v==4)=false:=by rw[beq_eq_false_iff_ne];omega
    have q2:¬8<v:=by omega
    simp only[q1,q2,ak,if_false,aE]
    walk_at"st"
    refine bV (by decide) fun p aU x3 hp hp3=>?_
    walk_at"ex"
    rw[eQ hp3]
    have pa:p≠a:=fun z=>by rw[z,a2]at hp;cases hp
    have pb:p≠b:=fun z=>by rw[z,b2]at hp;cases hp
    have step:∀ w:W2,p2 w=false->∀{Q:VK},(∀ s aA i',over names s->aN s<=n+1+1->(cnt s:Int)<=l->bR [a,b] st aA->0<=i'->aA a=some (.lst [.int i'])->aA b=some (.lst [.int (l-cnt s)])->Q (toD s) aA) ->
      aM G (k+n+4) is [.bI (ns.map .int),.ref a,.tup (names.map .str),.int (((n+1:Nat):Int)-1),.ref b] aU (fun d aA=>Q (.tup [.str (c2 w),toD s1,d]) aA) fun c aA=>P.ex c [some (.bI (ns.map .int)),some (.ref a),some (.tup (names.map .str)),some (.int ((n+1:Nat):Int)),some (.ref b),some (.int v),some (toD s1)] aA:=by
     intro w hw Q hQ
     rw[hn1]
     refine ih (x3 a _ a2) (x3 b _ b2) hi2 (by omega) fun s2 cN i4 o2 d2 c2' k4 hi4 a4 b4=>?_
     refine hQ (.two w s1 s2) cN i4 ⟨o1,o2⟩ (by simp only[aN];omega) (by simp only[cnt,hw];simp;omega) ((kk.trans k2).trans (x3.keep.trans k4)) hi4 a4 ?_
     rw[b4];simp only[cnt,hw];simp;omega
    rcases hor with rfl|rfl|rfl|rfl
    ·walk_at"ex"; exact step .and rfl hQ
    ·walk_at"ex"; exact step .or rfl hQ
    ·walk_at"ex"; exact step .bB rfl hQ
    ·walk_at"ex"; exact step .same rfl hQ
  by_cases h8:8<v
  ·simp only[h8,if_true]
   rw[eQ b1]
   walk_at"ex"
   by_cases hl0:0<l
   ·simp only[hl0,if_true]
    walk_at"st"
    rw[eQ b1]
    walk_at"ex"
    rw[aH b1]
    simp only[VT,aZ,dg]
    have a2:(put aC b (.lst [.int (l-1)])) a=some (.lst [.int (i+1)]):=by rw[bD dS];exact a1
    have kp:bR [a,b] st (put aC b (.lst [.int (l-1)])):=kk.trans (bR.put (by simp))
    walk_at"st"
    rw[hn1]
    refine ih a2 aW (by omega) (by omega) fun s1 aF i2 o1 d1 cc1 k2 hi2 a3 b3=>?_
    walk_at"st"
    by_cases e12:v=12
    ·simp only[e12,beq_self_eq_true,if_true]
     walk_at"st"
     rw[hn1]
     refine ih a3 b3 hi2 (by omega) fun s2 cN i4 o2 d2 c2' k4 hi4 a4 b4=>?_
     refine hQ (.two .since s1 s2) cN i4 ⟨o1,o2⟩ (by simp only[aN];omega) (by simp [cnt,p2];omega) ((kp.trans k2).trans k4) hi4 a4 ?_
     rw[b4];simp [cnt,p2];omega
    ·have e12':(v==12)=false:=by rw[beq_eq_false_iff_ne];exact e12
     simp only[e12',ak,if_false,aE]
     walk_at"st"
     refine bV (by decide) fun p aU x3 hp hp3=>?_
     walk_at"ex"
     rw[eQ hp3]
     have fin:∀ w:W1,p1 w=true->Q (.tup [.str (c1 w),toD s1]) aU:=fun w hw=>by
      refine hQ (.one w s1) aU i2 o1 (by simp only[aN];omega) (by simp [cnt,hw];omega) ((kp.trans k2).trans x3.keep) hi2 (x3 _ _ a3) ?_
      rw[x3 _ _ b3];simp [cnt,hw];omega
     obtain rfl|rfl|rfl:v=9∨v=10∨v=11:=by omega
     ·walk_at"ex"; exact fin .before rfl
     ·walk_at"ex"; exact fin .once rfl
     ·walk_at"ex"; exact fin .sofar rfl
   ·simp only[hl0,if_false,aE]
    exact plain hQ
  ·simp only[h8,if_false,aE]
   exact plain hQ
end
end L3
end
section
namespace L3
open PySem
noncomputable def oN:List (List Nat):=[W "a", W "b", W "x", W "y", W "lamp", W "far", W "yesno", W "abcdefgh"]
noncomputable def tJ (fs gs:List (List Nat)):Bool:=decide (1<=fs.length)&&decide (fs.length<=2)&&decide (1<=gs.length)&&decide (gs.length<=2)&&decide ((fs++gs).Nodup)&&(fs++gs).all fun n=>oN.contains n
noncomputable def pX (t:Int):List (List Nat):=cut oN (some t) none++cut oN none (some t)
theorem OV:∀(t:Fin 8)(f g:Fin 2),tJ (cut (pX (t.val:Nat)) none (some (1+(f.val:Nat)))) (cut (pX (t.val:Nat)) (some (1+(f.val:Nat))) (some (1+(f.val:Nat)+(1+(g.val:Nat)))))=true:=by decide +kernel
theorem QM {t f g:Int}(h0:0<=t)(h1:t<8)(h2:0<=f)(h3:f<2)(h4:0<=g)(h5:g<2):tJ (cut (pX t) none (some (1+f))) (cut (pX t) (some (1+f)) (some (1+f+(1+g))))=true:=by
 have:=OV ⟨t.toNat,by omega⟩ ⟨f.toNat,by omega⟩ ⟨g.toNat,by omega⟩
 simp only[pz h0,pz h2,pz h4]at this
 exact this
theorem zD {α β:Type}(f:α->β)(xs:List α)(lo hi:Option Int):cut (xs.map f) lo hi=(cut xs lo hi).map f:=by
 simp only[cut,ab,Qj,List.map_drop]
noncomputable def CW (dD:Nat):Fn:=⟨2,7,[.asg (.nm 2) (.lst [(.c (.str (W "a"))),(.c (.str (W "b"))),(.c (.str (W "x"))),(.c (.str (W "y"))),(.c (.str (W "lamp"))),(.c (.str (W "far"))),(.c (.str (W "yesno"))),(.c (.str (W "abcdefgh")))]),.asg (.nm 3) (.call dD [(.v 0),(.v 1),(.c (.int 8))]),.asg (.nm 4) (.bin .add (.sl (.v 2) [(.v 3)] []) (.sl (.v 2) [] [(.v 3)])),.asg (.nm 5) (.bin .add (.c (.int 1)) (.call dD [(.v 0),(.v 1),(.c (.int 2))])),.asg (.nm 6) (.bin .add (.c (.int 1)) (.call dD [(.v 0),(.v 1),(.c (.int 2))])),.ret (.tup [(.bi .tuple [(.sl (.v 4) [] [(.v 5)])]),(.bi .tuple [(.sl (.v 4) [(.v 5)] [(.bin .add (.v 5) (.v 6))])])])]⟩
section
variable {G:Prog}{k ic im dD is:Nat}{st:aB}{Q:VK}{E:XK}{ns:List Int}
theorem TU {inm:Nat}(hm':G.fns inm=some (CW dD))(hn:G.fns dD=some (sI im))(hm:G.fns im=some (lK ic))(hc:G.fns ic=some mX){a:Nat}{i:Int}(ha:st a=some (.lst [.int i]))(hi:0<=i)
  (hQ:∀ fs gs aA i',tJ fs gs=true->bR [a] st aA->0<=i'->aA a=some (.lst [.int i'])->Q (.tup [.tup (fs.map .str),.tup (gs.map .str)]) aA):
  aM G (k+4) inm [.bI (ns.map .int),.ref a] st Q E:=by
 have hL:bK=16777216:=rfl
 rw[aY hm']
 simp only[CW,start]
 refine⟨rfl,?_⟩
 walk_at"st"
 refine bV (by decide) fun p aC x1 hp hp1=>?_
 have pa:p≠a:=fun z=>by rw[z,ha]at hp;cases hp
 walk_at"st"
 refine fL hn hm hc (x1 a _ ha) hi (by omega) fun aF k2 a2=>?_
 have t0:=gA (ns:=ns) (k:=i+1) (many:=8) (by omega)
 have t1:=gD (ns:=ns) (k:=i+1) (many:=8) (by omega)
 generalize jL ns (i+1) 8=t at t0 t1
 have p2:=k2 p _ (by simpa using pa) hp1
 walk_at"st"
 rw[aH p2]
 intro q hq
 have x3:Ext aF (put aF q (.lst (cut [.str (W "a"),.str (W "b"),.str (W "x"),.str (W "y"),.str (W "lamp"),.str (W "far"),.str (W "yesno"),.str (W "abcdefgh")] (some t) none))):=Ext.new hq
 walk_at"ex"
 rw[aH (x3 p _ p2)]
 intro q' hq'
 have x4:=Ext.new (o:=.lst (cut [.str (W "a"),.str (W "b"),.str (W "x"),.str (W "y"),.str (W "lamp"),.str (W "far"),.str (W "yesno"),.str (W "abcdefgh")] none (some t))) hq'
 walk_at"ex"
 rw[aH (x4 q _ aW),aH aW]
 have eL:([.str (W "a"),.str (W "b"),.str (W "x"),.str (W "y"),.str (W "lamp"),.str (W "far"),.str (W "yesno"),.str (W "abcdefgh")]:List D)=oN.map .str:=rfl
 have er:cut ([.str (W "a"),.str (W "b"),.str (W "x"),.str (W "y"),.str (W "lamp"),.str (W "far"),.str (W "yesno"),.str (W "abcdefgh")]:List D) (some t) none++cut [.str (W "a"),.str (W "b"),.str (W "x"),.str (W "y"),.str (W "lamp"),.str (W "far"),.str (W "yesno"),.str (W "abcdefgh")] none (some t)=(pX t).map .str:=by
  rw[eL,zD,zD,<-d5];rfl
 have lr:(pX t).length<=16:=by
  have l1:=zC (xs:=oN) (lo:=some t) (hi:=none)
  have l2:=zC (xs:=oN) (lo:=none) (hi:=some t)
  have l3:oN.length=8:=rfl
  simp only[pX,bq];omega
 rw[er]
 refine bV (by simp only[ab];omega) fun r eJ x5 hr hr5=>?_
 have k5:bR [a] st eJ:=((x1.keep.trans k2).trans x3.keep).trans (x4.keep.trans x5.keep)
 have a5:eJ a=some (.lst [.int (i+1)]):=x5 _ _ (x4 _ _ (x3 _ _ a2))
 have ra:r≠a:=fun z=>by rw[z,x4 _ _ (x3 _ _ a2)]at hr;cases hr
 walk_at"st"
 refine fL hn hm hc a5 (by omega) (by omega) fun gJ k6 a6=>?_
 have f0:=gA (ns:=ns) (k:=i+1+1) (many:=2) (by omega)
 have f1:=gD (ns:=ns) (k:=i+1+1) (many:=2) (by omega)
 generalize jL ns (i+1+1) 2=f at f0 f1
 walk_at"ex"
 walk_at"st"
 refine fL hn hm hc a6 (by omega) (by omega) fun lD k7 a7=>?_
 have g0:=gA (ns:=ns) (k:=i+1+1+1) (many:=2) (by omega)
 have g1:=gD (ns:=ns) (k:=i+1+1+1) (many:=2) (by omega)
 generalize jL ns (i+1+1+1) 2=g at g0 g1
 have r7:lD r=some (.lst ((pX t).map .str)):=k7 r _ (by simpa using ra) (k6 r _ (by simpa using ra) hr5)
 walk_at"ex"
 walk_at"st"
 rw[aH r7]
 intro u hu
 walk_at"ex"
 rw[aH aW]
 have xu:=Ext.new (o:=.lst (cut ((pX t).map D.str) none (some (1+f)))) hu
 have c1:=zC (xs:=(pX t).map D.str) (lo:=none) (hi:=some (1+f))
 have c2:=zC (xs:=(pX t).map D.str) (lo:=some (1+f)) (hi:=some (1+f+(1+g)))
 simp only[ab]at c1 c2
 refine⟨by omega,?_⟩
 rw[aH (xu r _ r7)]
 intro u' hu'
 walk_at"ex"
 rw[aH aW]
 refine⟨by omega,?_⟩
 have xu':=Ext.new (o:=.lst (cut ((pX t).map D.str) (some (1+f)) (some (1+f+(1+g))))) hu'
 rw[zD,zD]at *
 exact hQ _ _ _ (i+1+1+1) (QM t0 t1 f0 f1 g0 g1) ((k5.trans (k6.trans k7)).trans (xu.keep.trans xu'.keep)) (by omega) (xu' _ _ (xu _ _ a7))
end
end L3
end
section
namespace L3
open PySem
mutual
theorem YN:∀ d:D,bC d=true->bN d d=true
 |.non,_=>rfl
 |.bl b,_=>by simp [bN]
 |.int i,_=>by simp [bN]
 |.str x,_=>by simp [bN]
 |.tup ds,h=>by simp only[bC]at h;simp only[bN];exact uR ds h
 |.ref _,h=>by simp [bC]at h
 |.cV _ _,h=>by simp [bC]at h
 |.bI _,h=>by simp [bC]at h
 |.exc _,h=>by simp [bC]at h
theorem uR:∀ ds:List D,bM ds=true->gL ds ds=true
 |[],_=>rfl
 |d::ds,h=>by
  simp only[bM,aq]at h
  simp only[gL,YN d h.1,uR ds h.2,dt]
end
mutual
theorem LN {st:aB}:∀ d:D,bC d=true->bO st d d=true
 |.non,_=>rfl
 |.bl b,_=>by simp [bO]
 |.int i,_=>by simp [bO]
 |.str x,_=>by simp [bO]
 |.tup ds,h=>by simp only[bC]at h;simp only[bO];exact KJ ds h
 |.ref _,h=>by simp [bC]at h
 |.cV _ _,h=>by simp [bC]at h
 |.bI _,h=>by simp [bC]at h
 |.exc _,h=>by simp [bC]at h
theorem KJ {st:aB}:∀ ds:List D,bM ds=true->iP st ds ds=true
 |[],_=>rfl
 |d::ds,h=>by
  simp only[bM,aq]at h
  simp only[iP,LN d h.1,KJ ds h.2,dt]
end
theorem Es (w w':W1):(c1 w==c1 w')=decide (w=w'):=by cases w<;>cases w'<;>decide +kernel
theorem Ee (w w':W2):(c2 w==c2 w')=decide (w=w'):=by cases w<;>cases w'<;>decide +kernel
theorem LL (w:W1):(W "lamp" == c1 w)=false/\(c1 w==W "lamp")=false:=by cases w<;>decide +kernel
theorem cQ {st:aB}{as bs:List D}:bO st (.tup as) (.tup bs)=iP st as bs:=by simp only[bO]
theorem bZ {st:aB}{a b:D}{as bs:List D}:iP st (a::as) (b::bs)=(bO st a b&&iP st as bs):=by simp only[iP]
theorem rM {st:aB}:iP st [] []=true:=rfl
theorem mJ {st:aB}{b:D}{bs:List D}:iP st [] (b::bs)=false:=rfl
theorem mF {st:aB}{b:D}{bs:List D}:iP st (b::bs) []=false:=rfl
theorem RU:(W "yes" == W "no")=false/\(W "no" == W "yes")=false:=by decide +kernel
theorem qK {st:aB}:∀ s t:Sy,bO st (toD s) (toD t)=decide (s=t)
 |.yes,.yes=>by simp only[toD,cQ,bZ,iE,rM,beq_self_eq_true,dt,decide_true]
 |.yes,.no=>by simp only[toD,cQ,bZ,iE,RU.1,gg];rfl
 |.yes,.cO _=>by simp only[toD,cQ,bZ,mJ,cg];rfl
 |.yes,.one _ _=>by simp only[toD,cQ,bZ,mJ,cg];rfl
 |.yes,.two _ _ _=>by simp only[toD,cQ,bZ,mJ,cg];rfl
 |.no,.yes=>by simp only[toD,cQ,bZ,iE,RU.2,gg];rfl
 |.no,.no=>by simp only[toD,cQ,bZ,iE,rM,beq_self_eq_true,dt,decide_true]
 |.no,.cO _=>by simp only[toD,cQ,bZ,mJ,cg];rfl
 |.no,.one _ _=>by simp only[toD,cQ,bZ,mJ,cg];rfl
 |.no,.two _ _ _=>by simp only[toD,cQ,bZ,mJ,cg];rfl
 |.cO _,.yes=>by simp only[toD,cQ,bZ,mF,cg];rfl
 |.cO _,.no=>by simp only[toD,cQ,bZ,mF,cg];rfl
 |.cO m,.cO n=>by
  simp only[toD,cQ,bZ,rM,iE,beq_self_eq_true,w9,fy,Sy.cO.injEq]
  rw[Bool.beq_eq_decide_eq]
 |.cO m,.one w s=>by simp only[toD,cQ,bZ,iE,(LL w).1,gg];rfl
 |.cO _,.two _ _ _=>by simp only[toD,cQ,bZ,mJ,cg];rfl
 |.one _ _,.yes=>by simp only[toD,cQ,bZ,mF,cg];rfl
 |.one _ _,.no=>by simp only[toD,cQ,bZ,mF,cg];rfl
 |.one w s,.cO m=>by simp only[toD,cQ,bZ,iE,(LL w).2,gg];rfl
 |.one w s,.one w' s'=>by
  simp only[toD,cQ,bZ,rM,iE,Es,qK s s',w9,Sy.one.injEq]
  by_cases h:w=w'<;>by_cases h':s=s'<;>simp [h,h']
 |.one _ _,.two _ _ _=>by simp only[toD,cQ,bZ,mJ,cg];rfl
 |.two _ _ _,.yes=>by simp only[toD,cQ,bZ,mF,cg];rfl
 |.two _ _ _,.no=>by simp only[toD,cQ,bZ,mF,cg];rfl
 |.two _ _ _,.cO _=>by simp only[toD,cQ,bZ,mF,cg];rfl
 |.two _ _ _,.one _ _=>by simp only[toD,cQ,bZ,mF,cg];rfl
 |.two w s t,.two w' s' t'=>by
  simp only[toD,cQ,bZ,rM,iE,Ee,qK s s',qK t t',w9,Sy.two.injEq]
  by_cases h:w=w'<;>by_cases h':s=s'<;>by_cases h'':t=t'<;>simp [h,h',h'']
theorem LR {st:aB}(x:Sy)(f:List Sy):((f.map toD).any fun d=>bO st d (toD x))=f.contains x:=by
 induction f with
 |nil=>rfl
 |cons y r ih =>
 simp only[aw,j3,ih,qK,mn]
 congr 1
 by_cases h:y=x
 ·simp [h]
 ·simp [h,jc h]
theorem FW (f:List Sy):bM (f.map toD)=true:=by
 induction f with
 |nil=>rfl
 |cons x r ih=>simp only[aw,bM,lX,ih,dt]
theorem IQ {n:Nat}(f:List Sy)(h:∀ s∈f,aN s<=n):cK (f.map toD)<=n:=by
 induction f with
 |nil=>exact df _
 |cons x r ih =>
 simp only[aw,cK,qJ]
 have:=h x (by simp)
 have:=ih fun s hs=>h s (by simp [hs])
 omega
theorem FA {st:aB}{s:Sy}(h:aN s<=60):plainS st (toD s):=⟨uU _ (lX s),c7 (by rw[qJ];exact h) (by decide)⟩
theorem CH {st:aB}{f:List Sy}(h:∀ s∈f,aN s<=60):dM st (f.map toD):=⟨pE _ (FW f),c7 (IQ f h) (by decide)⟩
noncomputable def wd:Sy->List Nat
 |.yes=>W "yes"
 |.no=>W "no"
 |.cO _=>W "lamp"
 |.one w _=>c1 w
 |.two w _ _=>c2 w
noncomputable def subs:Sy->List Sy
 |.one _ s=>[s]
 |.two _ s t=>[s,t]
 |_=>[]
noncomputable def cB:Sy->Bool
 |.one w _=>p1 w
 |.two w _ _=>p2 w
 |_=>false
noncomputable def gI:Sy->Bool
 |.cO _=>true
 |_=>false
theorem oW (s:Sy):∃ r,toD s=.tup (.str (wd s)::r):=by cases s<;>exact⟨_,rfl⟩
theorem S9 {s:Sy}(h:gI s=false):toD s=.tup (.str (wd s)::(subs s).map toD):=by cases s<;>first|rfl|cases h
noncomputable def mS:List (List Nat):=[W "before", W "once", W "sofar", W "since"]
theorem EB (s:Sy):mS.contains (wd s)=cB s:=by
 cases s with
 |one w s=>cases w<;>(simp only[wd,cB];decide +kernel)
 |two w s t=>cases w<;>(simp only[wd,cB];decide +kernel)
 |_=>(simp only[wd,cB];decide +kernel)
theorem DI (s:Sy):(wd s==W "lamp")=gI s:=by
 cases s with
 |one w s=>cases w<;>(simp only[wd,gI];decide +kernel)
 |two w s t=>cases w<;>(simp only[wd,gI];decide +kernel)
 |_=>(simp only[wd,gI];decide +kernel)
noncomputable def eZ (f:List Sy)(s:Sy):List Sy:=if cB s && !f.contains s then f++[s]else f
noncomputable def bA:Sy->List Sy->List Sy
 |.one w s,f=>bA s (eZ f (.one w s))
 |.two w s t,f=>bA t (bA s (eZ f (.two w s t)))
 |_,f=>f
noncomputable def cL:List Sy->List Sy->List Sy
 |[],f=>f
 |s::r,f=>cL r (bA s f)
theorem Dr (s:Sy)(f:List Sy):bA s f=cL (subs s) (eZ f s):=by
 cases s<;>simp [bA,subs,cL,eZ,cB]
theorem LB (a b:List Sy)(f:List Sy):cL (a++b) f=cL b (cL a f):=by
 induction a generalizing f with
 |nil=>rfl
 |cons x r ih=>simp only[cw,cL,ih]
theorem OW (s:Sy)(r f:List Sy):cL (s::r) f=cL (subs s++r) (eZ f s):=by rw[LB,<-Dr];rfl
noncomputable def sz:Sy->Nat
 |.one _ s=>sz s+1
 |.two _ s t=>sz s+sz t+1
 |_=>1
noncomputable def fI (l:List Sy):Nat:=(l.map sz).sum
theorem G0:∀ s:Sy,sz s+1<=2 ^ aN s
 |.yes=>by decide
 |.no=>by decide
 |.cO _=>by simp only[sz,aN];decide
 |.one w s=>by have:=G0 s;simp only[sz,aN,Qx];omega
 |.two w s t=>by
  have h1:=G0 s
  have h2:=G0 t
  have a:=oz (n:=2) (by omega) (u0 (aN s) (aN t))
  have b:=oz (n:=2) (by omega) (tj (aN s) (aN t))
  simp only[sz,aN,Qx];omega
theorem LU (s:Sy):fI (subs s)+1=sz s:=by cases s<;>simp [subs,fI,sz]
theorem A6 {s t:Sy}(h:t∈subs s):aN t<aN s:=by cases s<;>simp [subs]at h<;>simp only[aN]<;>(try rcases h with rfl|rfl)<;>(try subst h)<;>omega
theorem BB {f:List Sy}{s:Sy}{n:Nat}(h:∀ x∈f,aN x<=n)(hs:aN s<=n):∀ x∈eZ f s,aN x<=n:=by
 unfold eZ
 split
 ·intro x hx
  rcases List.mem_append.mp hx with hx|hx
  ·exact h x hx
  ·simp at hx;subst hx;exact hs
 ·exact h
theorem UB (f:List Sy)(s:Sy):(eZ f s).length<=f.length+1:=by unfold eZ;split<;>simp
theorem yT:∀(s:Sy){f:List Sy}{n:Nat},(∀ x∈f,aN x<=n)->aN s<=n->∀ x∈bA s f,aN x<=n
 |.yes,_,_,h,_=>h
 |.no,_,_,h,_=>h
 |.cO _,_,_,h,_=>h
 |.one w s,f,n,h,hs=>yT s (BB h hs) (by simp only[aN]at hs;omega)
 |.two w s t,f,n,h,hs=>yT t (yT s (BB h hs) (by simp only[aN]at hs;omega)) (by simp only[aN]at hs;omega)
end L3
end
section
namespace L3
open PySem
noncomputable def gC:Fn:=⟨1,1,[.iff (.cmp .eq (.ix (.v 0) (.c (.int 0))) (.c (.str (W "lamp")))) [.ret (.tup [])] [],.ret (.sl (.v 0) [(.c (.int 1))] [])]⟩
noncomputable def vG:D:=.tup (mS.map .str)
noncomputable def iL (iw:Nat):Fn:=⟨1,4,[.asg (.nm 1) (.lst []),.asg (.nm 2) (.bit .list .rev [(.v 0)]),.whl (.v 2) [.asg (.nm 3) (.cD .pop (.v 2) []),.iff (.and_ (.cmp .in_ (.ix (.v 3) (.c (.int 0))) (.c vG)) (.cmp .jT (.v 3) (.v 1))) [.ex (.cD .append (.v 1) [(.v 3)])] [],.ex (.cD .extend (.v 2) [(.bit .list .rev [(.call iw [(.v 3)])])])],.ret (.v 1)]⟩
section
variable {G:Prog}{k ip iw:Nat}{st:aB}{Q:VK}{E:XK}
theorem sL (hw:G.fns iw=some gC){s:Sy}(hQ:Q (.tup ((subs s).map toD)) st):aM G (k+1) iw [toD s] st Q E:=by
 rw[aY hw]
 simp only[gC,start]
 refine⟨rfl,?_⟩
 obtain⟨r,er⟩:=oW s
 walk_at"st"
 rw[er]
 walk_at"ex"
 rw[DI,<-er]
 cases h:gI s with
 |true =>
 simp only[if_true]
 walk_at"st"
 cases s<;>first|exact hQ|cases h
 |false =>
 simp only[ak,if_false,aE]
 walk_at"st"
 rw[S9 h]
 walk_at"ex"
 exact hQ
end
end L3
end
section
namespace L3
open PySem
theorem OG {C:bE}{sub:Nat->Nat->Bool}(hC:bQ C C){c:Ex}{b:List Sx}{P:gM}(I:Nat->St->aB->Prop)
  (step:∀ m σ st,I m σ st->aI C sub (fun c aA=>P.ex c σ aA) c σ st fun d aA=>eB d aA fun k =>
   if k=true then cR C sub b { P with nx:=fun σ st=>∃ m',m'<m/\I m' σ st,ct:=fun σ st=>∃ m',m'<m/\I m' σ st,bk:=P.nx } σ aA else P.nx σ aA){m:Nat}{σ:St}{st:aB}(h:I m σ st):wpS C sub (.whl c b) P σ st:=by
 refine⟨m+1,?_⟩
 have key:∀(n m:Nat)(σ:St)(st:aB),m<n->I m σ st->pJ (fun next σ st=>aI C sub (fun c aA=>P.ex c σ aA) c σ st fun d aA=>eB d aA fun k =>
   if k=true then cR C sub b { P with nx:=next,ct:=next,bk:=P.nx } σ aA else P.nx σ aA) n σ st:=by
  intro n
  induction n with
  |zero=>intro m σ st h;omega
  |succ n ih =>
   intro m σ st hm hI
   refine aV hC (fun _ _ z=>z) c (fun d aA=>jE fun k=>?_) (step m σ st hI)
   split
   ·exact iK hC b ⟨fun σ st ⟨m',h1,h2⟩=>ih m' σ st (by omega) h2,fun _ _ z=>z,fun _ _ z=>z,fun σ st ⟨m',h1,h2⟩=>ih m' σ st (by omega) h2,fun _ _ _ z=>z⟩
   ·exact id
 exact key (m+1) m σ st (by omega) h
section
variable {G:Prog}{k ip iw iz:Nat}{st:aB}{Q:VK}{E:XK}
theorem jH (s:Sy)(r:List Sy):fI (s::r)=sz s+fI r:=by simp [fI]
theorem kY (a b:List Sy):fI (a++b)=fI a+fI b:=by simp [fI]
theorem QU (s:Sy):0<sz s:=by cases s<;>simp [sz]
theorem DJ (r:List Sy):r.length<=fI r:=by
 induction r with
 |nil=>simp
 |cons s r ih=>have:=QU s;simp only[jH,bj];omega
theorem xJ (hz:G.fns iz=some (iL iw))(hw:G.fns iw=some gC){l:Nat}{ss:List Sy}(hl:st l=some (.lst (ss.map toD)))(hd:∀ x∈ss,aN x<=60)(hs:fI ss<bK)
  (hQ:∀ p aA,Ext st aA->aA p=some (.lst ((cL ss []).map toD))->Q (.ref p) aA):aM G (k+2) iz [.ref l] st Q E:=by
 rw[aY hz]
 simp only[iL,start]
 refine⟨rfl,?_⟩
 walk_at"st"
 refine bV (by decide) fun p aC x1 hp hp1=>?_
 walk_at"st"
 rw[aH (x1 l _ hl)]
 refine bV (by have:=DJ ss;simp only[p0,ab];omega) fun q aF x2 hq hq2=>?_
 have hpq:p≠q:=fun z=>by rw[z]at hp1;rw[hq]at hp1;cases hp1
 have p2:=x2 p _ hp1
 try dsimp only
 refine gH ?_
 refine OG (kX G (az _)) (fun m σ aA=>∃(stack f:List Sy)(o:Option D),σ=[some (.ref l),some (.ref p),some (.ref q),o]/\aA p=some (.lst (f.map toD))/\aA q=some (.lst (stack.map toD).reverse)/\fI stack=m /\
  (∀ x∈stack,aN x<=60)/\(∀ x∈f,aN x<=60)/\f.length+fI stack<bK/\cL stack f=cL ss []/\Ext st aA) ?_ (m:=fI ss) ⟨ss,[],none,rfl,p2,hq2,rfl,hd,by simp,by simpa using hs,rfl,fun a o e=>x2 a o (x1 a o e)⟩
 rintro m σ aU ⟨stack,f,o,rfl,hp3,hq3,hm,hds,hdf,hlen,rT,x3⟩
 walk_at"ex"
 rw[YY,fX hq3]
 cases stack with
 |nil =>
  simp only[gz,List.reverse_nil,zf,fb,ak,if_false]
  walk_at"st"
  refine hQ p aU x3 ?_
  rw[<-rT];exact hp3
 |cons s r =>
  have hne:(!((ow toD (s::r)).reverse).isEmpty)=true:=by simp
  rw[hne]
  simp only[if_true]
  have hds':=hds s (by simp)
  rw[jH]at hm hlen
  have hsp:=QU s
  have hss:=LU s
  walk_at"st"
  rw[aH hq3]
  refine⟨trivial,?_⟩
  rw[aH hq3]
  have elast:((ow toD (s::r)).reverse)[((ow toD (s::r)).reverse).length-1]? = some (toD s):=by
   simp only[aw,ig,bq,bj,bc]
   rw[cq (by simp)]
   simp
  have edrop:((ow toD (s::r)).reverse).dropLast=(r.map toD).reverse:=by simp
  rw[elast,edrop,aZ]
  try dsimp only
  have hp4:(put aU q (.lst (r.map toD).reverse)) p=some (.lst (f.map toD)):=by rw[bD hpq];exact hp3
  have hx4:Ext st (put aU q (.lst (r.map toD).reverse)):=fun a u e=>by
   by_cases ha:a=q
   ·exfalso
    rw[ha]at e
    rw[x1 q _ e]at hq;cases hq
   ·rw[bD ha];exact x3 a u e
  have head:∀{P:gM}{cN:aB}{rest:List Sx},cN p=some (.lst (f.map toD)) ->
    (∀ aA,bR [p] cN aA->aA p=some (.lst ((eZ f s).map toD))->cR (aM G (k+1)) G.sub rest P [some (.ref l),some (.ref p),some (.ref q),some (toD s)] aA) ->
    cR (aM G (k+1)) G.sub ((.iff (.and_ (.cmp .in_ (.ix (.v 3) (.c (.int 0))) (.c vG)) (.cmp .jT (.v 3) (.v 1))) [.ex (.cD .append (.v 1) [(.v 3)])] [])::rest) P [some (.ref l),some (.ref p),some (.ref q),some (toD s)] cN:=by
   intro P cN rest hb hN
   obtain⟨rr,er⟩:=oW s
   walk_at"st"
   rw[er]
   simp only[vG]
   walk_at"ex"
   rw[<-er]
   refine⟨(oQ mS).s,?_⟩
   have e1:(Rp (mS.map .str) fun d=>bO cN d (.str (wd s)))=cB s:=(vL (wd s) mS).trans (EB s)
   rw[e1]
   cases hpp:cB s with
   |false =>
    simp only[ak,if_false,aE]
    refine hN cN .refl ?_
    simp only[eZ,hpp,gg,ak,if_false]
    exact hb
   |true =>
    simp only[if_true]
    rw[K5,fX hb,LR]
    refine⟨FA hds',CH hdf,?_⟩
    cases hc:f.contains s with
    |true =>
     simp only[fb,ak,if_false,aE]
     refine hN cN .refl ?_
     simp only[eZ,hpp,hc,fb,cg,ak,if_false]
     exact hb
    |false =>
     simp only[j7,if_true]
     walk_at"st"
     rw[aH hb]
     refine⟨trivial,?_⟩
     rw[aH hb]
     refine⟨by simp only[ab];omega,?_⟩
     rw[aE]
     refine hN _ (bR.put (by simp)) ?_
     rw[aW]
     simp only[eZ,hpp,hc,j7,dt,if_true,d5,aw,gz]
  refine head hp4 fun eJ k5 hp5=>?_
  have hq5:eJ q=some (.lst (r.map toD).reverse):=k5 q _ (by simpa using jc hpq) aW
  have hx5:Ext st eJ:=fun a u e=>by
   by_cases ha:a=p
   ·exfalso
    rw[ha]at e;rw[hp]at e;cases e
   ·exact k5 a u (by simpa using ha) (hx4 a u e)
  walk_at"st"
  rw[aH hq5]
  refine⟨trivial,sL hw ?_⟩
  walk_at"ex"
  have hsl:=DJ (subs s)
  have hrl:=DJ r
  refine bV (by simp only[p0,ab];omega) fun u gJ x6 hu hu6=>?_
  walk_at"ex"
  rw[aH (x6 q _ hq5),aH hu6]
  refine⟨by simp only[p0,ab];omega,?_⟩
  rw[aE]
  dsimp only
  refine⟨fI (subs s++r),by rw[kY];omega,subs s++r,eZ f s,_,rfl,?_,?_,rfl,fun x hx=>?_,BB hdf hds',?_,?_,fun a v e=>?_⟩
  ·rw[bD hpq];exact x6 p _ hp5
  ·rw[aW];simp
  ·rcases List.mem_append.mp hx with hx|hx
   ·have:=A6 hx;omega
   ·exact hds x (by simp [hx])
  ·have:=UB f s;rw[kY];omega
  ·rw[<-OW];exact rT
  ·by_cases ha:a=q
   ·exfalso
    rw[ha]at e
    rw[x1 q _ e]at hq;cases hq
   ·rw[bD ha];exact x6 a v (hx5 a v e)
end
end L3
end
section
namespace L3
open PySem
noncomputable def fM:List (List Nat):=[W "yes", W "no", W "not", W "and", W "or", W "then", W "same", W "before", W "once", W "sofar", W "since", W "foe", W "friend", W "promise", W "must", W "wish"]
noncomputable def fA:List Nat:=W "abcdefghijklmnopqrstuvwxyz"
noncomputable def iW (nn lt lg:D):Fn:=⟨1,1,[.iff (.or_ (.not_ (.isi (.v 0) [.str])) (.cmp .in_ (.v 0) (.c nn))) [.ret (.c (.bl false))] [],.ret (.and_ (.chain .le .le (.c (.int 1)) (.bi .len [(.v 0)]) (.c lg)) (.bi .all [(.comp 1 [] [0] true none [(.v 0)] [] (.cmp .in_ (.v 0) (.c lt)))]))]⟩
noncomputable def fH (w:List Nat):Bool:=!(fM.any (·== w))&&decide (1<=w.length)&&decide (w.length<=8)&&w.all fun c=>occurs [c] fA
section
variable {G:Prog}{k i:Nat}{st:aB}{Q:VK}{E:XK}
theorem WH (st:aB)(w:List Nat):((fM.map D.str).any fun d=>bO st d (.str w))=fM.any (·== w):=by
 rw[ki];rfl
theorem RV (st:aB):dM st (fM.map D.str):=⟨rfl,by decide⟩
noncomputable def UA:D->Bool
 |.str x=>occurs x fA
 |_=>false
theorem EK:∀(w:List Nat),boolsOf ((w.map fun c=>D.str [c]).map fun d=>.bl (UA d))=some (w.map fun c=>occurs [c] fA)
 |[]=>rfl
 |c::r=>by
  show(boolsOf ((r.map fun c=>D.str [c]).map fun d=>.bl (UA d))).map (_ :: ·)=_
  rw[EK r];rfl
theorem CS (h:G.fns i=some (iW (.tup (fM.map .str)) (.str fA) (.int 8))){w:List Nat}(hw:w.length<=bK)(hQ:∀ aA,Ext st aA->Q (.bl (fH w)) aA):aM G (k+1) i [.str w] st Q E:=by
 have hL:bK=16777216:=rfl
 rw[aY h]
 simp only[iW,start]
 refine⟨rfl,?_⟩
 walk_at"st"
 refine⟨RV st,?_⟩
 rw[WH]
 cases c1:fM.any (·== w)with
 |true =>
  simp only[if_true]
  walk_at"st"
  have e:fH w=false:=by simp [fH,c1]
  rw[<-e];exact hQ _ (fun _ _ z=>z)
 |false =>
  simp only[ak,if_false]
  rw[aE]
  walk_at"st"
  refine⟨hw,?_⟩
  split
  ·rename_i g1
   split
   ·rename_i g2
    refine⟨hw,?_⟩
    refine comp_map (fun d=>.bl (UA d)) _ [] st (fun aA x a ha=>by cases ha) ?_ (by simp only[ab,bc];omega) fun aA x=>?_
    ·intro x hx aA K x1 hK
     obtain⟨c,hc,rfl⟩:=List.mem_map.mp hx
     exact hK aA .refl
    ·rw[av]
     refine bV (by simp only[ab];omega) fun p aF x2 hp kA=>?_
     simp only[dP]
     rw[aH kA,EK]
     have e:fH w=(w.map fun c=>occurs [c] fA).all id:=by
      simp only[fH,c1,qe]
      have h1:decide (1<=w.length)=true:=decide_eq_true (by omega)
      have h2:decide (w.length<=8)=true:=decide_eq_true (by omega)
      rw[h1,h2]
      rfl
     show Q _ _
     rw[<-e]
     exact hQ _ (x.trans x2)
   ·rename_i g2
    have e:fH w=decide ((w.length:Int)<=8):=by
     have h2:decide (w.length<=8)=false:=decide_eq_false (by omega)
     have h3:decide ((w.length:Int)<=8)=false:=decide_eq_false g2
     simp only[fH,h2,h3,cg,gg]
    rw[<-e];exact hQ _ .refl
  ·rename_i g1
   have e:fH w=false:=by
    have h1:decide (1<=w.length)=false:=decide_eq_false (by omega)
    simp only[fH,h1,cg,gg]
   rw[<-e];exact hQ _ .refl
end
end L3
end
section
namespace L3
open PySem
noncomputable def nL (hX fE:Nat)(sw:D):Fn:=⟨3,3,[.iff (.or_ (.cmp .lt (.v 2) (.c (.int 1))) (.or_ (.not_ (.isi (.v 1) [.tuple])) (.or_ (.cmp .lt (.bi .len [(.v 1)]) (.c (.int 1))) (.not_ (.isi (.ix (.v 1) (.c (.int 0))) [.str]))))) [.ret (.c (.bl false))] [],.iff (.cmp .eq (.ix (.v 1) (.c (.int 0))) (.c (.str (W "lamp")))) [.ret (.and_ (.cmp .eq (.bi .len [(.v 1)]) (.c (.int 2))) (.and_ (.call hX [(.ix (.v 1) (.c (.int 1)))]) (.cmp .in_ (.ix (.v 1) (.c (.int 1))) (.v 0))))] [],.iff (.or_ (.cmp .jT (.ix (.v 1) (.c (.int 0))) (.c sw)) (.cmp .ne (.bi .len [(.v 1)]) (.bin .add (.c (.int 1)) (.ix (.c sw) (.ix (.v 1) (.c (.int 0))))))) [.ret (.c (.bl false))] [],.ret (.bi .all [(.comp 1 [0,2] [0] true none [(.sl (.v 1) [(.c (.int 1))] [])] [] (.call fE [(.v 1),(.v 0),(.bin .sub (.v 2) (.c (.int 1)))]))])]⟩
section
variable {G:Prog}{k hX fE:Nat}{Q:VK}{E:XK}
noncomputable def wY:List D:=[(.str (W "yes")),(.str (W "no")),(.str (W "not")),(.str (W "before")),(.str (W "once")),(.str (W "sofar")),(.str (W "and")),(.str (W "or")),(.str (W "then")),(.str (W "same")),(.str (W "since"))]
noncomputable def zR:List D:=[(.int 0),(.int 0),(.int 1),(.int 1),(.int 1),(.int 1),(.int 2),(.int 2),(.int 2),(.int 2),(.int 2)]
theorem jJ {α:Type}:∀(ps:List α),boolsOf (ps.map fun _=>.bl true)=some (ps.map fun _=>true)
 |[]=>rfl
 |_::r=>by
  show(boolsOf (r.map fun _=>.bl true)).map (true :: ·)=_
  rw[jJ r];rfl
theorem uP (h:G.fns fE=some (nL hX fE (.cV wY zR))){nm:D}{w:List Nat}{ps:List D}{st:aB}{d:Int}(hd:1<=d)(hl:¬(w==W "lamp")=true)(hin:(wY.any fun x=>bN x (.str w))=true)(har:uZ wY zR (.str w)=some (.int ps.length))(hps:ps.length<=2)
  (hp:∀ x∈ps,∀(aA:aB)(Q':VK)(E':XK),Ext st aA->(∀ aS,Ext aA aS->Q' (.bl true) aS)->aM G k fE [nm,x,.int (d-1)] aA Q' E')(hQ:∀ aA,Ext st aA->Q (.bl true) aA):aM G (k+1) fE [nm,.tup (.str w::ps),.int d] st Q E:=by
 have hL:bK=16777216:=rfl
 rw[aY h]
 simp only[nL,start]
 refine⟨rfl,?_⟩
 walk_at"st"
 have n1:¬d<1:=by omega
 simp only[if_neg n1]
 have n2:¬((ps.length+1:Nat):Int)<1:=by omega
 simp only[bj,if_neg n2]
 walk_at"ex"
 rw[aE]
 walk_at"st"
 rw[if_neg hl]
 rw[aE]
 walk_at"st"
 rw[hin]
 simp only[fb,ak,if_false]
 rw[har]
 show plainS st (.int (1+(ps.length:Int)))/\_
 refine⟨⟨rfl,df _⟩,?_⟩
 have n3:¬(!bO st (.int ((ps.length+1:Nat):Int)) (.int (1+(ps.length:Int))))=true:=by
  have e:(((ps.length+1:Nat):Int)==1+(ps.length:Int))=true:=beq_iff_eq.mpr (by omega)
  simp only[bO,e,fb,ak,not_false_iff]
 rw[if_neg n3,aE]
 walk_at"st"
 refine comp_map (fun _=>.bl true) ps [] st (fun aA x a ha=>by cases ha) (fun x hx aA K x1 hK=>hp x hx aA _ _ x1 fun aS x2=>hK aS x2) (by simp only[bc];omega) fun aA x1=>?_
 rw[av]
 refine bV (by simp only[ab];omega) fun p aF x2 hp' kA=>?_
 simp only[dP]
 rw[aH kA,jJ]
 show Q (.bl (((ps.map fun _=>true).all id))) _
 have e:(ps.map fun _=>true).all id=true:=by simp
 rw[e]
 exact hQ _ (x1.trans x2)
theorem FH {n:List Nat}(h:fH n=true):n.length<=8:=by
 simp only[fH,aq,decide_eq_true_eq]at h
 exact h.1.2
theorem kB (st:aB):∀(names:List (List Nat)),dM st (names.map D.str)
 |[]=>⟨rfl,df _⟩
 |n::r=>⟨by simp only[aw,gX,fG,fy];exact(kB st r).1,by simp only[aw,cK,cJ];have:=(kB st r).2;omega⟩
theorem QZ (st:aB)(names:List (List Nat))(n:List Nat)(h:n∈names):((names.map D.str).any fun d=>bO st d (.str n))=true:=by
 rw[ki]
 exact List.any_eq_true.mpr ⟨n,h,by show(n==n)=true;simp⟩
theorem O9 (h:G.fns fE=some (nL hX fE (.cV wY zR)))(hn:G.fns hX=some (iW (.tup (fM.map .str)) (.str fA) (.int 8))){names:List (List Nat)}(kI:∀ n∈names,fH n=true){n:List Nat}(ho:n∈names){st:aB}{d:Int}(hd:1<=d)
 (hQ:∀ aA,Ext st aA->Q (.bl true) aA):aM G (k+1+1) fE [.tup (names.map .str),.tup [.str (W "lamp"),.str n],.int d] st Q E:=by
 have hL:bK=16777216:=rfl
 rw[aY h]
 simp only[nL,start]
 refine⟨rfl,?_⟩
 walk_at"st"
 have n1:¬d<1:=by omega
 simp only[if_neg n1]
 walk_at"ex"
 have n2:¬((0+1+1:Nat):Int)<1:=by decide
 simp only[if_neg n2]
 walk_at"ex"
 rw[aE]
 walk_at"st"
 have n3:(W "lamp" == W "lamp")=true:=by simp
 simp only[n3,if_true]
 walk_at"st"
 rw[if_pos (by decide)]
 refine CS (w:=n) hn (by have:=FH (kI n ho);omega) fun aA x1=>?_
 rw[kI n ho]
 show dM aA (names.map .str)/\Q (.bl ((names.map D.str).any fun d=>bO aA d (.str n))) aA
 refine⟨kB aA names,?_⟩
 rw[QZ aA names n ho]
 exact hQ _ x1
theorem yY (h:G.fns fE=some (nL hX fE (.cV wY zR)))(hn:G.fns hX=some (iW (.tup (fM.map .str)) (.str fA) (.int 8))){names:List (List Nat)}(kI:∀ n∈names,fH n=true):
  ∀(s:Sy){k:Nat}{st:aB}{Q:VK}{E:XK}{d:Int},over names s->(aN s:Int)<=d->(∀ aA,Ext st aA->Q (.bl true) aA)->aM G (k+aN s+1) fE [.tup (names.map .str),toD s,.int d] st Q E
 |.yes,k,st,Q,E,d,ho,hd,hQ=>by
  simp only[aN]at hd
  exact uP h (by omega) (by decide) (by decide) rfl (by decide) (fun x hx=>by cases hx) hQ
 |.no,k,st,Q,E,d,ho,hd,hQ=>by
  simp only[aN]at hd
  exact uP h (by omega) (by decide) (by decide) rfl (by decide) (fun x hx=>by cases hx) hQ
 |.cO n,k,st,Q,E,d,ho,hd,hQ=>by
  simp only[aN]at hd ⊢
  exact O9 h hn kI ho (by omega) hQ
 |.one w s,k,st,Q,E,d,ho,hd,hQ=>by
  simp only[aN]at hd ⊢
  refine uP (ps:=[toD s]) h (by omega) (by cases w<;>decide) (by cases w<;>decide) (by cases w<;>rfl) (by simp) (fun x hx aA Q' E' x1 hQ'=>?_) hQ
  simp only[ay]at hx
  subst hx
  have:=yY h hn kI s (k:=k) (st:=aA) (Q:=Q') (E:=E') (d:=d-1) ho (by omega) hQ'
  exact this
 |.two w s t,k,st,Q,E,d,ho,hd,hQ=>by
  simp only[aN]at hd ⊢
  refine uP (ps:=[toD s,toD t]) h (by omega) (by cases w<;>decide) (by cases w<;>decide) (by cases w<;>rfl) (by simp) (fun x hx aA Q' E' x1 hQ'=>?_) hQ
  have l1:=u0 (aN s) (aN t)
  have l2:=tj (aN s) (aN t)
  simp only[fz,ee,or_false]at hx
  rcases hx with rfl|rfl
  ·have:=yY h hn kI s (k:=k+(max (aN s) (aN t)-aN s)) (st:=aA) (Q:=Q') (E:=E') (d:=d-1) ho.1 (by omega) hQ'
   have e:k+(max (aN s) (aN t)-aN s)+aN s+1=k+(max (aN s) (aN t)+1):=by omega
   rw[e]at this;exact this
  ·have:=yY h hn kI t (k:=k+(max (aN s) (aN t)-aN t)) (st:=aA) (Q:=Q') (E:=E') (d:=d-1) ho.2 (by omega) hQ'
   have e:k+(max (aN s) (aN t)-aN t)+aN t+1=k+(max (aN s) (aN t)+1):=by omega
   rw[e]at this;exact this
end
end L3
end
section
namespace L3
open PySem
noncomputable def lP:Fn:=⟨3,3,[.ret (.and_ (.isi (.v 0) [.tuple]) (.chain .le .le (.v 1) (.bi .len [(.v 0)]) (.v 2)))]⟩
noncomputable def JX (ir hX:Nat)(ml:D):Fn:=⟨2,3,[.iff (.or_ (.not_ (.call ir [(.v 0),(.c (.int 1)),(.c ml)])) (.not_ (.call ir [(.v 1),(.c (.int 1)),(.c ml)]))) [.ret (.c (.bl false))] [],.asg (.nm 2) (.bin .add (.v 0) (.v 1)),.ret (.and_ (.bi .all [(.comp 1 [] [0] true none [(.v 2)] [] (.call hX [(.v 0)]))]) (.cmp .eq (.bi .rS [(.v 2)]) (.bi .len [(.v 2)])))]⟩
section
variable {G:Prog}{k ir hX il:Nat}{st:aB}{Q:VK}{E:XK}
theorem mG (h:G.fns ir=some lP){ds:List D}{lo hi:Int}(hQ:Q (.bl (decide (lo<=(ds.length:Int))&&decide ((ds.length:Int)<=hi))) st):aM G (k+1) ir [.tup ds,.int lo,.int hi] st Q E:=by
 rw[aY h]
 simp only[lP,start]
 refine⟨rfl,?_⟩
 walk_at"st"
 by_cases c:lo<=(ds.length:Int)
 ·rw[if_pos c]
  rw[decide_eq_true c,fy]at hQ
  exact hQ
 ·rw[if_neg c]
  rw[decide_eq_false c,gg]at hQ
  exact hQ
theorem FX:∀(ws seen:List (List Nat)),(seen++ws).Nodup->wR seen ws=ws.length
 |[],_,_=>rfl
 |w::r,seen,h=>by
  have e:seen.any (·== w)=false:=by
   rw[qz]
   intro x hx z
   have:x=w:=by simpa using z
   subst this
   rw[rh]at h
   exact h.2.2 x hx x (by simp) rfl
  show(if seen.any (·== w)=true then 0 else 1)+wR (seen++[w]) r=_
  rw[e,FX r (seen++[w]) (by simpa using h)]
  simp only[ak,if_false,bj]
  omega
theorem CL:∀(ws:List (List Nat)),strsOf (ws.map .str)=some ws
 |[]=>rfl
 |w::r=>by
  show(strsOf (r.map .str)).map (w :: ·)=_
  rw[CL r];rfl
theorem UO (h:G.fns il=some (JX ir hX (.int 2)))(hr:G.fns ir=some lP)(hn:G.fns hX=some (iW (.tup (fM.map .str)) (.str fA) (.int 8))){fs gs:List (List Nat)}(h1:1<=fs.length)(h2:fs.length<=2)(h3:1<=gs.length)(h4:gs.length<=2)(h5:(fs++gs).Nodup)(h6:∀ n∈fs++gs,fH n=true)
  (hQ:∀ aA,Ext st aA->Q (.bl true) aA):aM G (k+2) il [.tup (fs.map .str),.tup (gs.map .str)] st Q E:=by
 have hL:bK=16777216:=rfl
 rw[aY h]
 simp only[JX,start]
 refine⟨rfl,?_⟩
 walk_at"st"
 refine mG hr ?_
 have e1:(decide ((1:Int)<=((fs.map D.str).length:Int))&&decide (((fs.map D.str).length:Int)<=2))=true:=by simp only[ab,aq,decide_eq_true_eq];omega
 rw[e1]
 walk_at"ex"
 refine mG hr ?_
 have e2:(decide ((1:Int)<=((gs.map D.str).length:Int))&&decide (((gs.map D.str).length:Int)<=2))=true:=by simp only[ab,aq,decide_eq_true_eq];omega
 rw[e2]
 walk_at"ex"
 rw[aE]
 walk_at"st"
 refine⟨by simp only[ab];omega,?_⟩
 rw[<-d5]
 walk_at"st"
 refine comp_map (fun _=>.bl true) _ [] st (fun aA x a ha=>by cases ha) (fun x hx aA K x1 hK=>?_) (by simp only[ab,bq,bc];omega) fun aA x1=>?_
 ·obtain⟨n,hn',rfl⟩:=List.mem_map.mp hx
  refine CS (w:=n) hn (by have:=FH (h6 n hn');omega) fun aS x2=>?_
  rw[h6 n hn']
  exact hK aS x2
 ·rw[av]
  refine bV (by simp only[ab,bq];omega) fun p aF x2 hp' kA=>?_
  simp only[dP]
  rw[aH kA,jJ]
  rw[aZ,CL,aZ]
  have e3:(ow (fun _=>true) ((fs++gs).map D.str)).all id=true:=by simp
  rw[if_pos e3]
  refine⟨by simp only[bq];omega,?_⟩
  have e4:(((wR [] (fs++gs):Nat):Int)==((((fs++gs).map D.str).length:Nat):Int))=true:=by
   rw[FX (fs++gs) [] (by simpa using h5),ab];simp
  rw[e4]
  exact hQ _ (x1.trans x2)
end
end L3
end
section
namespace L3
open PySem
noncomputable def qY (fE:Nat)(dp:D):Fn:=⟨2,2,[.ret (.call fE [(.v 0),(.v 1),(.c dp)])]⟩
noncomputable def yV (ir iy:Nat):Fn:=⟨3,3,[.ret (.and_ (.call ir [(.v 1),(.c (.int 0)),(.v 2)]) (.bi .all [(.comp 1 [0] [0] true none [(.v 1)] [] (.call iy [(.v 1),(.v 0)]))]))]⟩
noncomputable def rL (hp:D):Fn:=⟨1,1,[.ret (.and_ (.isi (.v 0) [.int]) (.and_ (.not_ (.isi (.v 0) [.bool])) (.chain .le .le (.c (.int 1)) (.v 0) (.c hp))))]⟩
noncomputable def zJ (ir ip iy:Nat):Fn:=⟨2,2,[.ret (.and_ (.call ir [(.v 1),(.c (.int 2)),(.c (.int 2))]) (.and_ (.call ip [(.ix (.v 1) (.c (.int 0)))]) (.call iy [(.v 0),(.ix (.v 1) (.c (.int 1)))])))]⟩
noncomputable def A2 (ir iw:Nat)(mw:D):Fn:=⟨2,2,[.ret (.and_ (.call ir [(.v 1),(.c (.int 1)),(.c mw)]) (.bi .all [(.comp 1 [0] [0] true none [(.v 1)] [] (.call iw [(.v 1),(.v 0)]))]))]⟩
section
variable {G:Prog}{k ir hX fE iy ip iw ia:Nat}{st:aB}{Q:VK}{E:XK}{names:List (List Nat)}
theorem FK (hy:G.fns iy=some (qY fE (.int 8)))(h:G.fns fE=some (nL hX fE (.cV wY zR)))(hn:G.fns hX=some (iW (.tup (fM.map .str)) (.str fA) (.int 8)))(kI:∀ n∈names,fH n=true){s:Sy}(ho:over names s)(hd:aN s<=8)
 (hQ:∀ aA,Ext st aA->Q (.bl true) aA):aM G (k+10) iy [.tup (names.map .str),toD s] st Q E:=by
 rw[aY hy]
 simp only[qY,start]
 refine⟨rfl,?_⟩
 walk_at"st"
 have:=yY h hn kI s (k:=k+(8-aN s)) (st:=st) (Q:=Q) (E:=E) (d:=8) ho (by omega) hQ
 have e:k+(8-aN s)+aN s+1=k+9:=by omega
 rw[e]at this;exact this
theorem CP (ha:G.fns ia=some (yV ir iy))(hr:G.fns ir=some lP)(hy:G.fns iy=some (qY fE (.int 8)))(h:G.fns fE=some (nL hX fE (.cV wY zR)))(hn:G.fns hX=some (iW (.tup (fM.map .str)) (.str fA) (.int 8)))(kI:∀ n∈names,fH n=true){ss:List Sy}{m:Int}
  (ho:∀ s∈ss,over names s/\aN s<=8)(hl:(ss.length:Int)<=m)(hl2:ss.length<=1000)(hQ:∀ aA,Ext st aA->Q (.bl true) aA):aM G (k+11) ia [.tup (names.map .str),.tup (ss.map toD),.int m] st Q E:=by
 have hL:bK=16777216:=rfl
 rw[aY ha]
 simp only[yV,start]
 refine⟨rfl,?_⟩
 walk_at"st"
 refine mG hr ?_
 have e1:(decide ((0:Int)<=((ss.map toD).length:Int))&&decide (((ss.map toD).length:Int)<=m))=true:=by simp only[ab,aq,decide_eq_true_eq];omega
 rw[e1]
 walk_at"ex"
 refine comp_map (fun _=>.bl true) _ [] st (fun aA x a ha=>by cases ha) (fun x hx aA K x1 hK=>?_) (by simp only[ab,bc];omega) fun aA x1=>?_
 ·obtain⟨s,hs,rfl⟩:=List.mem_map.mp hx
  exact FK hy h hn kI (ho s hs).1 (ho s hs).2 fun aS x2=>hK aS x2
 ·rw[av]
  refine bV (by simp only[ab];omega) fun p aF x2 hp' kA=>?_
  simp only[dP]
  rw[aH kA,jJ,aZ]
  have e3:(ow (fun _=>true) (ss.map toD)).all id=true:=by simp
  rw[e3]
  exact hQ _ (x1.trans x2)
theorem KZ (h:G.fns ip=some (rL (.int 99))){p:Int}(h1:1<=p)(h2:p<=99)(hQ:Q (.bl true) st):aM G (k+1) ip [.int p] st Q E:=by
 rw[aY h]
 simp only[rL,start]
 refine⟨rfl,?_⟩
 walk_at"st"
 rw[if_pos h1,decide_eq_true h2]
 exact hQ
theorem NU (hw:G.fns iw=some (zJ ir ip iy))(hr:G.fns ir=some lP)(hp:G.fns ip=some (rL (.int 99)))(hy:G.fns iy=some (qY fE (.int 8)))(h:G.fns fE=some (nL hX fE (.cV wY zR)))(hn:G.fns hX=some (iW (.tup (fM.map .str)) (.str fA) (.int 8)))(kI:∀ n∈names,fH n=true){s:Sy}{p:Int}
 (h1:1<=p)(h2:p<=99)(ho:over names s)(hd:aN s<=8)(hQ:∀ aA,Ext st aA->Q (.bl true) aA):aM G (k+11) iw [.tup (names.map .str),.tup [.int p,toD s]] st Q E:=by
 rw[aY hw]
 simp only[zJ,start]
 refine⟨rfl,?_⟩
 walk_at"st"
 refine mG hr ?_
 have e1:(decide ((2:Int)<=(([.int p,toD s]:List D).length:Int))&&decide ((([.int p,toD s]:List D).length:Int)<=2))=true:=rfl
 rw[e1]
 walk_at"ex"
 refine KZ hp h1 h2 ?_
 walk_at"ex"
 exact FK hy h hn kI ho hd fun aS x2=>hQ aS x2
end
end L3
end
section
namespace L3
open PySem
noncomputable def vO (ih ib:Nat):Fn:=⟨2,2,[.iff (.cmp .eq (.ix (.v 1) (.c (.int 0))) (.c (.str (W "before")))) [.ret (.c (.bl false))] [],.iff (.cmp .eq (.ix (.v 1) (.c (.int 0))) (.c (.str (W "lamp")))) [.ret (.cmp .in_ (.ix (.v 1) (.c (.int 1))) (.v 0))] [],.ret (.bi .any [(.comp 1 [0] [0] true none [(.call ih [(.v 1)])] [] (.call ib [(.v 1),(.v 0)]))])]⟩
noncomputable def fT (gs:List (List Nat)):Sy->Bool
 |.cO n=>gs.any (·== n)
 |.one .before _=>false
 |.one _ s=>fT gs s
 |.two _ s t=>fT gs s||fT gs t
 |_=>false
section
variable {G:Prog}{k ih ib ir hX fE iy ip iw ia:Nat}{st:aB}{Q:VK}{E:XK}{names:List (List Nat)}
theorem KU (ha:G.fns ia=some (A2 ir iw (.int 5)))(hw:G.fns iw=some (zJ ir ip iy))(hr:G.fns ir=some lP)(hp:G.fns ip=some (rL (.int 99)))(hy:G.fns iy=some (qY fE (.int 8)))(h:G.fns fE=some (nL hX fE (.cV wY zR)))(hn:G.fns hX=some (iW (.tup (fM.map .str)) (.str fA) (.int 8)))(kI:∀ n∈names,fH n=true){ws:List (Int×Sy)}
  (ho:∀ w∈ws,1<=w.1/\w.1<=99/\over names w.2/\aN w.2<=8)(h1:1<=ws.length)(h2:ws.length<=5)(hQ:∀ aA,Ext st aA->Q (.bl true) aA):aM G (k+12) ia [.tup (names.map .str),.tup (ws.map fun w=>.tup [.int w.1,toD w.2])] st Q E:=by
 have hL:bK=16777216:=rfl
 rw[aY ha]
 simp only[A2,start]
 refine⟨rfl,?_⟩
 walk_at"st"
 refine mG hr ?_
 have e1:(decide ((1:Int)<=((ws.map fun w=>D.tup [.int w.1,toD w.2]).length:Int))&&decide (((ws.map fun w=>D.tup [.int w.1,toD w.2]).length:Int)<=5))=true:=by simp only[ab,aq,decide_eq_true_eq];omega
 rw[e1]
 walk_at"ex"
 refine comp_map (fun _=>.bl true) _ [] st (fun aA x a ha=>by cases ha) (fun x hx aA K x1 hK=>?_) (by simp only[ab,bc];omega) fun aA x1=>?_
 ·obtain⟨s,hs,rfl⟩:=List.mem_map.mp hx
  obtain⟨o1,o2,o3,o4⟩:=ho s hs
  exact NU hw hr hp hy h hn kI o1 o2 o3 o4 fun aS x2=>hK aS x2
 ·rw[av]
  refine bV (by simp only[ab];omega) fun p aF x2 hp' kA=>?_
  simp only[dP]
  rw[aH kA,jJ,aZ]
  have e3:(ow (fun _=>true) (ws.map fun w=>D.tup [.int w.1,toD w.2])).all id=true:=by simp
  rw[e3]
  exact hQ _ (x1.trans x2)
end
end L3
end
section
namespace L3
open PySem
theorem dO {α:Type}{g:aB->Prop}{turn:D->aB->(Option D->aB->Prop)->Prop}{R:List D->aB->Prop}(t f:α->D):∀(xs:List α)(acc:List D)(st:aB),
  (∀ aA,Ext st aA->g aA)->(∀ x∈xs,∀ aA (K:Option D->aB->Prop),Ext st aA->(∀ aS,Ext aA aS->K (some (f x)) aS)->turn (t x) aA K) ->
  acc.length+xs.length<=bK->(∀ aA,Ext st aA->R (acc++xs.map f) aA)->jN g turn (xs.map t) acc st R
 |[],acc,st,hg,_,_,hR=>⟨hg st .refl,by simpa using hR st .refl⟩
 |x::xs,acc,st,hg,ht,hl,hR=>by
  simp only[bj]at hl
  refine⟨hg st .refl,by omega,ht x (by simp) st _ .refl fun aS h''=>?_⟩
  exact dO t f xs (acc++[f x]) aS (fun aA h=>hg aA (h''.trans h)) (fun y hy aA K h=>ht y (by simp [hy]) aA K (h''.trans h)) (by simp only[bq,bj,bc];omega) fun aA h=>by simpa using hR aA (h''.trans h)
theorem uX {α:Type}(b:α->Bool):∀(ps:List α),boolsOf (ps.map fun x=>.bl (b x))=some (ps.map b)
 |[]=>rfl
 |x::r=>by
  show(boolsOf (r.map fun x=>.bl (b x))).map (b x :: ·)=_
  rw[uX b r];rfl
section
variable {G:Prog}{k ih ib:Nat}{Q:VK}{E:XK}{gs:List (List Nat)}
theorem vN (h:G.fns ib=some (vO ih ib))(hh:G.fns ih=some gC){s:Sy}{st:aB}(h1:¬(wd s==W "before")=true)(h2:gI s=false)(h3:¬(wd s==W "lamp")=true)(h4:(subs s).length<=2)
 (hp:∀ x∈subs s,∀(aA:aB)(Q':VK)(E':XK),Ext st aA->(∀ aS,Ext aA aS->Q' (.bl (fT gs x)) aS)->aM G (k+1) ib [.tup (gs.map .str),toD x] aA Q' E')(hQ:∀ aA,Ext st aA->Q (.bl ((subs s).any (fT gs))) aA):aM G (k+2) ib [.tup (gs.map .str),toD s] st Q E:=by
 have hL:bK=16777216:=rfl
 rw[aY h]
 simp only[vO,start]
 refine⟨rfl,?_⟩
 obtain⟨r,er⟩:=oW s
 rw[er]
 walk_at"st"
 rw[if_neg h1,aE]
 walk_at"st"
 rw[if_neg h3,aE]
 walk_at"st"
 rw[<-er]
 refine sL hh ?_
 walk_at"ex"
 refine dO toD (fun x=>.bl (fT gs x)) _ [] st (fun aA x a ha=>by cases ha) (fun x hx aA K x1 hK=>hp x hx aA _ _ x1 fun aS x2=>hK aS x2) (by simp only[bc];omega) fun aA x1=>?_
 rw[av]
 refine bV (by simp only[ab];omega) fun p aF x2 hp' kA=>?_
 simp only[dP]
 rw[aH kA,uX,aZ,ki]
 exact hQ _ (x1.trans x2)
theorem yW (h:G.fns ib=some (vO ih ib))(hh:G.fns ih=some gC):∀(s:Sy){k:Nat}{st:aB}{Q:VK}{E:XK},(∀ aA,Ext st aA->Q (.bl (fT gs s)) aA)->aM G (k+aN s+1) ib [.tup (gs.map .str),toD s] st Q E
 |.yes,k,st,Q,E,hQ=>vN (k:=k) h hh (by decide) rfl (by decide) (by decide) (fun x hx=>by cases hx) hQ
 |.no,k,st,Q,E,hQ=>vN (k:=k) h hh (by decide) rfl (by decide) (by decide) (fun x hx=>by cases hx) hQ
 |.cO n,k,st,Q,E,hQ=>by
  rw[aY h]
  simp only[vO,start,toD]
  refine⟨rfl,?_⟩
  walk_at"st"
  have n1:¬(W "lamp" == W "before")=true:=by decide
  rw[if_neg n1,aE]
  walk_at"st"
  have n3:(W "lamp" == W "lamp")=true:=by decide
  rw[if_pos n3]
  walk_at"st"
  refine⟨kB st gs,?_⟩
  have e:((gs.map D.str).any fun d=>bO st d (.str n))=fT gs (.cO n):=by rw[ki];rfl
  rw[e]
  exact hQ _ .refl
 |.one w s,k,st,Q,E,hQ=>by
  by_cases hw:w=.before
  ·subst hw
   rw[aY h]
   simp only[vO,start,toD,c1]
   refine⟨rfl,?_⟩
   walk_at"st"
   have n1:(W "before" == W "before")=true:=by decide
   rw[if_pos n1]
   walk_at"st"
   exact hQ _ .refl
  ·have e0:k+aN (.one w s)+1=(k+aN s)+2:=by simp only[aN];omega
   rw[e0]
   refine vN h hh (show ¬(c1 w==W "before")=true by cases w<;>first|decide|exact absurd rfl hw) rfl (show ¬(c1 w==W "lamp")=true by cases w<;>decide) (by simp [subs]) (fun x hx aA Q' E' x1 hQ'=>?_) (fun aA x1=>?_)
   ·simp only[subs,fz,ee,or_false]at hx
    rw[hx]at hQ' ⊢
    exact yW h hh s (k:=k) (st:=aA) (Q:=Q') (E:=E') hQ'
   ·have e1:(subs (.one w s)).any (fT gs)=fT gs (.one w s):=by
     cases w<;>first|exact absurd rfl hw|simp [subs,fT]
    rw[e1];exact hQ aA x1
 |.two w s t,k,st,Q,E,hQ=>by
  have l1:=u0 (aN s) (aN t)
  have l2:=tj (aN s) (aN t)
  have e0:k+aN (.two w s t)+1=(k+max (aN s) (aN t))+2:=by simp only[aN];omega
  rw[e0]
  refine vN h hh (show ¬(c2 w==W "before")=true by cases w<;>decide) rfl (show ¬(c2 w==W "lamp")=true by cases w<;>decide) (by simp [subs]) (fun x hx aA Q' E' x1 hQ'=>?_) (fun aA x1=>by simpa [subs,fT]using hQ aA x1)
  simp only[subs,fz,ee,or_false]at hx
  rcases hx with hx|hx
  ·rw[hx]at hQ' ⊢
   have:=yW h hh s (k:=k+(max (aN s) (aN t)-aN s)) (st:=aA) (Q:=Q') (E:=E') hQ'
   have e:k+(max (aN s) (aN t)-aN s)+aN s+1=k+max (aN s) (aN t)+1:=by omega
   rw[e]at this;exact this
  ·rw[hx]at hQ' ⊢
   have:=yW h hh t (k:=k+(max (aN s) (aN t)-aN t)) (st:=aA) (Q:=Q') (E:=E') hQ'
   have e:k+(max (aN s) (aN t)-aN t)+aN t+1=k+max (aN s) (aN t)+1:=by omega
   rw[e]at this;exact this
end
end L3
end
section
namespace L3
open PySem
noncomputable def DE (ia ib:Nat)(mp:D):Fn:=⟨3,3,[.ret (.and_ (.call ia [(.v 0),(.v 2),(.c mp)]) (.not_ (.bi .any [(.comp 1 [1] [0] true none [(.v 2)] [] (.call ib [(.v 1),(.v 0)]))])))]⟩
noncomputable def pH:Fn:=⟨3,3,[.ret (.bin .add (.bin .add (.bi .list [(.v 0)]) (.bi .list [(.v 1)])) (.comp 1 [] [0] true none [(.v 2)] [] (.ix (.v 0) (.c (.int 1)))))]⟩
section
variable {G:Prog}{k ih ib ir hX fE iy ia iap io:Nat}{st:aB}{Q:VK}{E:XK}{names gs:List (List Nat)}
theorem OL (hp:G.fns iap=some (DE ia ib (.int 3)))(hb:G.fns ib=some (vO ih ib))(hh:G.fns ih=some gC)(ha:G.fns ia=some (yV ir iy))(hr:G.fns ir=some lP)(hy:G.fns iy=some (qY fE (.int 8)))(h:G.fns fE=some (nL hX fE (.cV wY zR)))(hn:G.fns hX=some (iW (.tup (fM.map .str)) (.str fA) (.int 8)))(kI:∀ n∈names,fH n=true){ss:List Sy}
  (ho:∀ s∈ss,over names s/\aN s<=8)(hl:ss.length<=3)(hbare:∀ s∈ss,fT gs s=false)(hQ:∀ aA,Ext st aA->Q (.bl true) aA):aM G (k+12) iap [.tup (names.map .str),.tup (gs.map .str),.tup (ss.map toD)] st Q E:=by
 have hL:bK=16777216:=rfl
 rw[aY hp]
 simp only[DE,start]
 refine⟨rfl,?_⟩
 walk_at"st"
 refine CP ha hr hy h hn kI ho (by omega) (by omega) fun aC y1=>?_
 walk_at"ex"
 refine dO toD (fun _=>.bl false) _ [] aC (fun aA x a ha=>by cases ha) (fun x hx aA K x1 hK=>?_) (by simp only[bc];omega) fun aA x1=>?_
 ·have e:k+11=(k+10-aN x)+aN x+1:=by have:=(ho x hx).2;omega
  rw[e]
  refine yW hb hh x fun aS x2=>?_
  rw[hbare x hx]
  exact hK aS x2
 ·rw[av]
  refine bV (by simp only[ab];omega) fun p aF x2 hp' kA=>?_
  simp only[dP]
  rw[aH kA,uX (fun _=>false),aZ]
  have e3:(ss.map fun _=>false).any id=false:=by simp
  rw[e3]
  exact hQ _ ((y1.trans x1).trans x2)
theorem FO (h:G.fns io=some pH){ps ms:List Sy}{ws:List (Int×Sy)}(h1:ps.length<=1000)(h2:ms.length<=1000)(h3:ws.length<=1000)
 (hQ:∀ p aA,Ext st aA->aA p=some (.lst ((ps++ms++ws.map (·.2)).map toD))->Q (.ref p) aA):aM G (k+1) io [.tup (ps.map toD),.tup (ms.map toD),.tup (ws.map fun w=>.tup [.int w.1,toD w.2])] st Q E:=by
 have hL:bK=16777216:=rfl
 rw[aY h]
 simp only[pH,start]
 refine⟨rfl,?_⟩
 walk_at"st"
 refine bV (by simp only[ab];omega) fun p aC x1 hp hp1=>?_
 walk_at"ex"
 refine bV (by simp only[ab];omega) fun q aF x2 hq hq2=>?_
 walk_at"ex"
 rw[aH (x2 _ _ hp1),aH hq2]
 refine bV (by simp only[ab,bq];omega) fun r aU x3 hr hr3=>?_
 refine dO (fun w:Int×Sy=>D.tup [.int w.1,toD w.2]) (fun w=>toD w.2) _ [] aU (fun aA x a ha=>by cases ha) (fun x hx aA K y1 hK=>hK aA .refl) (by simp only[bc];omega) fun cN x4=>?_
 rw[av]
 refine bV (by simp only[ab];omega) fun u eJ x5 hu hu5=>?_
 show cF eJ r fun xs=>cF eJ u fun ys=>gE (xs++ys) eJ Q
 rw[aH (x5 _ _ (x4 _ _ hr3)),aH hu5]
 refine bV (by simp only[ab,bq];omega) fun v gJ x6 hv hv6=>?_
 refine hQ v gJ (((((x1.trans x2).trans x3).trans x4).trans x5).trans x6) ?_
 rw[hv6]
 simp only[d5,j1]
 rfl
end
end L3
end
section
namespace L3
open PySem
noncomputable def D3 (ir il iap ia iaw ipi io:Nat)(mm mp:D):Fn:=⟨1,6,[.iff (.or_ (.not_ (.call ir [(.v 0),(.c (.int 5)),(.c (.int 5))])) (.not_ (.call il [(.ix (.v 0) (.c (.int 0))),(.ix (.v 0) (.c (.int 1)))]))) [.ret (.c (.bl false))] [],.asg (.nm 1) (.ix (.v 0) (.c (.int 1))),.asg (.nm 2) (.bin .add (.ix (.v 0) (.c (.int 0))) (.v 1)),.asg (.nm 3) (.ix (.v 0) (.c (.int 2))),.asg (.nm 4) (.ix (.v 0) (.c (.int 3))),.asg (.nm 5) (.ix (.v 0) (.c (.int 4))),.iff (.or_ (.not_ (.call iap [(.v 2),(.v 1),(.v 3)])) (.not_ (.call ia [(.v 2),(.v 4),(.c mm)]))) [.ret (.c (.bl false))] [],.ret (.and_ (.call iaw [(.v 2),(.v 5)]) (.cmp .le (.bi .len [(.call ipi [(.call io [(.v 3),(.v 4),(.v 5)])])]) (.c mp)))]⟩
structure Bk where
 fs:List (List Nat)
 gs:List (List Nat)
 ps:List Sy
 ms:List Sy
 ws:List (Int×Sy)
noncomputable def Bk.d (b:Bk):D:=.tup [.tup (b.fs.map .str),.tup (b.gs.map .str),.tup (b.ps.map toD),.tup (b.ms.map toD),.tup (b.ws.map fun w=>.tup [.int w.1,toD w.2])]
noncomputable def Bk.names (b:Bk):List (List Nat):=b.fs++b.gs
noncomputable def Bk.says (b:Bk):List Sy:=b.ps++b.ms++b.ws.map (·.2)
structure Bk.Ok (b:Bk):Prop where
 f1:1<=b.fs.length
 f2:b.fs.length<=2
 g1:1<=b.gs.length
 g2:b.gs.length<=2
 nd:b.names.Nodup
 nm:∀ n∈b.names,fH n=true
 p1:b.ps.length<=3
 p2:∀ s∈b.ps,over b.names s/\aN s<=8
 p3:∀ s∈b.ps,fT b.gs s=false
 m1:b.ms.length<=3
 m2:∀ s∈b.ms,over b.names s/\aN s<=8
 w1:1<=b.ws.length
 w2:b.ws.length<=5
 w3:∀ w∈b.ws,1<=w.1/\w.1<=99/\over b.names w.2/\aN w.2<=8
section
variable {G:Prog}{k ih ib ir hX fE iy ia iap io il iaw ipi ip iw ibk:Nat}{st:aB}{Q:VK}{E:XK}
theorem K7 (h:G.fns ir=some lP){ds:List D}{lo hi:Int}(h1:lo<=(ds.length:Int))(h2:(ds.length:Int)<=hi)(hQ:Q (.bl true) st):aM G (k+1) ir [.tup ds,.int lo,.int hi] st Q E :=
 mG h (by rw[decide_eq_true h1,decide_eq_true h2];exact hQ)
end
end L3
end
section
namespace L3
open PySem
section
variable {G:Prog}{k ir il iap ia iaw ipi io ibk:Nat}{Q:VK}{E:XK}
theorem K2 (hbk:G.fns ibk=some (D3 ir il iap ia iaw ipi io (.int 3) (.int 4)))(hr:G.fns ir=some lP){F J P M V N:D}{st:aB}{Φ:Nat->aB->Prop}
 (h1:∀(st:aB)(Q:VK)(E:XK),(∀ aA,Ext st aA->Q (.bl true) aA)->aM G (k+12) il [F,J] st Q E)(h2:∀(st:aB)(Q:VK),Q N st->iR .add F J st Q)
 (h3:∀(st:aB)(Q:VK)(E:XK),(∀ aA,Ext st aA->Q (.bl true) aA)->aM G (k+12) iap [N,J,P] st Q E)(h4:∀(st:aB)(Q:VK)(E:XK),(∀ aA,Ext st aA->Q (.bl true) aA)->aM G (k+12) ia [N,M,.int 3] st Q E)
 (h5:∀(st:aB)(Q:VK)(E:XK),(∀ aA,Ext st aA->Q (.bl true) aA)->aM G (k+12) iaw [N,V] st Q E)(h6:∀(st:aB)(Q:VK)(E:XK),(∀ l aA,Ext st aA->Φ l aA->Q (.ref l) aA)->aM G (k+12) io [P,M,V] st Q E)
 (h7:∀(l:Nat)(st:aB)(Q:VK)(E:XK),Φ l st->(∀ p aA (xs:List D),Ext st aA->xs.length<=4->aA p=some (.lst xs)->Q (.ref p) aA)->aM G (k+12) ipi [.ref l] st Q E)
 (hQ:∀ aA,Ext st aA->Q (.bl true) aA):aM G (k+13) ibk [.tup [F,J,P,M,V]] st Q E:=by
 rw[aY hbk]
 simp only[D3,start]
 refine⟨rfl,?_⟩
 walk_at"st"
 refine K7 hr (Rq 5) (Rq 5) ?_
 walk_at"ex"
 refine h1 _ _ _ fun aC x1=>?_
 walk_at"ex"
 rw[aE]
 try dsimp only
 refine gH ?_
 rw[uG,BF,FP]
 simp only[↓DV,↓IA]
 rw[kJ,show fQ [F,J,P,M,V] 1=some J from rfl,aZ,yS]
 simp only[dy,dg]
 refine gH ?_
 rw[uG,NH,BF,FP]
 simp only[↓DV,↓IA]
 rw[kJ,show fQ [F,J,P,M,V] 0=some F from rfl,aZ,FP]
 simp only[dy,dg,↓Ba]
 refine h2 _ _ ?_
 rw[yS]
 simp only[dy,dg]
 refine gH ?_
 rw[uG,BF,FP]
 simp only[dy,dg,↓DV,↓IA]
 rw[kJ,show fQ [F,J,P,M,V] 2=some P from rfl,aZ,yS]
 simp only[dy,dg]
 refine gH ?_
 rw[uG,BF,FP]
 simp only[dy,dg,↓DV,↓IA]
 rw[kJ,show fQ [F,J,P,M,V] 3=some M from rfl,aZ,yS]
 simp only[dy,dg]
 refine gH ?_
 rw[uG,BF,FP]
 simp only[dy,dg,↓DV,↓IA]
 rw[kJ,show fQ [F,J,P,M,V] 4=some V from rfl,aZ,yS]
 simp only[dy,dg]
 walk_at"st"
 refine h3 _ _ _ fun aF x2=>?_
 walk_at"ex"
 refine h4 _ _ _ fun aU x3=>?_
 walk_at"ex"
 rw[aE]
 walk_at"st"
 refine h5 _ _ _ fun cN x4=>?_
 walk_at"ex"
 refine h6 _ _ _ fun l eJ x5 hl=>?_
 walk_at"ex"
 refine h7 _ _ _ _ hl fun p gJ xs x6 hx hp=>?_
 walk_at"ex"
 unfold dQ
 rw[hp]
 show Q (.bl (decide ((xs.length:Int)<=4))) gJ
 rw[decide_eq_true (show(xs.length:Int)<=4 by omega)]
 exact hQ _ (((((x1.trans x2).trans x3).trans x4).trans x5).trans x6)
end
end L3
end
section
namespace L3
open PySem
section
variable {G:Prog}{k ih ib ir hX fE iy ia iap io il iaw ipi ip iw ibk:Nat}{st:aB}{Q:VK}{E:XK}
theorem M1 (hbk:G.fns ibk=some (D3 ir il iap ia iaw ipi io (.int 3) (.int 4)))(hla:G.fns il=some (JX ir hX (.int 2)))(hap:G.fns iap=some (DE ia ib (.int 3)))(hb:G.fns ib=some (vO ih ib))(hh:G.fns ih=some gC)(ha:G.fns ia=some (yV ir iy))(hr:G.fns ir=some lP)(hy:G.fns iy=some (qY fE (.int 8)))(h:G.fns fE=some (nL hX fE (.cV wY zR)))
  (hn:G.fns hX=some (iW (.tup (fM.map .str)) (.str fA) (.int 8)))(haw:G.fns iaw=some (A2 ir iw (.int 5)))(hw:G.fns iw=some (zJ ir ip iy))(hp:G.fns ip=some (rL (.int 99)))(ho:G.fns io=some pH)(hpi:G.fns ipi=some (iL ih)){b:Bk}(B:b.Ok)(hs:fI b.says<bK)(hd:∀ x∈b.says,aN x<=60)(hc:(cL b.says []).length<=4)
  (hQ:∀ aA,Ext st aA->Q (.bl true) aA):aM G (k+13) ibk [b.d] st Q E:=by
 have hL:bK=16777216:=rfl
 have f2:=B.f2
 have g2:=B.g2
 have p1:=B.p1
 have m1:=B.m1
 have w2:=B.w2
 refine K2 hbk hr (N:=.tup (b.names.map .str)) (Φ:=fun l st=>st l=some (.lst (b.says.map toD))) (fun st Q E q=>UO (k:=k+10) hla hr hn B.f1 B.f2 B.g1 B.g2 B.nd B.nm q) (fun st Q q=>?_) (fun st Q E q=>OL (k:=k) hap hb hh ha hr hy h hn B.nm B.p2 B.p1 B.p3 q)
  (fun st Q E q=>CP (k:=k+1) ha hr hy h hn B.nm B.m2 (by omega) (by omega) q) (fun st Q E q=>KU (k:=k) haw hw hr hp hy h hn B.nm B.w3 B.w1 B.w2 q) (fun st Q E q=>FO (k:=k+11) ho (by omega) (by omega) (by omega) fun p aA x e=>q p aA x e)
  (fun l st Q E e q=>xJ (k:=k+10) hpi hh e hd hs fun p aA x e'=>q p aA _ x (by simpa using hc) e') hQ
 show _/\Q _ st
 refine⟨by simp only[ab];omega,?_⟩
 rw[<-d5]
 exact q
end
end L3
end
section
namespace L3
noncomputable def jV (f g:Nat->Bool):Nat->Bool
 |0=>g 0
 |t+1=>g (t+1)||(f (t+1)&&jV f g t)
noncomputable def G1 (names:List (List Nat))(aG:List (List Bool))(n:List Nat)(t:Nat):Bool:=(((aG[t]?).getD [])[names.idxOf n]?).getD false
noncomputable def hv (names:List (List Nat))(aG:List (List Bool)):Sy->Nat->Bool
 |.yes,_=>true
 |.no,_=>false
 |.cO n,t=>G1 names aG n t
 |.one .not s,t=>!hv names aG s t
 |.one .before s,t=>decide (0<t)&&hv names aG s (t-1)
 |.one .once s,t=>(ai (t+1)).any (hv names aG s)
 |.one .sofar s,t=>(ai (t+1)).all (hv names aG s)
 |.two .and s u,t=>hv names aG s t&&hv names aG u t
 |.two .or s u,t=>hv names aG s t||hv names aG u t
 |.two .bB s u,t=>hv names aG u t || !hv names aG s t
 |.two .same s u,t=>hv names aG s t==hv names aG u t
 |.two .since s u,t=>jV (hv names aG s) (hv names aG u) t
noncomputable def qD:Sy->Sy
 |.one .before s=>s
 |s=>s
noncomputable def gQ:Sy->Bool
 |.one .sofar _=>true
 |_=>false
noncomputable def lT (names:List (List Nat))(aG:List (List Bool))(t:Nat)(p:Sy):Bool:=if t=0 then gQ p else hv names aG (qD p) (t-1)
noncomputable def hZ:Sy->Bool->List Bool->Bool
 |.one .before _,m,_=>m
 |.one .once _,m,a::_=>m||a
 |.one .sofar _,m,a::_=>m&&a
 |.two .since _ _,m,a::b::_=>b||(m&&a)
 |_,_,_=>false
noncomputable def vX:Sy->List Bool->Bool
 |.yes,_=>true
 |.one .not _,a::_=>!a
 |.two .and _ _,a::b::_=>a&&b
 |.two .or _ _,a::b::_=>a||b
 |.two .bB _ _,a::b::_=>b || !a
 |.two .same _ _,a::b::_=>a==b
 |_,_=>false
section
variable {names:List (List Nat)}{aG:List (List Bool)}
theorem DK (f:Nat->Bool)(t:Nat):(ai (t+1)).any f=((ai t).any f||f t):=by rw[mh];simp
theorem D4 (f:Nat->Bool)(t:Nat):(ai (t+1)).all f=((ai t).all f&&f t):=by rw[mh];simp
theorem XN {s:Sy}(h:cB s=true)(t:Nat):hv names aG s t=hZ s (lT names aG t s) ((subs s).map fun u=>hv names aG u t):=by
 cases s with
 |one w a =>
  cases w with
  |not=>cases h
  |before =>
   cases t with
   |zero=>simp [hv,hZ,lT,gQ]
   |succ t=>simp [hv,hZ,lT,qD]
  |once =>
   cases t with
   |zero=>simp [hv,hZ,lT,gQ,subs]
   |succ t=>simp only[hv,hZ,lT,qD,subs,aw];rw[DK];simp
  |sofar =>
   cases t with
   |zero=>simp [hv,hZ,lT,gQ,subs]
   |succ t=>simp only[hv,hZ,lT,qD,subs,aw];rw[D4];simp
 |two w a b =>
  cases w with
  |since =>
   cases t with
   |zero=>simp [hv,hZ,lT,gQ,subs,jV]
   |succ t =>
    simp only[hv,hZ,lT,qD,subs,aw,jV]
    simp [Bool.and_comm]
  |_=>cases h
 |_=>cases h
theorem Bp {s:Sy}(h:cB s=false)(hl:gI s=false)(t:Nat):hv names aG s t=vX s ((subs s).map fun u=>hv names aG u t):=by
 cases s with
 |one w a=>cases w<;>first|rfl|cases h
 |two w a b=>cases w<;>first|rfl|cases h
 |cO n=>cases hl
 |_=>rfl
end
end L3
end
section
namespace L3
open PySem
local macro_rules|`(tactic| walk_at"wd")=>`(tactic| (first|rw[if_pos (by decide +kernel)]|rw[if_neg (by decide +kernel)]))
noncomputable def AX:Fn:=⟨2,2,[.iff (.cmp .eq (.v 0) (.c (.str (W "not")))) [.ret (.not_ (.ix (.v 1) (.c (.int 0))))] [],.iff (.cmp .eq (.v 0) (.c (.str (W "and")))) [.ret (.and_ (.ix (.v 1) (.c (.int 0))) (.ix (.v 1) (.c (.int 1))))] [],.iff (.cmp .eq (.v 0) (.c (.str (W "or")))) [.ret (.or_ (.ix (.v 1) (.c (.int 0))) (.ix (.v 1) (.c (.int 1))))] [],.iff (.cmp .eq (.v 0) (.c (.str (W "then")))) [.ret (.or_ (.ix (.v 1) (.c (.int 1))) (.not_ (.ix (.v 1) (.c (.int 0)))))] [],.iff (.cmp .eq (.v 0) (.c (.str (W "same")))) [.ret (.cmp .eq (.ix (.v 1) (.c (.int 0))) (.ix (.v 1) (.c (.int 1))))] [],.ret (.cmp .eq (.v 0) (.c (.str (W "yes"))))]⟩
noncomputable def vY:Fn:=⟨3,3,[.iff (.cmp .eq (.v 0) (.c (.str (W "before")))) [.ret (.v 1)] [],.iff (.cmp .eq (.v 0) (.c (.str (W "once")))) [.ret (.or_ (.v 1) (.ix (.v 2) (.c (.int 0))))] [],.iff (.cmp .eq (.v 0) (.c (.str (W "sofar")))) [.ret (.and_ (.v 1) (.ix (.v 2) (.c (.int 0))))] [],.ret (.or_ (.ix (.v 2) (.c (.int 1))) (.and_ (.v 1) (.ix (.v 2) (.c (.int 0)))))]⟩
section
variable {G:Prog}{k i:Nat}{st:aB}{Q:VK}{E:XK}
theorem zL {q:Nat}{bs:List Bool}{j:Nat}{b:Bool}(hq:st q=some (.lst (bs.map .bl)))(hb:bs[j]? = some b):lC (.ref q) (.int (j:Nat)) st Q=Q (.bl b) st:=by
 have hj:j<bs.length:=by
  by_cases h:j<bs.length
  ·exact h
  ·rw[dq (by omega)]at hb;cases hb
 rw[eQ hq,dW (by simpa using hj),bb,hb]
 rfl
theorem Du (h:G.fns i=some AX){s:Sy}(hp:cB s=false)(hl:gI s=false){q:Nat}{bs:List Bool}(hb:bs.length=(subs s).length)(hq:st q=some (.lst (bs.map .bl)))(hQ:Q (.bl (vX s bs)) st):aM G (k+1) i [.str (wd s),.ref q] st Q E:=by
 rw[aY h]
 simp only[AX,start]
 refine⟨rfl,?_⟩
 cases s with
 |yes =>
  simp only[wd]
  iterate 5 (walk_at"st"; walk_at"wd"; rw[aE])
  walk_at"st"
  have e:(W "yes" == W "yes")=true:=by decide +kernel
  rw[e]
  exact hQ
 |no =>
  simp only[wd]
  iterate 5 (walk_at"st"; walk_at"wd"; rw[aE])
  walk_at"st"
  have e:(W "no" == W "yes")=false:=by decide +kernel
  rw[e]
  exact hQ
 |cO n=>cases hl
 |one w a =>
  cases w with
  |not =>
   simp only[wd,c1]
   match bs,hb,hq,hQ with
   |[b],_,hq,hQ =>
    have i0:=fun(Q:VK)=>zL (st:=st) (Q:=Q) (j:=0) hq rfl
    simp only[lj]at i0
    walk_at"st"; walk_at"wd"
    walk_at"st"
    rw[i0]
    walk_at"ex"
    exact hQ
  |_=>cases hp
 |two w a c =>
  match bs,hb,hq,hQ with
  |[b,b'],_,hq,hQ =>
   have i0:=fun(Q:VK)=>zL (st:=st) (Q:=Q) (j:=0) hq rfl
   have i1:=fun(Q:VK)=>zL (st:=st) (Q:=Q) (j:=1) hq rfl
   simp only[lj]at i0
   have e1:((1:Nat):Int)=1:=rfl
   rw[e1]at i1
   cases w with
   |and =>
    simp only[wd,c2]
    iterate 1 (walk_at"st"; walk_at"wd"; rw[aE])
    walk_at"st"; walk_at"wd"
    walk_at"st"
    rw[i0]
    walk_at"ex"
    cases b with
    |false=>simpa [vX]using hQ
    |true=>simp only[if_true];rw[i1];simpa [vX]using hQ
   |or =>
    simp only[wd,c2]
    iterate 2 (walk_at"st"; walk_at"wd"; rw[aE])
    walk_at"st"; walk_at"wd"
    walk_at"st"
    rw[i0]
    walk_at"ex"
    cases b with
    |true=>simpa [vX]using hQ
    |false=>simp only[ak,if_false];rw[i1];simpa [vX]using hQ
   |bB =>
    simp only[wd,c2]
    iterate 3 (walk_at"st"; walk_at"wd"; rw[aE])
    walk_at"st"; walk_at"wd"
    walk_at"st"
    rw[i1]
    walk_at"ex"
    cases b' with
    |true=>simpa [vX]using hQ
    |false=>simp only[ak,if_false];walk_at"ex"; rw[i0];walk_at"ex"; simpa [vX]using hQ
   |same =>
    simp only[wd,c2]
    iterate 4 (walk_at"st"; walk_at"wd"; rw[aE])
    walk_at"st"; walk_at"wd"
    walk_at"st"
    rw[i0]
    rw[i1]
    walk_at"ex"
    exact hQ
   |since=>cases hp
theorem X2 (h:G.fns i=some vY){s:Sy}(hp:cB s=true){q:Nat}{m:Bool}{bs:List Bool}(hb:bs.length=(subs s).length)(hq:st q=some (.lst (bs.map .bl)))(hQ:Q (.bl (hZ s m bs)) st):aM G (k+1) i [.str (wd s),.bl m,.ref q] st Q E:=by
 rw[aY h]
 simp only[vY,start]
 refine⟨rfl,?_⟩
 cases s with
 |one w a =>
  match bs,hb,hq,hQ with
  |[b],_,hq,hQ =>
   have i0:=fun(Q:VK)=>zL (st:=st) (Q:=Q) (j:=0) hq rfl
   simp only[lj]at i0
   cases w with
   |not=>cases hp
   |before =>
    simp only[wd,c1]
    walk_at"st"; walk_at"wd"
    walk_at"st"
    exact hQ
   |once =>
    simp only[wd,c1]
    iterate 1 (walk_at"st"; walk_at"wd"; rw[aE])
    walk_at"st"; walk_at"wd"
    walk_at"st"
    cases m with
    |true=>simpa [hZ]using hQ
    |false=>simp only[ak,if_false];rw[i0];simpa [hZ]using hQ
   |sofar =>
    simp only[wd,c1]
    iterate 2 (walk_at"st"; walk_at"wd"; rw[aE])
    walk_at"st"; walk_at"wd"
    walk_at"st"
    cases m with
    |false=>simpa [hZ]using hQ
    |true=>simp only[if_true];rw[i0];simpa [hZ]using hQ
 |two w a c =>
  match bs,hb,hq,hQ with
  |[b,b'],_,hq,hQ =>
   have i0:=fun(Q:VK)=>zL (st:=st) (Q:=Q) (j:=0) hq rfl
   have i1:=fun(Q:VK)=>zL (st:=st) (Q:=Q) (j:=1) hq rfl
   simp only[lj]at i0
   have e1:((1:Nat):Int)=1:=rfl
   rw[e1]at i1
   cases w with
   |since =>
    simp only[wd,c2]
    iterate 3 (walk_at"st"; walk_at"wd"; rw[aE])
    walk_at"st"
    rw[i1]
    walk_at"ex"
    cases b' with
    |true=>simpa [hZ]using hQ
    |false =>
     simp only[ak,if_false]
     cases m with
     |false=>simpa [hZ]using hQ
     |true=>simp only[if_true];rw[i0];simpa [hZ]using hQ
   |_=>cases hp
 |_=>cases hp
end
end L3
end
section
namespace L3
open PySem
mutual
theorem TM {st:aB}:∀(a b:D),bC a=true->bO st a b=bN a b
 |.non,b,_=>by cases b<;>simp only[bO,bN]
 |.bl _,b,_=>by cases b<;>simp only[bO,bN]
 |.int _,b,_=>by cases b<;>simp only[bO,bN]
 |.str _,b,_=>by cases b<;>simp only[bO,bN]
 |.tup as,b,h=>by
  cases b with
  |tup bs=>simp only[bO,bN];exact WD as bs (by simpa [bC]using h)
  |_=>simp only[bO,bN]
 |.ref _,_,h=>by simp [bC]at h
 |.cV _ _,_,h=>by simp [bC]at h
 |.bI _,_,h=>by simp [bC]at h
 |.exc _,_,h=>by simp [bC]at h
theorem WD {st:aB}:∀(as bs:List D),bM as=true->iP st as bs=gL as bs
 |[],[],_=>rfl
 |[],_::_,_=>rfl
 |_::_,[],_=>rfl
 |a::as,b::bs,h=>by
  simp only[bM,aq]at h
  simp only[iP,gL]
  rw[TM a b h.1,WD as bs h.2]
end
theorem L5 (s t:Sy):bN (toD s) (toD t)=decide (s=t):=by rw[<-TM (st:=fun _=>none) _ _ (lX s)];exact qK s t
theorem HN (x:Sy)(f:List Sy):((f.map toD).any fun d=>bN d (toD x))=f.contains x:=by
 rw[<-LR (st:=fun _=>none),ki,ki]
 congr 1
 funext y
 simp only[Qk]
 rw[TM _ _ (lX y)]
theorem zA:∀ s:Sy,iX (toD s)=true
 |.yes=>rfl
 |.no=>rfl
 |.cO n=>rfl
 |.one w s=>by simp only[toD,iX,jM,zA s,dt]
 |.two w s t=>by simp only[toD,iX,jM,zA s,zA t,dt]
theorem pK {s:Sy}(h:aN s<=8):keyed (toD s):=by
 have h1:=zA s
 have h2:=qJ s
 obtain⟨r,e⟩:=oW s
 rw[e]at h1 h2 ⊢
 simp only[iX]at h1
 simp only[cJ]at h2
 exact⟨h1,by omega⟩
theorem xP {st:aB}{n:List Nat}:∀{names:List (List Nat)},n∈names->findD st (.str n) (names.map .str)=some (names.idxOf n)
 |[],h=>by cases h
 |m::r,h=>by
  simp only[aw,findD,iE]
  by_cases e:m=n
  ·subst e;simp [km]
  ·rw[if_neg (by simpa using e),xP (by simpa [jc e]using h)]
   rw[km,beq_eq_false_iff_ne.mpr e];rfl
theorem GB {st:aB}{s:Sy}:∀{ps:List Sy},s∈ps->findD st (toD s) (ps.map toD)=some (ps.idxOf s)
 |[],h=>by cases h
 |m::r,h=>by
  simp only[aw,findD,qK]
  by_cases e:m=s
  ·subst e;simp [km]
  ·rw[if_neg (by simpa using e),GB (by simpa [jc e]using h)]
   rw[km,beq_eq_false_iff_ne.mpr e];rfl
noncomputable def jX (names:List (List Nat))(bA:List Sy):Sy->D
 |.cO n=>.int (names.idxOf n:Nat)
 |s=>if cB s then .int (bA.idxOf s:Nat)else .non
noncomputable def EU (bA:List Sy):Sy->Prop
 |.one w s=>(p1 w=true->Sy.one w s∈bA)/\EU bA s
 |.two w s t=>(p2 w=true->Sy.two w s t∈bA)/\EU bA s/\EU bA t
 |_=>True
structure Good (names:List (List Nat))(bA:List Sy)(s:Sy):Prop where
 ov:over names s
 dp:aN s<=8
 pp:EU bA s
theorem Good.subs {names:List (List Nat)}{bA:List Sy}{s t:Sy}(h:Good names bA s)(ht:t∈subs s):Good names bA t:=by
 have hd:=A6 ht
 have h0:=h.dp
 cases s with
 |one w a =>
 simp only[L3.subs,ay]at ht;subst ht
 exact⟨h.ov,by omega,h.pp.2⟩
 |two w a b =>
 simp only[L3.subs,fz,ee,or_false]at ht
 rcases ht with rfl|rfl
 ·exact⟨h.ov.1,by omega,h.pp.2.1⟩
 ·exact⟨h.ov.2,by omega,h.pp.2.2⟩
 |_=>cases ht
theorem Good.mem {names:List (List Nat)}{bA:List Sy}{s:Sy}(h:Good names bA s)(hp:cB s=true):s∈bA:=by
 cases s with
 |one w a=>exact h.pp.1 hp
 |two w a b=>exact h.pp.1 hp
 |_=>cases hp
noncomputable def Kg (st:aB)(lr:Nat)(names:List (List Nat))(bA R:List Sy)(j:Nat)(s:Sy)(d:D):Prop:=∃(q:Nat)(is:List Nat),d=.tup [.str (wd s),jX names bA s,.ref q]/\q≠lr/\st q=some (.lst (is.map fun i=>.int (i:Nat)))/\is.length=(subs s).length /\
 ∀(m i:Nat)(t:Sy),is[m]? = some i->(subs s)[m]? = some t->i<j/\R[i]? = some t
noncomputable def Aa (st:aB)(lr:Nat)(names:List (List Nat))(bA R:List Sy)(rows:List D):Prop:=rows.length=R.length/\∀ j s d,R[j]? = some s->rows[j]? = some d->Kg st lr names bA R j s d
noncomputable def yO (n:Nat):List D:=(ai n).map fun i=>.int (i:Nat)
noncomputable def qA (names:List (List Nat))(lp lr ld:Nat):List (List Nat×D):=[(W "names", .tup (names.map .str)),(W "pieces", .ref lp),(W "rows", .ref lr),(W "row_of", .ref ld)]
structure iI (st:aB)(p lp lr ld:Nat)(names:List (List Nat))(bA R:List Sy)(xs:List (List Nat×D)):Prop where
 ins:st p=some (.ins (W "Table") (qA names lp lr ld++xs))
 pc:st lp=some (.lst (bA.map toD))
 rows:∃ rows,st lr=some (.lst rows)/\Aa st lr names bA R rows
 tab:st ld=some (.tab (R.map toD) (yO R.length))
 ne:lp≠lr
 nd:R.Nodup
 gd:∀ s∈R,Good names bA s
 len:R.length<=5000
 pd:∀ s∈bA,aN s<=60
theorem TX {names:List (List Nat)}{lp lr ld:Nat}{xs:List (List Nat×D)}:cA (qA names lp lr ld++xs) (W "names")=some (.tup (names.map .str)):=by
 simp only[qA,cw,cA];rw[if_pos de]
theorem xH {names:List (List Nat)}{lp lr ld:Nat}{xs:List (List Nat×D)}:cA (qA names lp lr ld++xs) (W "pieces")=some (.ref lp):=by
 simp only[qA,cw,cA];rw[if_neg (by decide +kernel),if_pos de]
theorem DC {names:List (List Nat)}{lp lr ld:Nat}{xs:List (List Nat×D)}:cA (qA names lp lr ld++xs) (W "rows")=some (.ref lr):=by
 simp only[qA,cw,cA];rw[if_neg (by decide +kernel),if_neg (by decide +kernel),if_pos de]
theorem oE {names:List (List Nat)}{lp lr ld:Nat}{xs:List (List Nat×D)}:cA (qA names lp lr ld++xs) (W "row_of")=some (.ref ld):=by
 simp only[qA,cw,cA];rw[if_neg (by decide +kernel),if_neg (by decide +kernel),if_neg (by decide +kernel),if_pos de]
theorem kC {names:List (List Nat)}{lp lr ld:Nat}{xs:List (List Nat×D)}{f:List Nat}(h1:W "names" ≠ f)(h2:W "pieces" ≠ f)(h3:W "rows" ≠ f)(h4:W "row_of" ≠ f):cA (qA names lp lr ld++xs) f=cA xs f:=by
 simp only[qA,cw,av,cA];rw[if_neg h1,if_neg h2,if_neg h3,if_neg h4]
theorem iI.keep {st aA:aB}{p lp lr ld:Nat}{names:List (List Nat)}{bA R:List Sy}{xs:List (List Nat×D)}(T:iI st p lp lr ld names bA R xs)(h:Ext st aA):iI aA p lp lr ld names bA R xs:=by
 obtain⟨rows,r1,r2,r3⟩:=T.rows
 refine⟨h _ _ T.ins,h _ _ T.pc,⟨rows,h _ _ r1,r2,fun j s d e1 e2=>?_⟩,h _ _ T.tab,T.ne,T.nd,T.gd,T.len,T.pd⟩
 obtain⟨q,is,a1,a2,a3,a4⟩:=r3 j s d e1 e2
 exact⟨q,is,a1,a2,h _ _ a3,a4⟩
theorem JH {s:Sy}:∀{R:List Sy}{vs:List D}{j:Nat}{d:D},R.Nodup->R[j]? = some s->vs[j]? = some d->vs.length=R.length->lS (R.map toD) vs (toD s)=some d
 |[],_,_,_,_,h,_,_=>by simp at h
 |x::R,[],_,_,_,_,_,h=>by simp at h
 |x::R,v::vs,0,d,nd,h,hv,hl=>by
  simp at h hv
  subst h hv
  simp only[aw,lS,L5,decide_true,if_true]
 |x::R,v::vs,j+1,d,nd,h,hv,hl=>by
  simp at h hv hl
  have hx:x≠s:=fun e=>by subst e;exact(List.nodup_cons.mp nd).1 (bf h)
  simp only[aw,lS,L5]
  rw[if_neg (by simpa using hx)]
  exact JH (List.nodup_cons.mp nd).2 h hv hl
theorem XM (n:Nat):(yO n).length=n:=by simp [yO]
theorem Cv {n j:Nat}(h:j<n):(yO n)[j]? = some (.int (j:Nat)):=by simp [yO,h]
theorem iI.look {st:aB}{p lp lr ld:Nat}{names:List (List Nat)}{bA R:List Sy}{xs:List (List Nat×D)}(T:iI st p lp lr ld names bA R xs){s:Sy}{j:Nat}(h:R[j]? = some s):lS (R.map toD) (yO R.length) (toD s)=some (.int (j:Nat)):=by
 have hj:j<R.length:=by
  by_cases q:j<R.length
  ·exact q
  ·rw[dq (by omega)]at h;cases h
 exact JH T.nd h (Cv hj) (XM _)
end L3
end
section
namespace L3
open PySem
noncomputable def mO:Fn:=⟨2,2,[.iff (.cmp .eq (.ix (.v 1) (.c (.int 0))) (.c (.str (W "lamp")))) [.ret (.cD .index (.fld (W "Table") (W "names") (.v 0)) [(.ix (.v 1) (.c (.int 1)))])] [],.iff (.cmp .in_ (.ix (.v 1) (.c (.int 0))) (.c vG)) [.ret (.cD .index (.fld (W "Table") (W "pieces") (.v 0)) [(.v 1)])] [],.ret (.c .non)]⟩
noncomputable def yI:Fn:=⟨2,2,[.iff (.cmp .eq (.ix (.v 1) (.c (.int 0))) (.c (.str (W "before")))) [.ret (.dix (.fld (W "Table") (W "row_of") (.v 0)) (.ix (.v 1) (.c (.int 1))))] [],.ret (.dix (.fld (W "Table") (W "row_of") (.v 0)) (.v 1))]⟩
noncomputable def zF (iph inh:Nat):Fn:=⟨3,8,[.asg (.nm 3) (.lst []),.hJ (.tp [4,5,6]) none [(.fld (W "Table") (W "rows") (.v 0))] [.asg (.nm 7) (.comp 1 [3] [0] true none [(.v 6)] [] (.ix (.v 1) (.v 0))),.iff (.cmp .eq (.v 4) (.c (.str (W "lamp")))) [.ex (.cD .append (.v 3) [(.ix (.v 2) (.v 5))])] [.iff (.cmp .in_ (.v 4) (.c vG)) [.ex (.cD .append (.v 3) [(.call iph [(.v 4),(.ix (.v 1) (.v 5)),(.v 7)])])] [.ex (.cD .append (.v 3) [(.call inh [(.v 4),(.v 7)])])]]],.ret (.v 3)]⟩
noncomputable def DT:Fn:=⟨2,2,[.ret (.bi .tuple [(.comp 1 [1] [0] true none [(.fld (W "Table") (W "remembered_rows") (.v 0))] [] (.ix (.v 1) (.v 0)))])]⟩
theorem mZ {α:Type}(t:α->D){g:aB->Prop}{turn:D->(St->aB->Prop)->St->aB->Prop}{N:St->aB->Prop}(I:List α->St->aB->Prop)(hg:∀ xs σ st,I xs σ st->g st)
 (ht:∀ x r σ st (M:St->aB->Prop),I (x::r) σ st->(∀ σ' aA,I r σ' aA->M σ' aA)->turn (t x) M σ st)(hN:∀ σ st,I [] σ st->N σ st):∀(xs:List α)(σ:St)(st:aB),I xs σ st->xB g turn N (xs.map t) σ st
 |[],σ,st,h=>⟨hg _ _ _ h,hN _ _ h⟩
 |x::xs,σ,st,h=>⟨hg _ _ _ h,ht x xs σ st _ h fun σ' aA h'=>mZ t I hg ht hN xs σ' aA h'⟩
theorem AH {names:List (List Nat)}{bA:List Sy}{s:Sy}(hl:gI s=false)(hp:cB s=true):jX names bA s=.int (bA.idxOf s:Nat):=by
 unfold jX
 split
 ·simp [gI]at hl
 ·rw[if_pos hp]
theorem NW {names:List (List Nat)}{bA:List Sy}{s:Sy}(hl:gI s=false)(hp:cB s=false):jX names bA s=.non:=by
 unfold jX
 split
 ·simp [gI]at hl
 ·rw[hp];rfl
section
variable {G:Prog}{k i iph inh:Nat}{st:aB}{Q:VK}{E:XK}{p lp lr ld:Nat}{names:List (List Nat)}{bA R:List Sy}{xs:List (List Nat×D)}
theorem RY (h:G.fns i=some mO)(tins:st p=some (.ins (W "Table") (qA names lp lr ld++xs)))(tpc:st lp=some (.lst (bA.map toD)))(tpd:∀ s∈bA,aN s<=60){s:Sy}(g:Good names bA s)(hQ:Q (jX names bA s) st):aM G (k+1) i [.ref p,toD s] st Q E:=by
 rw[aY h]
 simp only[mO,start]
 refine⟨rfl,?_⟩
 obtain⟨r,er⟩:=oW s
 cases hl:gI s with
 |true =>
  cases s with
  |cO n =>
   simp only[toD]
   walk_at"st"
   rw[if_pos (by decide +kernel)]
   walk_at"st"
   rw[eS tins TX]
   walk_at"ex"
   rw[xS,tS,AY,tS]
   refine⟨True.intro,vM,kB st names,?_⟩
   rw[xP g.ov,aZ]
   exact hQ
  |_=>cases hl
 |false =>
  have h1:(wd s==W "lamp")=false:=by rw[DI];exact hl
  have eP:∀ st:aB,(Rp (mS.map .str) fun d=>bO st d (.str (wd s)))=cB s:=fun st=>(vL (wd s) mS).trans (EB s)
  rw[er]
  walk_at"st"
  rw[if_neg (by rw[h1];exact ei),aE]
  walk_at"st"
  simp only[vG]
  walk_at"ex"
  refine⟨(oQ mS).s,?_⟩
  rw[eP st]
  cases hp:cB s with
  |true =>
   simp only[if_true]
   walk_at"st"
   rw[eS tins xH]
   walk_at"ex"
   rw[xS,tZ,aH tpc,AY,tZ,aH tpc,<-er]
   refine⟨True.intro,FA (by have:=g.dp;omega),CH tpd,?_⟩
   rw[GB (g.mem hp),aZ]
   have e:jX names bA s=.int (bA.idxOf s:Nat):=AH hl hp
   rw[e]at hQ
   exact hQ
  |false =>
   simp only[ak,if_false,aE]
   walk_at"st"
   have e:jX names bA s=.non:=NW hl hp
   rw[e]at hQ
   exact hQ
theorem P8 (s:Sy)(hp:cB s=true):(wd s==W "before")=true/\(∃ a,s=.one .before a)∨(wd s==W "before")=false/\qD s=s:=by
 cases s with
 |one w a=>cases w<;>first|exact .inl ⟨by simp only[wd,c1];decide +kernel,a,rfl⟩|exact .inr ⟨by simp only[wd,c1];decide +kernel,rfl⟩|cases hp
 |two w a b=>cases w<;>first|exact .inr ⟨by simp only[wd,c2];decide +kernel,rfl⟩|cases hp
 |_=>cases hp
theorem Ab (h:G.fns i=some yI)(T:iI st p lp lr ld names bA R xs){s:Sy}(hp:cB s=true)(hd:aN s<=8){j:Nat}(hj:R[j]? = some (qD s))(hQ:Q (.int (j:Nat)) st):aM G (k+1) i [.ref p,toD s] st Q E:=by
 rw[aY h]
 simp only[yI,start]
 refine⟨rfl,?_⟩
 rcases P8 s hp with⟨e1,a,rfl⟩|⟨e1,e2⟩
 ·simp only[toD,c1]
  walk_at"st"
  rw[if_pos (by decide +kernel)]
  walk_at"st"
  rw[eS T.ins oE]
  walk_at"ex"
  simp only[qD]at hj
  simp only[aN]at hd
  rw[BV T.tab (pK (by omega)) (T.look hj)]
  exact hQ
 ·obtain⟨r,er⟩:=oW s
  rw[er]
  walk_at"st"
  rw[if_neg (by rw[e1];exact ei),aE]
  walk_at"st"
  rw[eS T.ins oE]
  walk_at"ex"
  rw[e2]at hj
  rw[<-er,BV T.tab (pK hd) (T.look hj)]
  exact hQ
theorem WU (h:G.fns i=some (zF iph inh))(hn:G.fns inh=some AX)(hpa:G.fns iph=some vY)(T:iI st p lp lr ld names bA R xs){mem set:List Bool}(V:Sy->Bool)
  (v1:∀ n∈names,set[names.idxOf n]? = some (V (.cO n)))(v2:∀ s∈bA,cB s=true->∃ m,mem[bA.idxOf s]? = some m/\V s=hZ s m ((subs s).map V))(v3:∀ s,cB s=false->gI s=false->V s=vX s ((subs s).map V))
  (hQ:∀ aA q,st q=none->Ext st aA->aA q=some (.lst (R.map fun s=>.bl (V s)))->Q (.ref q) aA):aM G (k+2) i [.ref p,.tup (mem.map .bl),.tup (set.map .bl)] st Q E:=by
 have hL:bK=16777216:=rfl
 rw[aY h]
 simp only[zF,start]
 refine⟨rfl,?_⟩
 walk_at"st"
 refine bV (by simp) fun q aC x1 hq hq1=>?_
 obtain⟨rows,r1,r2,r3⟩:=T.rows
 have T1:=T.keep x1
 walk_at"st"
 rw[eS T1.ins DC]
 rw[lZ,aH (x1 _ _ r1)]
 have ez:rows=(R.zip rows).map Prod.snd:=by rw[List.map_snd_zip (by omega)]
 rw[ez]
 have qlr:q≠lr:=fun z=>by rw[z,r1]at hq;cases hq
 refine mZ Prod.snd (I:=fun r σ aA=>∃ j o4 o5 o6 o7,r=(R.zip rows).drop j/\σ=[some (.ref p),some (.tup (mem.map .bl)),some (.tup (set.map .bl)),some (.ref q),o4,o5,o6,o7]/\bR [q] aC aA/\aA q=some (.lst ((R.take j).map fun s=>.bl (V s)))) (fun r σ aA ⟨j,_,_,_,_,_,_,k1,_⟩=>?_) (fun x r σ aA M ⟨j,o4,o5,o6,o7,e1,e2,k1,k2⟩ hM=>?_) (fun σ aA ⟨j,o4,o5,o6,o7,e1,e2,k1,k2⟩=>?_) _ _ _ ⟨0,none,none,none,none,rfl,rfl,.refl,by simpa using hq1⟩
 ·intro a ha
  simp only[ay]at ha
  subst ha
  rw[x1 _ _ r1]
  exact k1 _ _ (by simpa using qlr.symm) (x1 _ _ r1)
 ·-- a row
  have hz:j<(R.zip rows).length:=by
   by_cases z:j<(R.zip rows).length
   ·exact z
   ·rw[fj (by omega)]at e1;cases e1
  have hjR:j<R.length:=by rw[va]at hz;omega
  have hjr:j<rows.length:=by rw[va]at hz;omega
  rw[bz hz]at e1
  injection e1 with e3 e4
  have ex:x=(R[j],rows[j]):=by rw[e3];simp
  obtain⟨s,d⟩:=x
  injection ex with es ed
  have hs:R[j]? = some s:=by rw[aj hjR,es]
  have hd:rows[j]? = some d:=by rw[aj hjr,ed]
  obtain⟨qq,is,f1,f2,f3,f4,f5⟩:=r3 j s d hs hd
  have gs:=T.gd s (bf hs)
  have hlR:=T.len
  subst e2
  have qqq:qq≠q:=fun z=>by rw[z,hq]at f3;cases f3
  have f3':aA qq=some (.lst (is.map fun i=>.int (i:Nat))):=k1 _ _ (by simpa using qqq) (x1 _ _ f3)
  have hsub:(subs s).length<=2:=by cases s<;>simp [subs]
  show kF false [4,5,6] d _ _
  rw[f1]
  walk_at"ex"
  walk_at"st"
  rw[aH f3']
  have hval:∀ i∈is,∃ t,R[i]? = some t/\i<j:=fun i hi=>by
   obtain⟨m,hm⟩:=List.mem_iff_getElem?.mp hi
   have hml:m<(subs s).length:=by
    have:m<is.length:=by
     by_cases z:m<is.length
     ·exact z
     ·rw[dq (by omega)]at hm;cases hm
    omega
   obtain⟨a,b⟩:=f5 m i _ hm (aj hml)
   exact⟨_,b,a⟩
  refine dO (fun i:Nat=>D.int (i:Nat)) (fun i=>.bl (V ((R[i]?).getD .yes))) is [] aA (fun aS y a ha=>?_) (fun i hi aS K y1 hK=>?_) (by simp only[bc];omega) fun aF y2=>?_
  ·simp only[ay]at ha
   subst ha
   rw[f3',y _ _ f3']
  ·obtain⟨t,ht,hij⟩:=hval i hi
   show lC _ _ aS _
   have hlen:i<((R.take j).map fun s=>D.bl (V s)).length:=by simp;omega
   rw[eQ (y1 _ _ k2),dW hlen,bb,List.getElem?_take,if_pos hij,ht]
   have:=hK aS .refl
   rw[ht]at this
   exact this
  rw[av]
  have hparts:(is.map fun i=>D.bl (V ((R[i]?).getD .yes)))=((subs s).map V).map .bl:=by
   apply ym
   intro m
   rw[bb,bb,bb]
   cases hm:is[m]? with
   |none =>
    have:is.length<=m:=by
     by_cases z:m<is.length
     ·rw[aj z]at hm;cases hm
     ·omega
    rw[dq (by omega)];rfl
   |some i =>
    have hml:m<(subs s).length:=by
     have:m<is.length:=by
      by_cases z:m<is.length
      ·exact z
      ·rw[dq (by omega)]at hm;cases hm
     omega
    obtain⟨_,b⟩:=f5 m i _ hm (aj hml)
    rw[aj hml]
    simp only[kn]
    rw[b];rfl
  rw[hparts]
  refine bV (by simp only[ab];omega) fun pp aU y3 hpp lI=>?_
  walk_at"ex"
  have k3:aU q=some (.lst ((R.take j).map fun s=>.bl (V s))):=y3 _ _ (y2 _ _ k2)
  have kk3:bR [q] aC aU:=fun a o na e=>y3 _ _ (y2 _ _ (k1 a o na e))
  have fin:∀(σ':St),(∃ o4 o5 o6 o7,σ'=[some (.ref p),some (.tup (mem.map .bl)),some (.tup (set.map .bl)),some (.ref q),o4,o5,o6,o7])->∀ b,b=V s->M σ' (put aU q (.lst (((R.take j).map fun s=>.bl (V s))++[.bl b]))):=fun σ' ⟨o4,o5,o6,o7,e⟩ b hb=>by
   refine hM σ' _ ⟨j+1,o4,o5,o6,o7,e4,e,fun a o na e=>by rw[bD (by simpa using na)];exact kk3 a o na e,?_⟩
   rw[aW,List.take_succ,hs,hb]
   simp
  have hlq:((R.take j).map fun s=>D.bl (V s)).length<bK:=by simp;omega
  cases hl:gI s with
  |true =>
   cases s with
   |cO n =>
    simp only[wd]
    walk_at"st"
    rw[if_pos (by decide +kernel)]
    walk_at"st"
    rw[aH k3]
    refine⟨True.intro,?_⟩
    simp only[jX]
    have hv:=v1 n gs.ov
    have hlen:names.idxOf n<(set.map D.bl).length:=by
     rw[ab]
     by_cases z:names.idxOf n<set.length
     ·exact z
     ·rw[dq (by omega)]at hv;cases hv
    rw[kJ,dW hlen,bb,hv,kn,aZ,aH k3]
    refine⟨hlq,?_⟩
    simp only[aE]
    exact fin _ ⟨_,_,_,_,rfl⟩ _ rfl
   |_=>cases hl
  |false =>
   have h1:(wd s==W "lamp")=false:=by rw[DI];exact hl
   have eP:∀ st:aB,(Rp (mS.map .str) fun d=>bO st d (.str (wd s)))=cB s:=fun st=>(vL (wd s) mS).trans (EB s)
   walk_at"st"
   rw[if_neg (by rw[h1];exact ei)]
   walk_at"st"
   simp only[vG]
   walk_at"ex"
   refine⟨(oQ mS).s,?_⟩
   rw[eP aU]
   cases hp:cB s with
   |true =>
    simp only[if_true]
    walk_at"st"
    rw[aH k3]
    refine⟨True.intro,?_⟩
    obtain⟨m,hm,hV⟩:=v2 s (gs.mem hp) hp
    have e:jX names bA s=.int (bA.idxOf s:Nat):=AH hl hp
    rw[e]
    have hlen:bA.idxOf s<(mem.map D.bl).length:=by
     rw[ab]
     by_cases z:bA.idxOf s<mem.length
     ·exact z
     ·rw[dq (by omega)]at hm;cases hm
    walk_at"ex"
    (try rw[kJ])
    rw[dW hlen,bb,hm,kn,aZ]
    refine X2 hpa hp (by simp) lI ?_
    rw[aH k3]
    refine⟨hlq,?_⟩
    simp only[aE]
    exact fin _ ⟨_,_,_,_,rfl⟩ _ hV.symm
   |false =>
    simp only[ak,if_false]
    walk_at"st"
    rw[aH k3]
    refine⟨True.intro,?_⟩
    refine Du hn hp hl (by simp) lI ?_
    rw[aH k3]
    refine⟨hlq,?_⟩
    simp only[aE]
    exact fin _ ⟨_,_,_,_,rfl⟩ _ (v3 s hp hl).symm
 ·-- the end
  subst e2
  have hj:R.length<=j:=by
   have:(R.zip rows).length<=j:=by
    by_cases z:j<(R.zip rows).length
    ·rw[bz z]at e1;cases e1
    ·omega
   rw[va]at this;omega
  rw[List.take_of_length_le hj]at k2
  walk_at"st"
  exact hQ aA q hq (fun a o e=>k1 a o (by intro z;simp only[ay]at z;rw[z,hq]at e;cases e) (x1 a o e)) k2
end
end L3
end
section
namespace L3
open PySem
noncomputable def oS (ie iw ipo:Nat):Fn:=⟨2,4,[.iff (.din false (.v 1) (.fld (W "Table") (W "row_of") (.v 0))) [.ret (.c .non)] [],.hJ (.nm 2) none [(.call iw [(.v 1)])] [.ex (.mcl (W "Table") (W "enter") ie (.v 0) [(.v 2)])],.asg (.nm 3) (.comp 1 [0] [0] true none [(.call iw [(.v 1)])] [] (.dix (.fld (W "Table") (W "row_of") (.v 1)) (.v 0))),.asg (.dk (.fld (W "Table") (W "row_of") (.v 0)) (.v 1)) (.bi .len [(.fld (W "Table") (W "rows") (.v 0))]),.ex (.cD .append (.fld (W "Table") (W "rows") (.v 0)) [(.tup [(.ix (.v 1) (.c (.int 0))),(.mcl (W "Table") (W "place_of") ipo (.v 0) [(.v 1)]),(.v 3)])])]⟩
theorem iJ {α:Type}{xs:List α}{j:Nat}{x:α}(h:xs[j]? = some x):j<xs.length:=by
 by_cases q:j<xs.length
 ·exact q
 ·rw[dq (by omega)]at h;cases h
section
variable {G:Prog}{k i ie iw ipo:Nat}{st:aB}{Q:VK}{E:XK}{p lp lr ld lm:Nat}{names:List (List Nat)}{bA R:List Sy}{xs fs:List (List Nat×D)}
theorem Dm (h:G.fns i=some DT)(ins:st p=some (.ins (W "Table") fs))(hf:cA fs (W "remembered_rows")=some (.ref lm)){js:List Nat}(hlm:st lm=some (.lst (js.map fun j=>.int (j:Nat)))){q:Nat}{V:Sy->Bool}(hq:st q=some (.lst (R.map fun s=>.bl (V s))))(hl:js.length=bA.length)(hl2:bA.length<=5000)
  (hj:∀(m j:Nat)(s:Sy),js[m]? = some j->bA[m]? = some s->R[j]? = some (qD s))(hQ:∀ aA,Ext st aA->Q (.tup (bA.map fun s=>.bl (V (qD s)))) aA):aM G (k+1) i [.ref p,.ref q] st Q E:=by
 have hL:bK=16777216:=rfl
 rw[aY h]
 simp only[DT,start]
 refine⟨rfl,?_⟩
 walk_at"st"
 rw[eS ins hf,lZ,aH hlm]
 refine dO (fun j:Nat=>D.int (j:Nat)) (fun j=>.bl (V ((R[j]?).getD .yes))) js [] st (fun aS y a ha=>?_) (fun j hjs aS K y1 hK=>?_) (by simp only[bc];omega) fun aF y2=>?_
 ·simp only[ay]at ha
  subst ha
  rw[hlm,y _ _ hlm]
 ·obtain⟨m,hm⟩:=List.mem_iff_getElem?.mp hjs
  have hml:m<bA.length:=by have:=iJ hm;omega
  have ht:=hj m j _ hm (aj hml)
  show lC _ _ aS _
  have hlen:j<(R.map fun s=>D.bl (V s)).length:=by simpa using iJ ht
  rw[eQ (y1 _ _ hq),dW hlen,bb,ht]
  have:=hK aS .refl
  rw[ht]at this
  exact this
 rw[av]
 have e:(js.map fun j=>D.bl (V ((R[j]?).getD .yes)))=bA.map fun s=>.bl (V (qD s)):=by
  apply ym
  intro m
  rw[bb,bb]
  cases hm:js[m]? with
  |none =>
   have:js.length<=m:=by
    by_cases z:m<js.length
    ·rw[aj z]at hm;cases hm
    ·omega
   rw[dq (by omega)];rfl
  |some j =>
   have hml:m<bA.length:=by have:=iJ hm;omega
   have ht:=hj m j _ hm (aj hml)
   rw[aj hml]
   simp only[kn]
   rw[ht];rfl
 rw[e]
 refine bV (by simp only[ab];omega) fun pp aU y3 hpp lI=>?_
 walk_at"ex"
 rw[aH lI]
 refine⟨by simp only[ab];omega,hQ aU (y2.trans y3)⟩
theorem UW (h:G.fns ie=some (oS ie iw ipo))(hw:G.fns iw=some gC)(hpo:G.fns ipo=some mO)(hxe:cA xs (W "enter")=none)(hxp:cA xs (W "place_of")=none):∀(n:Nat){s:Sy}{k:Nat}{st:aB}{Q:VK}{E:XK}{R:List Sy},aN s<=n->iI st p lp lr ld names bA R xs->Good names bA s->R.length+sz s<=5000 ->
  (∀ aA R',bR [lr,ld] st aA->iI aA p lp lr ld names bA R' xs->(∀ x∈R,x∈R')->s∈R'->(∀ x∈R',x∈R∨sz x<=sz s)->R'.length<=R.length+sz s->Q .non aA) ->
  aM G (k+n+2) ie [.ref p,toD s] st Q E:=by
 have hL:bK=16777216:=rfl
 intro n
 induction n with
 |zero=>intro s k st Q E R hn;cases s<;>simp [aN]at hn
 |succ n ih =>
  intro s k st Q E R hn T g hlen hQ
  rw[aY h]
  simp only[oS,start]
  refine⟨rfl,?_⟩
  have kd:=pK g.dp
  walk_at"st"
  rw[eS T.ins oE,Df T.tab kd,HN]
  (try walk_at"ex")
  cases hc:R.contains s with
  |true =>
   simp only[if_true]
   walk_at"st"
   have hs:s∈R:=by simpa using hc
   exact hQ st R .refl T (fun x hx=>hx) hs (fun x hx=>.inl hx) (by omega)
  |false =>
   have hs:s∉R:=by simpa using hc
   simp only[ak,if_false,aE]
   walk_at"st"
   refine sL (k:=k+n+1) hw ?_
   walk_at"ex"
   have hss:=LU s
   have hsub:(subs s).length<=2:=by cases s<;>simp [subs]
   have hszL:∀(l:List Sy)(t:Sy),t∈l->sz t<=fI l:=fun l=>by
    induction l with
    |nil=>intro t ht;cases ht
    |cons a l ihl =>
     intro t ht
     rw[jH]
     rcases List.mem_cons.mp ht with rfl|ht
     ·omega
     ·have:=ihl t ht;omega
   refine mZ toD (I:=fun r σ aA=>∃ R1 o2 dn,subs s=dn++r/\σ=[some (.ref p),some (toD s),o2,none]/\bR [lr,ld] st aA/\iI aA p lp lr ld names bA R1 xs/\(∀ x∈R,x∈R1)/\(∀ t∈dn,t∈R1)/\(∀ x∈R1,x∈R∨sz x<sz s)/\R1.length<=R.length+fI dn) (fun r σ aA hI a ha=>by cases ha) (fun x r σ aA M hI hM=>?_) (fun σ aA hI=>?_) _ _ _ ⟨R,none,[],rfl,rfl,.refl,T,fun x hx=>hx,fun t ht=>(by cases ht),fun x hx=>.inl hx,by simp [fI]⟩
   ·obtain⟨R1,o2,dn,e1,e2,k1,T1,a1,a2,a3,a4⟩:=hI
    subst e2
    have hx:x∈subs s:=by rw[e1];simp
    have hxd:=A6 hx
    have hdn:fI dn+sz x<=fI (subs s):=by rw[e1,kY,jH];omega
    walk_at"st"
    rw[nA T1.ins (by rw[kC (by decide +kernel) (by decide +kernel) (by decide +kernel) (by decide +kernel)];exact hxe)]
    refine⟨True.intro,?_⟩
    refine ih (k:=k) (by omega) T1 (g.subs hx) (by omega) fun aF R2 b1 b2 b3 b4 b5 b6=>?_
    rw[aE]
    refine hM _ aF ⟨R2,_,dn++[x],by simp [e1],rfl,k1.trans b1,b2,fun y hy=>b3 y (a1 y hy),fun t ht=>?_,fun y hy=>?_,?_⟩
    ·rcases List.mem_append.mp ht with ht|ht
     ·exact b3 t (a2 t ht)
     ·simp only[ay]at ht;subst ht;exact b4
    ·rcases b5 y hy with hy|hy
     ·exact a3 y hy
     ·exact .inr (by omega)
    ·rw[kY];simp only[jH];simp only[fI,gz,Qy]at *;omega
   ·obtain⟨R1,o2,dn,e1,e2,k1,T1,a1,a2,a3,a4⟩:=hI
    subst e2
    rw[el]at e1
    subst e1
    have hs1:s∉R1:=fun z=>by
     rcases a3 s z with z|z
     ·exact hs z
     ·omega
    walk_at"st"
    refine sL (k:=k+n+1) hw ?_
    walk_at"ex"
    have hidx:∀ t∈subs s,R1[R1.idxOf t]? = some t:=fun t ht=>by
     have hm:=a2 t ht
     have:=List.idxOf_lt_length_iff.mpr hm
     rw[aj this]
     simp
    refine dO toD (fun t=>.int (R1.idxOf t:Nat)) _ [] aA (fun aS y a ha=>by cases ha) (fun t ht aS K y1 hK=>?_) (by simp only[bc];omega) fun aF y2=>?_
    ·have T'':=T1.keep y1
     show pW _ _ _ aS _
     rw[eS T''.ins oE]
     have gt:=g.subs ht
     show rP _ _ aS _
     rw[BV T''.tab (pK gt.dp) (T''.look (hidx t ht))]
     exact hK aS .refl
    rw[av]
    refine bV (by simp only[ab];omega) fun q aU y3 hq hq3=>?_
    have T3:=T1.keep (y2.trans y3)
    have kk3:bR [lr,ld] st aU:=k1.trans (y2.trans y3).keep
    obtain⟨rows,r1,r2,r3⟩:=T3.rows
    walk_at"ex"
    walk_at"st"
    rw[eS T3.ins DC]
    rw[LF,fX r1]
    rw[eS T3.ins oE]
    have hnew:(((R1.map toD).any fun d=>bN d (toD s))=false):=by rw[HN];simpa using hs1
    have hl1:R1.length<5000:=by omega
    rw[Gb T3.tab kd hnew (by simp;omega)]
    generalize hst4:put aU ld (.tab (R1.map toD++[toD s]) (yO R1.length++[.int (rows.length:Nat)]))=cN
    have lrld:lr≠ld:=fun z=>by rw[z,T3.tab]at r1;cases r1
    have pld:p≠ld:=fun z=>by have:=T3.ins;rw[z,T3.tab]at this;cases this
    have plr:p≠lr:=fun z=>by have:=T3.ins;rw[z,r1]at this;cases this
    have lpld:lp≠ld:=fun z=>by have:=T3.pc;rw[z,T3.tab]at this;cases this
    have ins4:cN p=some (.ins (W "Table") (qA names lp lr ld++xs)):=by rw[<-hst4,bD pld];exact T3.ins
    have lr4:cN lr=some (.lst rows):=by rw[<-hst4,bD lrld];exact r1
    have q4:cN q=some (.lst ((subs s).map fun t=>.int (R1.idxOf t:Nat))):=by
     rw[<-hst4,bD (fun z=>by rw[z,T3.tab]at hq3;cases hq3)];exact hq3
    have tab4:cN ld=some (.tab ((R1++[s]).map toD) (yO (R1++[s]).length)):=by
     rw[<-hst4,aW,r2]
     simp [yO,mh]
    have qlr:q≠lr:=fun z=>by
     rw[z]at hq
     obtain⟨rows',r1',_⟩:=(T1.keep y2).rows
     rw[r1']at hq;cases hq
    walk_at"st"
    rw[eS ins4 DC,CB,aH lr4]
    refine⟨True.intro,?_⟩
    obtain⟨r,er⟩:=oW s
    rw[er]
    walk_at"ex"
    rw[<-er,nA ins4 (by rw[kC (by decide +kernel) (by decide +kernel) (by decide +kernel) (by decide +kernel)];exact hxp)]
    refine⟨True.intro,?_⟩
    have T4:iI (put cN lr (.lst (rows++[.tup [.str (wd s),jX names bA s,.ref q]]))) p lp lr ld names bA (R1++[s]) xs:=by
     have keep4:∀ a o,a≠lr->a≠ld->aU a=some o->(put cN lr (.lst (rows++[.tup [.str (wd s),jX names bA s,.ref q]]))) a=some o:=fun a o n1 n2 e=>by
      rw[bD n1,<-hst4,bD n2];exact e
     refine⟨keep4 _ _ plr pld T3.ins,keep4 _ _ T3.ne lpld T3.pc,⟨_,aW,by simp [r2],fun j t d ht hd=>?_⟩,?_,T3.ne,?_,?_,by simp;omega,T3.pd⟩
     ·by_cases hj:j<R1.length
      ·rw[bu hj]at ht
       rw[bu (by omega)]at hd
       obtain⟨q',is,c1,c2,c3,c4,c5⟩:=r3 j t d ht hd
       refine⟨q',is,c1,c2,keep4 _ _ c2 (fun z=>by rw[z,T3.tab]at c3;cases c3) c3,c4,fun m i' t' h1 h2=>?_⟩
       obtain⟨d1,d2⟩:=c5 m i' t' h1 h2
       exact⟨d1,by rw[bu (iJ d2)];exact d2⟩
      ·have hj2:j=R1.length:=by have:=iJ ht;simp at this;omega
       subst hj2
       rw[cq (az _)]at ht
       rw[cq (by omega)]at hd
       simp at ht
       simp [r2]at hd
       subst ht hd
       refine⟨q,(subs s).map fun t=>R1.idxOf t,rfl,qlr,?_,by simp,fun m i' t' h1 h2=>?_⟩
       ·rw[bD qlr,q4,j1];rfl
       ·rw[bb,h2]at h1
        simp at h1
        subst h1
        have ht':=bf h2
        have:=hidx t' ht'
        exact⟨iJ this,by rw[bu (iJ this)];exact this⟩
     ·rw[bD lrld.symm];exact tab4
     ·rw[rh]
      exact⟨T3.nd,by simp,fun a ha b hb=>by simp only[ay]at hb;subst hb;exact fun z=>hs1 (z▸ha)⟩
     ·intro t ht
      rcases List.mem_append.mp ht with ht|ht
      ·exact T3.gd t ht
      ·simp only[ay]at ht;subst ht;exact g
    refine RY (k:=k+n+1) hpo ins4 (by rw[<-hst4,bD lpld];exact T3.pc) T3.pd g ?_
    rw[aH lr4]
    refine⟨by omega,?_⟩
    simp only[aE]
    refine hQ _ (R1++[s]) (fun a o na e=>?_) T4 (fun x hx=>by simp [a1 x hx]) (by simp) (fun x hx=>?_) (by simp;omega)
    ·simp only[fz,ee,or_false,not_or]at na
     rw[bD na.1,<-hst4,bD na.2]
     exact kk3 a o (by simp [na]) e
    ·rcases List.mem_append.mp hx with hx|hx
     ·rcases a3 x hx with hx|hx
      ·exact .inl hx
      ·exact .inr (by omega)
     ·simp only[ay]at hx;subst hx;exact .inr (az _)
end
end L3
end
section
namespace L3
open PySem
noncomputable def lU (iz ie irr:Nat):Fn:=⟨3,4,[.asg (.fl (W "Table") (W "names") (.v 0)) (.v 1),.asg (.fl (W "Table") (W "pieces") (.v 0)) (.call iz [(.v 2)]),.asg (.fl (W "Table") (W "rows") (.v 0)) (.lst []),.asg (.fl (W "Table") (W "row_of") (.v 0)) .dnew,.hJ (.nm 3) none [(.v 2)] [.ex (.mcl (W "Table") (W "enter") ie (.v 0) [(.v 3)])],.asg (.fl (W "Table") (W "first_memory") (.v 0)) (.bi .tuple [(.comp 1 [] [0] true none [(.fld (W "Table") (W "pieces") (.v 0))] [] (.cmp .eq (.ix (.v 0) (.c (.int 0))) (.c (.str (W "sofar")))))]),.asg (.fl (W "Table") (W "remembered_rows") (.v 0)) (.comp 1 [0] [0] true none [(.fld (W "Table") (W "pieces") (.v 0))] [] (.mcl (W "Table") (W "remembered_row") irr (.v 1) [(.v 0)]))]⟩
theorem IE {f:List Sy}{s x:Sy}(h:x∈f):x∈eZ f s:=by
 unfold eZ;split
 ·exact oq _ h
 ·exact h
theorem G3 {f:List Sy}{s:Sy}(h:cB s=true):s∈eZ f s:=by
 unfold eZ
 rw[h]
 cases hc:f.contains s with
 |true=>simpa using hc
 |false=>simp
theorem mH:∀(s:Sy){f:List Sy}{x:Sy},x∈f->x∈bA s f
 |.yes,_,_,h=>h
 |.no,_,_,h=>h
 |.cO _,_,_,h=>h
 |.one w s,_,_,h=>mH s (IE h)
 |.two w s t,_,_,h=>mH t (mH s (IE h))
theorem qU {f g:List Sy}(h:∀ x∈f,x∈g):∀ s:Sy,EU f s->EU g s
 |.yes,_=>trivial
 |.no,_=>trivial
 |.cO _,_=>trivial
 |.one w s,⟨a,b⟩=>⟨fun q=>h _ (a q),qU h s b⟩
 |.two w s t,⟨a,b,c⟩=>⟨fun q=>h _ (a q),qU h s b,qU h t c⟩
theorem BP:∀(s:Sy)(f:List Sy),EU (bA s f) s
 |.yes,_=>trivial
 |.no,_=>trivial
 |.cO _,_=>trivial
 |.one w s,f=>⟨fun q=>mH s (G3 q),BP s _⟩
 |.two w s t,f=>⟨fun q=>mH t (mH s (G3 q)),qU (fun x hx=>mH t hx) s (BP s _),BP t _⟩
theorem HY:∀(l:List Sy){f:List Sy}{x:Sy},x∈f->x∈cL l f
 |[],_,_,h=>h
 |s::l,_,_,h=>HY l (mH s h)
theorem LZ:∀(l:List Sy)(f:List Sy)(s:Sy),s∈l->EU (cL l f) s
 |[],_,_,h=>by cases h
 |a::l,f,s,h=>by
  rcases List.mem_cons.mp h with rfl|h
  ·exact qU (fun x hx=>HY l hx) s (BP s f)
  ·exact LZ l _ s h
theorem P9 {R f:List Sy}{s:Sy}(hf:∀ x∈f,x∈R)(hs:s∈R):∀ x∈eZ f s,x∈R:=by
 unfold eZ;split
 ·intro x hx
  rcases List.mem_append.mp hx with hx|hx
  ·exact hf x hx
  ·simp only[ay]at hx;subst hx;exact hs
 ·exact hf
theorem GS {R:List Sy}(cl:∀ s∈R,∀ t∈subs s,t∈R):∀(s:Sy){f:List Sy},s∈R->(∀ x∈f,x∈R)->∀ x∈bA s f,x∈R
 |.yes,_,hs,hf=>hf
 |.no,_,hs,hf=>hf
 |.cO _,_,hs,hf=>hf
 |.one w s,f,hs,hf=>GS cl s (cl _ hs s (by simp [subs])) (P9 hf hs)
 |.two w s t,f,hs,hf=>GS cl t (cl _ hs t (by simp [subs])) (GS cl s (cl _ hs s (by simp [subs])) (P9 hf hs))
theorem QV {R:List Sy}(cl:∀ s∈R,∀ t∈subs s,t∈R):∀(l f:List Sy),(∀ s∈l,s∈R)->(∀ x∈f,x∈R)->∀ x∈cL l f,x∈R
 |[],_,_,hf=>hf
 |s::l,f,hl,hf=>QV cl l _ (fun t ht=>hl t (by simp [ht])) (GS cl s (hl s (by simp)) hf)
theorem GH {f:List Sy}{s:Sy}(hf:∀ x∈f,cB x=true):∀ x∈eZ f s,cB x=true:=by
 unfold eZ
 by_cases h:(cB s && !f.contains s)=true
 ·rw[if_pos h]
  simp only[aq]at h
  intro x hx
  rcases List.mem_append.mp hx with hx|hx
  ·exact hf x hx
  ·simp only[ay]at hx;subst hx;exact h.1
 ·rw[if_neg h];exact hf
theorem uW:∀(s:Sy){f:List Sy},(∀ x∈f,cB x=true)->∀ x∈bA s f,cB x=true
 |.yes,_,hf=>hf
 |.no,_,hf=>hf
 |.cO _,_,hf=>hf
 |.one w s,f,hf=>uW s (GH hf)
 |.two w s t,f,hf=>uW t (uW s (GH hf))
theorem E6:∀(l f:List Sy),(∀ x∈f,cB x=true)->∀ x∈cL l f,cB x=true
 |[],_,hf=>hf
 |s::l,f,hf=>E6 l _ (uW s hf)
theorem vF:∀(l:List Sy){f:List Sy}{n:Nat},(∀ x∈f,aN x<=n)->(∀ x∈l,aN x<=n)->∀ x∈cL l f,aN x<=n
 |[],_,_,hf,_=>hf
 |s::l,f,n,hf,hl=>vF l (yT s hf (hl s (by simp))) fun x hx=>hl x (by simp [hx])
theorem SY (s:Sy):(wd s==W "sofar")=gQ s:=by
 cases s with
 |one w s=>cases w<;>(simp only[wd,gQ,c1];decide +kernel)
 |two w s t=>cases w<;>(simp only[wd,gQ,c2];decide +kernel)
 |_=>(simp only[wd,gQ];decide +kernel)
theorem iQ {f:List Nat}{d:D}:∀{fs:List (List Nat×D)},cA fs f=none->qP f d fs=fs++[(f,d)]
 |[],_=>rfl
 |(g,x)::r,h=>by
  simp only[cA]at h
  by_cases q:g=f
  ·rw[if_pos q]at h;cases h
  ·rw[if_neg q]at h
   simp only[qP,if_neg q,iQ h,cw]
theorem iI.closed {st:aB}{p lp lr ld:Nat}{names:List (List Nat)}{bA R:List Sy}{xs:List (List Nat×D)}(T:iI st p lp lr ld names bA R xs):∀ s∈R,∀ t∈subs s,t∈R:=by
 intro s hs t ht
 obtain⟨rows,_,r2,r3⟩:=T.rows
 obtain⟨j,hj⟩:=List.mem_iff_getElem?.mp hs
 have hjr:j<rows.length:=by have:=iJ hj;omega
 obtain⟨q,is,_,_,_,c4,c5⟩:=r3 j s _ hj (aj hjr)
 obtain⟨m,hm⟩:=List.mem_iff_getElem?.mp ht
 have hmi:m<is.length:=by have:=iJ hm;omega
 exact bf (c5 m _ t (aj hmi) hm).2
noncomputable def P4 (bA:List Sy)(lm:Nat):List (List Nat×D):=[(W "first_memory", .tup (bA.map fun s=>.bl (gQ s))),(W "remembered_rows", .ref lm)]
section
variable {G:Prog}{k i ie iw ipo iz irr iti:Nat}{st:aB}{Q:VK}{E:XK}{p l:Nat}{names:List (List Nat)}{ss:List Sy}
structure Table (st:aB)(p:Nat)(names:List (List Nat))(bA R:List Sy):Prop where
 h:∃(lp lr ld lm:Nat)(js:List Nat),iI st p lp lr ld names bA R (P4 bA lm)/\st lm=some (.lst (js.map fun(j:Nat)=>.int (j:Nat)))/\js.length=bA.length/\(∀(m j:Nat)(s:Sy),js[m]? = some j->bA[m]? = some s->R[j]? = some (qD s))/\(∀ s∈bA,cB s=true)
theorem K3 (h:G.fns iti=some (lU iz ie irr))(hz:G.fns iz=some (iL iw))(he:G.fns ie=some (oS ie iw ipo))(hw:G.fns iw=some gC)(hpo:G.fns ipo=some mO)(hrr:G.fns irr=some yI)(hp:st p=some (.ins (W "Table") []))(hl:st l=some (.lst (ss.map toD)))
  (ho:∀ s∈ss,over names s/\aN s<=8)(hs:fI ss<=5000)(rT:(cL ss []).length<=5000)(hQ:∀ aA R,bR [p] st aA->Table aA p names (cL ss []) R->(∀ s∈ss,s∈R)->Q .non aA):aM G (k+12) iti [.ref p,.tup (names.map .str),.ref l] st Q E:=by
 have hL:bK=16777216:=rfl
 rw[aY h]
 simp only[lU,start]
 refine⟨rfl,?_⟩
 have pl:p≠l:=fun z=>by rw[z,hl]at hp;cases hp
 walk_at"st"
 rw[oO hp (by simp)]
 have e1:qP (W "names") (.tup (names.map .str)) []=[(W "names", .tup (names.map .str))]:=rfl
 rw[e1]
 generalize hst1:put st p (.ins (W "Table") [(W "names", .tup (names.map .str))])=aC
 have p1:aC p=some (.ins (W "Table") [(W "names", .tup (names.map .str))]):=by rw[<-hst1,aW]
 have k1:bR [p] st aC:=by rw[<-hst1];exact bR.put (by simp)
 have l1:aC l=some (.lst (ss.map toD)):=k1 _ _ (by simpa using pl.symm) hl
 walk_at"st"
 refine xJ (k:=k+9) hz hw l1 (fun x hx=>by have:=(ho x hx).2;omega) (by omega) fun lp aF x2 lp2=>?_
 walk_at"ex"
 rw[oO (x2 _ _ p1) (by simp),iQ (by simp only[cA];rw[if_neg (by decide +kernel)])]
 generalize hst3:put aF p _=aU
 have p3:aU p=some (.ins (W "Table") ([(W "names", .tup (names.map .str))]++[(W "pieces", .ref lp)])):=by rw[<-hst3,aW]
 have k3:bR [p] st aU:=k1.trans (x2.keep.trans (by rw[<-hst3];exact bR.put (by simp)))
 have plp:p≠lp:=fun z=>by rw[<-z,x2 _ _ p1]at lp2;cases lp2
 have lp3:aU lp=some (.lst ((cL ss []).map toD)):=by rw[<-hst3,bD plp.symm];exact lp2
 walk_at"st"
 refine bV (by decide) fun lr cN x4 hlr lr4=>?_
 walk_at"ex"
 rw[oO (x4 _ _ p3) (by simp),iQ (by simp only[cw,av,cA];rw[if_neg (by decide +kernel),if_neg (by decide +kernel)])]
 generalize hst5:put cN p _=eJ
 have plr:p≠lr:=fun z=>by rw[<-z,p3]at hlr;cases hlr
 have lplr:lp≠lr:=fun z=>by rw[<-z,lp3]at hlr;cases hlr
 have llr:l≠lr:=fun z=>by rw[<-z,k3 _ _ (by simpa using pl.symm) hl]at hlr;cases hlr
 have p5:eJ p=some (.ins (W "Table") ([(W "names", .tup (names.map .str))]++[(W "pieces", .ref lp)]++[(W "rows", .ref lr)])):=by rw[<-hst5,aW]
 have k5:bR [p] st eJ:=k3.trans (x4.keep.trans (by rw[<-hst5];exact bR.put (by simp)))
 have lp5:eJ lp=some (.lst ((cL ss []).map toD)):=by rw[<-hst5,bD plp.symm];exact x4 _ _ lp3
 have lr5:eJ lr=some (.lst []):=by rw[<-hst5,bD plr.symm];exact lr4
 walk_at"st"
 intro ld hld
 generalize hst6:put eJ ld (.tab [] [])=gJ
 have x6:Ext eJ gJ:=by rw[<-hst6];exact Ext.new hld
 have ld6:gJ ld=some (.tab [] []):=by rw[<-hst6,aW]
 rw[oO (x6 _ _ p5) (by simp),iQ (by simp only[cw,av,cA];rw[if_neg (by decide +kernel),if_neg (by decide +kernel),if_neg (by decide +kernel)])]
 generalize hst7:put gJ p _=lD
 have pld:p≠ld:=fun z=>by rw[<-z,p5]at hld;cases hld
 have lld:l≠ld:=fun z=>by rw[<-z,k5 _ _ (by simpa using pl.symm) hl]at hld;cases hld
 have p7:lD p=some (.ins (W "Table") (qA names lp lr ld++[])):=by rw[<-hst7,aW];rfl
 have k7:bR [p] st lD:=k5.trans (x6.keep.trans (by rw[<-hst7];exact bR.put (by simp)))
 have o7:∀ a o,a≠p->eJ a=some o->lD a=some o:=fun a o na e=>by rw[<-hst7,bD na];exact x6 _ _ e
 have pd:∀ s∈cL ss [],aN s<=60:=fun s hU=>vF ss (n:=60) (by simp) (fun x hx=>by have:=(ho x hx).2;omega) s hU
 have T7:iI lD p lp lr ld names (cL ss []) [] []:=⟨p7,o7 _ _ plp.symm lp5,⟨[],o7 _ _ plr.symm lr5,rfl,fun j s d e=>by simp at e⟩,by rw[<-hst7,bD pld.symm];exact ld6,lplr,Py,fun s hU=>(by cases hU),by simp,pd⟩
 have l7:lD l=some (.lst (ss.map toD)):=k7 _ _ (by simpa using pl.symm) hl
 have hszL:∀(l:List Sy)(t:Sy),t∈l->sz t<=fI l:=fun l=>by
  induction l with
  |nil=>intro t ht;cases ht
  |cons a l ihl =>
   intro t ht
   rw[jH]
   rcases List.mem_cons.mp ht with rfl|ht
   ·omega
   ·have:=ihl t ht;omega
 walk_at"st"
 rw[aH l7]
 refine mZ toD (I:=fun r σ aA=>∃ R1 o3 dn,ss=dn++r/\σ=[some (.ref p),some (.tup (names.map .str)),some (.ref l),o3]/\bR [lr,ld] lD aA/\iI aA p lp lr ld names (cL ss []) R1 []/\(∀ t∈dn,t∈R1)/\R1.length<=fI dn) (fun r σ aA ⟨R1,o3,dn,e1,e2,k1,T1,a2,a4⟩=>?_) (fun x r σ aA M ⟨R1,o3,dn,e1,e2,k1,T1,a2,a4⟩ hM=>?_) (fun σ aA ⟨R1,o3,dn,e1,e2,k1,T1,a2,a4⟩=>?_) _ _ _ ⟨[],none,[],rfl,rfl,.refl,T7,fun t ht=>(by cases ht),by simp [fI]⟩
 ·intro a ha
  simp only[ay]at ha
  subst ha
  rw[l7,k1 _ _ (by simp [llr,lld]) l7]
 ·-- a saying
  subst e2
  have hx:x∈ss:=by rw[e1];simp
  have hdn:fI dn+sz x<=fI ss:=by rw[e1,kY,jH];omega
  walk_at"st"
  rw[nA T1.ins (by rw[kC (by decide +kernel) (by decide +kernel) (by decide +kernel) (by decide +kernel)];rfl)]
  refine⟨True.intro,?_⟩
  refine UW (k:=k+1) he hw hpo rfl rfl 8 (ho x hx).2 T1 ⟨(ho x hx).1,(ho x hx).2,LZ ss [] x hx⟩ (by omega) fun aF R2 b1 b2 b3 b4 b5 b6=>?_
  rw[aE]
  refine hM _ aF ⟨R2,_,dn++[x],by simp [e1],rfl,k1.trans b1,b2,fun t ht=>?_,?_⟩
  ·rcases List.mem_append.mp ht with ht|ht
   ·exact b3 t (a2 t ht)
   ·simp only[ay]at ht;subst ht;exact b4
  ·rw[kY];simp only[jH];simp only[fI,gz,Qy]at *;omega
 ·-- behind them
  subst e2
  rw[el]at e1
  have pZ:∀ s∈ss,s∈R1:=fun s hU=>a2 s (by rw[<-e1];exact hU)
  have kk:bR [p,lr,ld] st aA:=(k7.mono (by simp)).trans (k1.mono (by simp))
  walk_at"st"
  rw[eS T1.ins xH,lZ,aH T1.pc]
  refine dO toD (fun s=>.bl (gQ s)) (cL ss []) [] aA (fun aS y a ha=>?_) (fun t ht aS K y1 hK=>?_) (by simp only[bc];omega) fun aF y2=>?_
  ·simp only[ay]at ha
   subst ha
   rw[T1.pc,y _ _ T1.pc]
  ·obtain⟨r,er⟩:=oW t
   rw[er]
   walk_at"ex"
   rw[SY]
   exact hK aS .refl
  rw[av]
  refine bV (by simp only[ab];omega) fun pp aU y3 hpp lI=>?_
  walk_at"ex"
  rw[aH lI]
  refine⟨by simp only[ab];omega,?_⟩
  have T3:=T1.keep (y2.trans y3)
  rw[oO T3.ins (by simp [qA]),iQ (by rw[kC (by decide +kernel) (by decide +kernel) (by decide +kernel) (by decide +kernel)];rfl)]
  generalize hst8:put aU p _=fZ
  have nep:∀ a o,a≠p->aU a=some o->fZ a=some o:=fun a o na e=>by rw[<-hst8,bD na];exact e
  have lpp:lp≠p:=plp.symm
  have T8:iI fZ p lp lr ld names (cL ss []) R1 [(W "first_memory", .tup ((cL ss []).map fun s=>.bl (gQ s)))]:=by
   obtain⟨rows,r1,r2,r3⟩:=T3.rows
   refine⟨by rw[<-hst8,aW,nq];rfl,nep _ _ lpp T3.pc,⟨rows,nep _ _ plr.symm r1,r2,fun j s d h1 h2=>?_⟩,nep _ _ pld.symm T3.tab,T3.ne,T3.nd,T3.gd,T3.len,T3.pd⟩
   obtain⟨q,is,c1,c2,c3,c4⟩:=r3 j s d h1 h2
   exact⟨q,is,c1,c2,nep _ _ (fun z=>by rw[z,T3.ins]at c3;cases c3) c3,c4⟩
  have cl:=T8.closed
  have hin:∀ s∈cL ss [],qD s∈R1:=fun s hU=>by
   have h1:=QV cl ss [] pZ (fun x hx=>by cases hx) s hU
   cases s with
   |one w a =>
    cases w with
    |before=>exact cl _ h1 a (by simp [subs])
    |_=>exact h1
   |_=>exact h1
  have hpast:=E6 ss [] (fun x hx=>by cases hx)
  walk_at"st"
  rw[eS T8.ins xH,lZ,aH T8.pc]
  refine dO toD (fun s=>.int (R1.idxOf (qD s):Nat)) (cL ss []) [] fZ (fun aS y a ha=>?_) (fun t ht aS K y1 hK=>?_) (by simp only[bc];omega) fun sT y9=>?_
  ·simp only[ay]at ha
   subst ha
   rw[T8.pc,y _ _ T8.pc]
  ·have T'':=T8.keep y1
   walk_at"ex"
   rw[nA T''.ins (by rw[kC (by decide +kernel) (by decide +kernel) (by decide +kernel) (by decide +kernel)];simp only[cA];rw[if_neg (by decide +kernel)])]
   refine⟨True.intro,?_⟩
   have cY:=List.idxOf_lt_length_iff.mpr (hin t ht)
   have hd8:aN t<=8:=vF ss (n:=8) (by simp) (fun x hx=>(ho x hx).2) t ht
   refine Ab (k:=k+10) hrr T'' (hpast t ht) hd8 (j:=R1.idxOf (qD t)) (by rw[aj cY];simp) ?_
   exact hK aS .refl
  rw[av]
  refine bV (by simp only[ab];omega) fun lm EG y10 hlm hlm10=>?_
  walk_at"ex"
  have T10:=T8.keep (y9.trans y10)
  rw[oO T10.ins (by simp [qA]),iQ (by rw[kC (by decide +kernel) (by decide +kernel) (by decide +kernel) (by decide +kernel)];simp only[cA];rw[if_neg (by decide +kernel)])]
  simp only[aE]
  generalize hst11:put EG p _=KS
  have nep2:∀ a o,a≠p->EG a=some o->KS a=some o:=fun a o na e=>by rw[<-hst11,bD na];exact e
  refine hQ KS R1 (fun a o na e=>?_) ⟨lp,lr,ld,lm,(cL ss []).map fun s=>R1.idxOf (qD s),?_,?_,by simp,fun m j s h1 h2=>?_,hpast⟩ pZ
  ·simp only[ay]at na
   have h7:=k7 a o (by simpa using na) e
   have alr:a≠lr:=fun z=>by rw[<-z,k3 a o (by simpa using na) e]at hlr;cases hlr
   have ald:a≠ld:=fun z=>by rw[<-z,k5 a o (by simpa using na) e]at hld;cases hld
   exact nep2 a o na ((y9.trans y10) _ _ (nep a o na ((y2.trans y3) _ _ (k1 a o (by simp [alr,ald]) h7))))
  ·obtain⟨rows,r1,r2,r3⟩:=T10.rows
   refine⟨by rw[<-hst11,aW,nq];rfl,nep2 _ _ lpp T10.pc,⟨rows,nep2 _ _ plr.symm r1,r2,fun j s d h1 h2=>?_⟩,nep2 _ _ pld.symm T10.tab,T10.ne,T10.nd,T10.gd,T10.len,T10.pd⟩
   obtain⟨q,is,c1,c2,c3,c4⟩:=r3 j s d h1 h2
   exact⟨q,is,c1,c2,nep2 _ _ (fun z=>by rw[z,T10.ins]at c3;cases c3) c3,c4⟩
  ·rw[nep2 _ _ (fun z=>by rw[z,(T8.keep y9).ins]at hlm;cases hlm) hlm10,j1];rfl
  ·rw[bb,h2]at h1
   simp at h1
   subst h1
   have cY:=List.idxOf_lt_length_iff.mpr (hin s (bf h2))
   rw[aj cY];simp
end
end L3
end
section
namespace L3
open PySem
noncomputable def tT (iti io:Nat):Fn:=⟨2,2,[.asg (.fl (W "Rules") (W "table") (.v 0)) (.mk (W "Table") iti [(.bin .add (.ix (.v 1) (.c (.int 0))) (.ix (.v 1) (.c (.int 1)))),(.call io [(.ix (.v 1) (.c (.int 2))),(.ix (.v 1) (.c (.int 3))),(.ix (.v 1) (.c (.int 4)))])]),.asg (.fl (W "Rules") (W "promise_rows") (.v 0)) (.comp 1 [0] [0] true none [(.ix (.v 1) (.c (.int 2)))] [] (.dix (.fld (W "Table") (W "row_of") (.fld (W "Rules") (W "table") (.v 1))) (.v 0))),.asg (.fl (W "Rules") (W "must_rows") (.v 0)) (.comp 1 [0] [0] true none [(.ix (.v 1) (.c (.int 3)))] [] (.dix (.fld (W "Table") (W "row_of") (.fld (W "Rules") (W "table") (.v 1))) (.v 0))),.asg (.fl (W "Rules") (W "priced_rows") (.v 0)) (.comp 1 [0] [0] true none [(.ix (.v 1) (.c (.int 4)))] [] (.tup [(.ix (.v 0) (.c (.int 0))),(.dix (.fld (W "Table") (W "row_of") (.fld (W "Rules") (W "table") (.v 1))) (.ix (.v 0) (.c (.int 1))))]))]⟩
noncomputable def mD:Fn:=⟨2,2,[.ret (.and_ (.isi (.v 0) [.tuple]) (.and_ (.cmp .eq (.bi .len [(.v 0)]) (.v 1)) (.bi .all [(.comp 1 [] [0] true none [(.v 0)] [] (.isi (.v 0) [.bool]))])))]⟩
noncomputable def qL (ist:Nat):Fn:=⟨2,3,[.asg (.nm 2) (.bin .add (.bi .len [(.ix (.v 0) (.c (.int 0)))]) (.bi .len [(.ix (.v 0) (.c (.int 1)))])),.iff (.or_ (.not_ (.isi (.v 1) [.list])) (.not_ (.bi .all [(.comp 1 [2] [0] true none [(.v 1)] [] (.call ist [(.v 0),(.v 1)]))]))) [.rais 3 [(.c (.str (W "no play for this book")))]] [],.ret (.v 1)]⟩
noncomputable def oH (ibk:Nat):Fn:=⟨1,1,[.iff (.not_ (.call ibk [(.v 0)])) [.rais 2 [(.c (.str (W "no book")))]] [],.ret (.v 0)]⟩
theorem Table.keep {st aA:aB}{p:Nat}{names:List (List Nat)}{bA R:List Sy}(T:Table st p names bA R)(h:Ext st aA):Table aA p names bA R:=by
 obtain⟨lp,lr,ld,lm,js,a,b,c⟩:=T.h
 exact⟨lp,lr,ld,lm,js,a.keep h,h _ _ b,c⟩
theorem Table.set {st:aB}{p r:Nat}{names:List (List Nat)}{bA R:List Sy}{fs:List (List Nat×D)}{o:MO}(T:Table st p names bA R)(hr:st r=some (.ins (W "Rules") fs)):Table (put st r o) p names bA R:=by
 obtain⟨lp,lr,ld,lm,js,a,b',c⟩:=T.h
 have nr:∀ a u,st a=some u->u≠.ins (W "Rules") fs->put st r o a=some u:=fun a u e n=>by rw[bD (fun z=>n (by rw[z,hr]at e;cases e;rfl))];exact e
 have hc:W "Table" ≠ W "Rules":=by decide +kernel
 obtain⟨rows,r1,r2',r3⟩:=a.rows
 refine⟨lp,lr,ld,lm,js,⟨nr _ _ a.ins (fun z=>by injection z with z1;exact hc z1),nr _ _ a.pc (fun z=>nomatch z),⟨rows,nr _ _ r1 (fun z=>nomatch z),r2',fun j s d h1 h2=>?_⟩,nr _ _ a.tab (fun z=>nomatch z),a.ne,a.nd,a.gd,a.len,a.pd⟩,nr _ _ b' (fun z=>nomatch z),c⟩
 obtain⟨q,is,c1,c2,c3,c4⟩:=r3 j s d h1 h2
 exact⟨q,is,c1,c2,nr _ _ c3 (fun z=>nomatch z),c4⟩
theorem Table.row {st:aB}{p:Nat}{names:List (List Nat)}{bA R:List Sy}(T:Table st p names bA R):∃ ld fs,st p=some (.ins (W "Table") fs)/\cA fs (W "row_of")=some (.ref ld)/\st ld=some (.tab (R.map toD) (yO R.length))/\∀ s∈R,aN s<=8/\lS (R.map toD) (yO R.length) (toD s)=some (.int (R.idxOf s:Nat)):=by
 obtain⟨lp,lr,ld,lm,js,a,b,c⟩:=T.h
 refine⟨ld,_,a.ins,oE,a.tab,fun s hs=>⟨(a.gd s hs).dp,?_⟩⟩
 have cY:=List.idxOf_lt_length_iff.mpr hs
 exact a.look (by rw[aj cY];simp)
noncomputable def rZ (p l1 l2 l3:Nat):List (List Nat×D):=[(W "table", .ref p),(W "promise_rows", .ref l1),(W "must_rows", .ref l2),(W "priced_rows", .ref l3)]
structure kZ (st:aB)(r p l1 l2 l3:Nat)(b:Bk)(R:List Sy):Prop where
 ins:st r=some (.ins (W "Rules") (rZ p l1 l2 l3))
 tab:Table st p b.names (cL b.says []) R
 pr:st l1=some (.lst (b.ps.map fun s=>.int (R.idxOf s:Nat)))
 mu:st l2=some (.lst (b.ms.map fun s=>.int (R.idxOf s:Nat)))
 wi:st l3=some (.lst (b.ws.map fun w=>.tup [.int w.1,.int (R.idxOf w.2:Nat)]))
 all:∀ s∈b.says,s∈R
theorem kZ.keep {st aA:aB}{r p l1 l2 l3:Nat}{b:Bk}{R:List Sy}(T:kZ st r p l1 l2 l3 b R)(h:Ext st aA):kZ aA r p l1 l2 l3 b R:=⟨h _ _ T.ins,T.tab.keep h,h _ _ T.pr,h _ _ T.mu,h _ _ T.wi,T.all⟩
section
variable {G:Prog}{k i ie iw ipo iz irr iti io r:Nat}{st:aB}{Q:VK}{E:XK}{b:Bk}
theorem DW (B:b.Ok):∀ s∈b.says,over b.names s/\aN s<=8:=by
 intro s hs
 simp only[Bk.says,pw,uk]at hs
 rcases hs with(hs|hs)|⟨w,hw,rfl⟩
 ·exact B.p2 s hs
 ·exact B.m2 s hs
 ·exact⟨(B.w3 w hw).2.2.1,(B.w3 w hw).2.2.2⟩
theorem UK (h:G.fns i=some (tT iti io))(ht:G.fns iti=some (lU iz ie irr))(hz:G.fns iz=some (iL iw))(he:G.fns ie=some (oS ie iw ipo))(hw:G.fns iw=some gC)(hpo:G.fns ipo=some mO)(hrr:G.fns irr=some yI)(hio:G.fns io=some pH)
  (B:b.Ok)(hs:fI b.says<=5000)(rT:(cL b.says []).length<=5000)(hr:st r=some (.ins (W "Rules") []))(hQ:∀ aA p l1 l2 l3 R,bR [r] st aA->kZ aA r p l1 l2 l3 b R->Q .non aA):aM G (k+13) i [.ref r,b.d] st Q E:=by
 have hL:bK=16777216:=rfl
 have f2:=B.f2
 have g2:=B.g2
 have p1:=B.p1
 have m1:=B.m1
 have w2:=B.w2
 have e2:cA (rZ 0 0 0 0) (W "table")=some (.ref 0):=by simp only[rZ,cA];rw[if_pos de]
 rw[aY h]
 simp only[tT,start]
 refine⟨rfl,?_⟩
 have hd:b.d=.tup [.tup (b.fs.map .str),.tup (b.gs.map .str),.tup (b.ps.map toD),.tup (b.ms.map toD),.tup (b.ws.map fun w=>.tup [.int w.1,toD w.2])]:=rfl
 rw[hd]
 walk_at"st"
 refine⟨by simp only[ab];omega,?_⟩
 refine FO (k:=k+11) hio (by omega) (by omega) (by omega) fun l aC x1 l1=>?_
 intro p hp
 have l1':aC l=some (.lst (b.says.map toD)):=by rw[l1];simp [Bk.says]
 have lp:l≠p:=fun z=>by rw[z,hp]at l1;cases l1
 have rp:r≠p:=fun z=>by rw[<-z,x1 _ _ hr]at hp;cases hp
 have en:(b.fs.map D.str++b.gs.map D.str)=b.names.map .str:=by simp [Bk.names]
 rw[en]
 refine K3 (k:=k) ht hz he hw hpo hrr aW (by rw[bD lp];exact l1') (DW B) hs rT fun aF R k2 T2 pZ=>⟨rfl,?_⟩
 have kk2:Ext aC aF:=fun a o e=>k2 a o (by intro z;simp only[ay]at z;rw[z,hp]at e;cases e) (yR hp e)
 have r2:aF r=some (.ins (W "Rules") []):=kk2 _ _ (x1 _ _ hr)
 walk_at"ex"
 rw[oO r2 (by simp),iQ rfl]
 generalize hst3:put aF r _=aU
 have T2':=T2
 have ne3:∀ a o,a≠r->aF a=some o->aU a=some o:=fun a o na e=>by rw[<-hst3,bD na];exact e
 have T3:Table aU p b.names (cL b.says []) R:=by rw[<-hst3];exact T2.set r2
 have r3:aU r=some (.ins (W "Rules") ([]++[(W "table", .ref p)])):=by rw[<-hst3,aW]
 have kk3:bR [r] st aU:=x1.keep.trans (kk2.keep.trans (by rw[<-hst3];exact bR.put (by simp)))
 have look:∀{cN:aB}{fs:List (List Nat×D)}{s:Sy}{Q':VK},Table cN p b.names (cL b.says []) R->cN r=some (.ins (W "Rules") fs)->cA fs (W "table")=some (.ref p)->s∈R->Q' (.int (R.idxOf s:Nat)) cN ->
   pW (W "Rules") (W "table") (.ref r) cN fun x aC=>pW (W "Table") (W "row_of") x aC fun y aF=>rP (toD s) y aF Q':=by
  intro cN fs s Q' T4 r4 hf hsR hq
  obtain⟨ld,fs',a1,a2,a3,a4⟩:=T4.row
  rw[eS r4 hf,eS a1 a2,BV a3 (pK (a4 s hsR).1) (a4 s hsR).2]
  exact hq
 walk_at"st"
 refine dO toD (fun s=>.int (R.idxOf s:Nat)) b.ps [] aU (fun aS y a ha=>by cases ha) (fun t ht aS K y1 hK=>?_) (by simp only[bc];omega) fun cN y4=>?_
 ·exact look (T3.keep y1) (y1 _ _ r3) (by simp only[av,cA];rw[if_pos de]) (pZ t (by simp [Bk.says,ht])) (hK aS .refl)
 rw[av]
 refine bV (by simp only[ab];omega) fun l1 eJ y5 hl1 l15=>?_
 walk_at"ex"
 have y35:=y4.trans y5
 rw[oO (y35 _ _ r3) (by simp),iQ (by simp only[av,cA];rw[if_neg (by decide +kernel)])]
 generalize hst6:put eJ r _=gJ
 have T6:Table gJ p b.names (cL b.says []) R:=by rw[<-hst6];exact(T3.keep y35).set (y35 _ _ r3)
 have r6:gJ r=some (.ins (W "Rules") ([]++[(W "table", .ref p)]++[(W "promise_rows", .ref l1)])):=by rw[<-hst6,aW]
 have n6:∀ a o,a≠r->eJ a=some o->gJ a=some o:=fun a o na e=>by rw[<-hst6,bD na];exact e
 have l1r:l1≠r:=fun z=>by rw[z,y4 _ _ r3]at hl1;cases hl1
 have l16:=n6 _ _ l1r l15
 have kk6:bR [r] st gJ:=kk3.trans (y35.keep.trans (by rw[<-hst6];exact bR.put (by simp)))
 walk_at"st"
 refine dO toD (fun s=>.int (R.idxOf s:Nat)) b.ms [] gJ (fun aS y a ha=>by cases ha) (fun t ht aS K y1 hK=>?_) (by simp only[bc];omega) fun lD y7=>?_
 ·exact look (T6.keep y1) (y1 _ _ r6) (by simp only[av,cw,cA];rw[if_pos de]) (pZ t (by simp [Bk.says,ht])) (hK aS .refl)
 rw[av]
 refine bV (by simp only[ab];omega) fun l2 fZ y8 hl2 l28=>?_
 walk_at"ex"
 have y68:=y7.trans y8
 rw[oO (y68 _ _ r6) (by simp),iQ (by simp only[av,cw,cA];rw[if_neg (by decide +kernel),if_neg (by decide +kernel)])]
 generalize hst9:put fZ r _=sT
 have T9:Table sT p b.names (cL b.says []) R:=by rw[<-hst9];exact(T6.keep y68).set (y68 _ _ r6)
 have r9:sT r=some (.ins (W "Rules") ([]++[(W "table", .ref p)]++[(W "promise_rows", .ref l1)]++[(W "must_rows", .ref l2)])):=by rw[<-hst9,aW]
 have n9:∀ a o,a≠r->fZ a=some o->sT a=some o:=fun a o na e=>by rw[<-hst9,bD na];exact e
 have l2r:l2≠r:=fun z=>by rw[z,y7 _ _ r6]at hl2;cases hl2
 have l29:=n9 _ _ l2r l28
 have l19:=n9 _ _ l1r (y68 _ _ l16)
 have kk9:bR [r] st sT:=kk6.trans (y68.keep.trans (by rw[<-hst9];exact bR.put (by simp)))
 walk_at"st"
 refine dO (fun w:Int×Sy=>D.tup [.int w.1,toD w.2]) (fun w=>.tup [.int w.1,.int (R.idxOf w.2:Nat)]) b.ws [] sT (fun aS y a ha=>by cases ha) (fun t ht aS K y1 hK=>?_) (by simp only[bc];omega) fun EG y10=>?_
 ·refine look (s:=t.2) (T9.keep y1) (y1 _ _ r9) (by simp only[av,cw,cA];rw[if_pos de]) (pZ t.2 (by simp only[Bk.says,pw,uk];exact .inr ⟨t,ht,rfl⟩)) ?_
  exact hK aS .refl
 rw[av]
 refine bV (by simp only[ab];omega) fun l3 KS y11 hl3 l311=>?_
 walk_at"ex"
 have y911:=y10.trans y11
 rw[oO (y911 _ _ r9) (by simp),iQ (by simp only[av,cw,cA];rw[if_neg (by decide +kernel),if_neg (by decide +kernel),if_neg (by decide +kernel)])]
 simp only[aE]
 generalize hst12:put KS r _=Fw
 have n12:∀ a o,a≠r->KS a=some o->Fw a=some o:=fun a o na e=>by rw[<-hst12,bD na];exact e
 have l3r:l3≠r:=fun z=>by rw[z,y10 _ _ r9]at hl3;cases hl3
 refine hQ Fw p l1 l2 l3 R (kk9.trans (y911.keep.trans (by rw[<-hst12];exact bR.put (by simp)))) ⟨by rw[<-hst12,aW];rfl,by rw[<-hst12];exact(T9.keep y911).set (y911 _ _ r9),n12 _ _ l1r (y911 _ _ l19),n12 _ _ l2r (y911 _ _ l29),n12 _ _ l3r l311,pZ⟩
end
end L3
end
section
namespace L3
open PySem
noncomputable def eY (bs:List Bool):D:=.tup (bs.map .bl)
noncomputable def BY (G:Prog)(ibk kb:Nat)(b:Bk):Prop:=∀(k:Nat)(st:aB)(Q:VK)(E:XK),(∀ aA,Ext st aA->Q (.bl true) aA)->aM G (k+kb) ibk [b.d] st Q E
section
variable {G:Prog}{k i ibk kb ich icp ist ie iw ipo iz irr iti io iri ima nU iph inh:Nat}{st:aB}{Q:VK}{E:XK}{b:Bk}
theorem OP (h:G.fns ist=some mD){bs:List Bool}{n:Nat}(hn:bs.length=n)(hl:n<=100)(hQ:∀ aA,Ext st aA->Q (.bl true) aA):aM G (k+1) ist [eY bs,.int n] st Q E:=by
 have hL:bK=16777216:=rfl
 rw[aY h]
 simp only[mD,start,eY]
 refine⟨rfl,?_⟩
 walk_at"st"
 have e1:(((bs.map D.bl).length:Int)==(n:Int))=true:=by rw[ab,hn];simp
 simp only[e1,if_true]
 walk_at"ex"
 refine dO D.bl (fun _=>.bl true) bs [] st (fun aS y a ha=>by cases ha) (fun t ht aS K y1 hK=>hK aS .refl) (by simp only[bc];omega) fun aF y2=>?_
 rw[av]
 refine bV (by simp only[ab];omega) fun pp aU y3 hpp lI=>?_
 walk_at"ex"
 rw[aH lI,jJ,aZ]
 have e2:(bs.map fun _=>true).all id=true:=by simp
 rw[e2]
 exact hQ aU (y2.trans y3)
theorem M7 (h:G.fns icp=some (qL ist))(hs:G.fns ist=some mD)(B:b.Ok){l:Nat}{aG:List (List Bool)}(hl:st l=some (.lst (aG.map eY)))(hp:∀ bs∈aG,bs.length=b.names.length)(cG:aG.length<=1000)
  (hQ:∀ aA,Ext st aA->Q (.ref l) aA):aM G (k+2) icp [b.d,.ref l] st Q E:=by
 have hL:bK=16777216:=rfl
 have f2:=B.f2
 have g2:=B.g2
 have kI:b.names.length=b.fs.length+b.gs.length:=by simp [Bk.names]
 rw[aY h]
 simp only[qL,start,Bk.d]
 refine⟨rfl,?_⟩
 walk_at"st"
 walk_at"st"
 rw[fX hl]
 (try simp only[fb,ak,if_false])
 walk_at"ex"
 rw[aH hl]
 have en:((b.fs.map D.str).length:Int)+((b.gs.map D.str).length:Int)=(b.names.length:Nat):=by rw[kI];simp
 refine dO eY (fun _=>.bl true) aG [] st (fun aS y a ha=>?_) (fun t ht aS K y1 hK=>?_) (by simp only[bc];omega) fun aF y2=>?_
 ·simp only[ay]at ha
  subst ha
  rw[hl,y _ _ hl]
 ·rw[en]
  exact OP hs (hp t ht) (by omega) fun aU y3=>hK aU y3
 rw[av]
 refine bV (by simp only[ab];omega) fun pp aU y3 hpp lI=>?_
 walk_at"ex"
 rw[aH lI,jJ,aZ]
 have e2:(aG.map fun _=>true).all id=true:=by simp
 rw[e2]
 simp only[fb,ak,if_false,aE]
 walk_at"st"
 exact hQ aU (y2.trans y3)
theorem OB (h:G.fns ich=some (oH ibk))(hb:BY G ibk kb b)(hQ:∀ aA,Ext st aA->Q b.d aA):aM G (k+kb+1) ich [b.d] st Q E:=by
 rw[aY h]
 simp only[oH,start]
 refine⟨rfl,?_⟩
 walk_at"st"
 refine hb k _ _ _ fun aC x1=>?_
 walk_at"ex"
 simp only[aE]
 walk_at"st"
 exact hQ aC x1
end
end L3
end
section
namespace L3
open PySem
local macro_rules|`(tactic| walk_at"wd")=>`(tactic| (first|rw[if_pos (by decide +kernel)]|rw[if_neg (by decide +kernel)]))
noncomputable def xG (ih:Nat):Fn:=⟨4,8,[.asg (.nm 4) (.ix (.v 1) (.c (.int 0))),.iff (.cmp .eq (.v 4) (.c (.str (W "lamp")))) [.ret (.ix (.ix (.v 2) (.v 3)) (.cD .index (.v 0) [(.ix (.v 1) (.c (.int 1)))]))] [],.iff (.or_ (.cmp .eq (.v 4) (.c (.str (W "yes")))) (.cmp .eq (.v 4) (.c (.str (W "no"))))) [.ret (.cmp .eq (.v 4) (.c (.str (W "yes"))))] [],.iff (.cmp .eq (.v 4) (.c (.str (W "before")))) [.ret (.and_ (.cmp .gt (.v 3) (.c (.int 0))) (.call ih [(.v 0),(.ix (.v 1) (.c (.int 1))),(.v 2),(.bin .sub (.v 3) (.c (.int 1)))]))] [],.iff (.cmp .eq (.v 4) (.c (.str (W "once")))) [.ret (.cmp .ne (.comp 1 [0,1,2] [0] true (some .range) [(.bin .add (.v 3) (.c (.int 1)))] [(.call ih [(.v 1),(.ix (.v 2) (.c (.int 1))),(.v 3),(.v 0)])] (.v 0)) (.lst []))] [],.iff (.cmp .eq (.v 4) (.c (.str (W "sofar")))) [.ret (.cmp .eq (.comp 1 [0,1,2] [0] true (some .range) [(.bin .add (.v 3) (.c (.int 1)))] [(.not_ (.call ih [(.v 1),(.ix (.v 2) (.c (.int 1))),(.v 3),(.v 0)]))] (.v 0)) (.lst []))] [],.iff (.cmp .eq (.v 4) (.c (.str (W "since")))) [.hJ (.nm 5) (some .range) [(.v 3),(.neg (.c (.int 1))),(.neg (.c (.int 1)))] [.iff (.call ih [(.v 0),(.ix (.v 1) (.c (.int 2))),(.v 2),(.v 5)]) [.ret (.c (.bl true))] [],.iff (.not_ (.call ih [(.v 0),(.ix (.v 1) (.c (.int 1))),(.v 2),(.v 5)])) [.ret (.c (.bl false))] []],.ret (.c (.bl false))] [],.asg (.nm 6) (.call ih [(.v 0),(.ix (.v 1) (.c (.int 1))),(.v 2),(.v 3)]),.iff (.cmp .eq (.v 4) (.c (.str (W "not")))) [.ret (.not_ (.v 6))] [],.asg (.nm 7) (.call ih [(.v 0),(.ix (.v 1) (.c (.int 2))),(.v 2),(.v 3)]),.iff (.cmp .eq (.v 4) (.c (.str (W "and")))) [.ret (.and_ (.v 6) (.v 7))] [],.iff (.cmp .eq (.v 4) (.c (.str (W "or")))) [.ret (.or_ (.v 6) (.v 7))] [],.iff (.cmp .eq (.v 4) (.c (.str (W "then")))) [.ret (.or_ (.v 7) (.not_ (.v 6)))] [],.ret (.cmp .eq (.v 6) (.v 7))]⟩
theorem kK {α:Type}{g:aB->Prop}{turn:D->aB->(Option D->aB->Prop)->Prop}{R:List D->aB->Prop}(t:α->D)(f:α->Option D):∀(xs:List α)(acc:List D)(st:aB),
  (∀ aA,Ext st aA->g aA)->(∀ x∈xs,∀ aA (K:Option D->aB->Prop),Ext st aA->(∀ aS,Ext aA aS->K (f x) aS)->turn (t x) aA K) ->
  acc.length+xs.length<=bK->(∀ aA,Ext st aA->R (acc++xs.filterMap f) aA)->jN g turn (xs.map t) acc st R
 |[],acc,st,hg,_,_,hR=>⟨hg st .refl,by simpa using hR st .refl⟩
 |x::xs,acc,st,hg,ht,hl,hR=>by
  simp only[bj]at hl
  refine⟨hg st .refl,by omega,ht x (by simp) st _ .refl fun aS h''=>?_⟩
  cases hf:f x with
  |none =>
   exact kK t f xs acc aS (fun aA h=>hg aA (h''.trans h)) (fun y hy aA K h=>ht y (by simp [hy]) aA K (h''.trans h)) (by omega) fun aA h=>by simpa [hf]using hR aA (h''.trans h)
  |some d =>
   exact kK t f xs (acc++[d]) aS (fun aA h=>hg aA (h''.trans h)) (fun y hy aA K h=>ht y (by simp [hy]) aA K (h''.trans h)) (by simp only[bq,bj,bc];omega) fun aA h=>by simpa [hf]using hR aA (h''.trans h)
theorem BQ:∀ is:List Int,bM (is.map .int)=true
 |[]=>rfl
 |i::is=>by simp only[aw,bM,bC,BQ is,dt]
theorem FU:∀ is:List Int,cK (is.map .int)=0
 |[]=>rfl
 |i::is=>by simp only[aw,cK,cJ,FU is];rfl
theorem nD {st:aB}{p:Nat}{is:List Int}(h:st p=some (.lst (is.map .int))):plainS st (.ref p):=by
 refine⟨?_,df _⟩
 simp only[fG,h,HZ,BQ,FU];rfl
theorem eq_nil {st:aB}{p q:Nat}{xs:List D}(h:st p=some (.lst xs))(h':st q=some (.lst [])):bO st (.ref p) (.ref q)=xs.isEmpty:=by
 simp only[bO,h,h',AQ]
 cases xs<;>rfl
theorem H0 (f:Nat->Bool)(n:Nat):((ai n).filterMap fun k=>if f k=true then some (D.int (k:Nat))else none)=(((ai n).filter f).map fun(k:Nat)=>(k:Int)).map .int:=by
 generalize ai n=l
 induction l with
 |nil=>rfl
 |cons a l ih =>
 by_cases h:f a=true
 ·simp only[fu,h,if_true,gb,aw,ih]
 ·simp only[fu,h,gb,ih];simp [h]
theorem FY (f:Nat->Bool)(l:List Nat):((((l.filter f).map fun(k:Nat)=>(k:Int)).map D.int).isEmpty) = !l.any f:=by
 induction l with
 |nil=>rfl
 |cons a l ih =>
 by_cases h:f a=true
 ·simp [h]
 ·simp only[gb,h,j3];simp [h]at ih ⊢;exact ih
theorem pF (n:Nat):dX 0 n=(ai n).map fun k=>D.int (k:Nat):=by
 unfold dX;congr 1;funext k;simp
section
variable {G:Prog}{ih l:Nat}{names:List (List Nat)}{aG:List (List Bool)}
theorem HW (h:G.fns ih=some (xG ih))(hp:∀ bs∈aG,bs.length=names.length)(cG:aG.length<=1000):∀(n:Nat){s:Sy}{k t:Nat}{st:aB}{Q:VK}{E:XK},aN s<=n->over names s->t<aG.length->st l=some (.lst (aG.map eY)) ->
  (∀ aA,Ext st aA->Q (.bl (hv names aG s t)) aA)->aM G (k+n) ih [.tup (names.map .str),toD s,.ref l,.int t] st Q E:=by
 have hL:bK=16777216:=rfl
 intro n
 induction n with
 |zero=>intro s k t st Q E hn;cases s<;>simp [aN]at hn
 |succ n ih' =>
  intro s k t st Q E hn ho ht hl hQ
  rw[show k+(n+1)=(k+n)+1 from rfl,aY h]
  simp only[xG,start]
  refine⟨rfl,?_⟩
  cases s with
  |yes =>
   simp only[toD]
   walk_at"st"
   walk_at"st"; walk_at"wd"; rw[aE]
   walk_at"st"; walk_at"wd"
   have e:(W "yes" == W "yes")=true:=by decide +kernel
   simp only[e,if_true]
   walk_at"st"
   rw[e]
   exact hQ st .refl
  |no =>
   simp only[toD]
   walk_at"st"
   walk_at"st"; walk_at"wd"; rw[aE]
   walk_at"st"; walk_at"wd"
   have e:(W "no" == W "no")=true:=by decide +kernel
   simp only[e,if_true]
   walk_at"st"
   have e:(W "no" == W "yes")=false:=by decide +kernel
   rw[e]
   exact hQ st .refl
  |cO m =>
   simp only[toD]
   walk_at"st"
   walk_at"st"; walk_at"wd"
   walk_at"st"
   have hx:=aj ht
   rw[eQ hl,dW (by simpa using ht),bb,hx,kn,aZ]
   walk_at"ex"
   rw[xS,tS,AY,tS]
   refine⟨True.intro,vM,kB st names,?_⟩
   rw[xP ho,aZ]
   have hlen:=hp _ (bf hx)
   have cY:names.idxOf m<(aG[t]).length:=by rw[hlen];exact List.idxOf_lt_length_iff.mpr ho
   simp only[eY]
   rw[kJ,dW (by simpa using cY),bb,aj cY,kn,aZ]
   have:=hQ st .refl
   simp only[hv,G1,hx,jj]at this
   rw[aj cY]at this
   exact this
  |one w a =>
   simp only[aN]at hn
   have ho':over names a:=ho
   cases w with
   |not =>
    simp only[toD,c1]
    walk_at"st"
    walk_at"st"; walk_at"wd"; rw[aE]
    walk_at"st"; walk_at"wd"; walk_at"wd"; rw[aE]
    iterate 4 (walk_at"st"; walk_at"wd"; rw[aE])
    walk_at"st"
    refine ih' (s:=a) (by omega) ho' ht hl fun aC x1=>?_
    walk_at"st"; walk_at"wd"
    walk_at"st"
    exact hQ aC x1
   |before =>
    simp only[toD,c1]
    walk_at"st"
    walk_at"st"; walk_at"wd"; rw[aE]
    walk_at"st"; walk_at"wd"; walk_at"wd"; rw[aE]
    walk_at"st"; walk_at"wd"
    walk_at"st"
    by_cases h0:t=0
    ·subst h0
     rw[if_neg (by simp)]
     exact hQ st .refl
    ·rw[if_pos (by simp;omega),show(t:Int)-1=((t-1:Nat):Int)by omega]
     refine ih' (s:=a) (by omega) ho' (by omega) hl fun aC x1=>?_
     have:=hQ aC x1
     simp only[hv]at this
     rw[decide_eq_true (by omega),fy]at this
     exact this
   |once =>
    simp only[toD,c1]
    walk_at"st"
    walk_at"st"; walk_at"wd"; rw[aE]
    walk_at"st"; walk_at"wd"; walk_at"wd"; rw[aE]
    walk_at"st"; walk_at"wd"; rw[aE]
    walk_at"st"; walk_at"wd"
    walk_at"st"
    refine⟨by unfold dC;omega,?_⟩
    rw[show((t:Int)+1).toNat=t+1 by omega,pF]
    refine kK (fun k:Nat=>D.int (k:Nat)) (fun k=>if hv names aG a k=true then some (D.int (k:Nat))else none) (ai (t+1)) [] st (fun aA y a ha=>by cases ha) (fun j hj aA K y1 hK=>?_) (by simp;omega) fun aC y1=>?_
    ·refine ih' (s:=a) (by omega) ho' (by have:=List.mem_range.mp hj;omega) (y1 _ _ hl) fun aF x2=>?_
     have:=hK aF x2
     walk_at"ex"
     cases hb:hv names aG a j with
     |true=>simpa [hb]using this
     |false=>simpa [hb]using this
    rw[av,H0]
    refine bV (by simp only[ab];have:=jr (hv names aG a) (ai (t+1));simp at this;omega) fun p aF x2 hp' kA=>?_
    walk_at"ex"
    refine bV (by simp) fun q aU x3 hq hq3=>?_
    walk_at"ex"
    refine⟨nD (x3 _ _ kA),nD (is:=[]) hq3,?_⟩
    rw[eq_nil (x3 _ _ kA) hq3,FY,Bool.not_not]
    exact hQ aU ((y1.trans x2).trans x3)
   |sofar =>
    simp only[toD,c1]
    walk_at"st"
    walk_at"st"; walk_at"wd"; rw[aE]
    walk_at"st"; walk_at"wd"; walk_at"wd"; rw[aE]
    iterate 2 (walk_at"st"; walk_at"wd"; rw[aE])
    walk_at"st"; walk_at"wd"
    walk_at"st"
    refine⟨by unfold dC;omega,?_⟩
    rw[show((t:Int)+1).toNat=t+1 by omega,pF]
    refine kK (fun k:Nat=>D.int (k:Nat)) (fun k=>if(!hv names aG a k)=true then some (D.int (k:Nat))else none) (ai (t+1)) [] st (fun aA y a ha=>by cases ha) (fun j hj aA K y1 hK=>?_) (by simp;omega) fun aC y1=>?_
    ·refine ih' (s:=a) (by omega) ho' (by have:=List.mem_range.mp hj;omega) (y1 _ _ hl) fun aF x2=>?_
     have:=hK aF x2
     walk_at"ex"
     cases hb:hv names aG a j with
     |true=>simpa [hb]using this
     |false=>simpa [hb]using this
    rw[av,H0 (fun k=>!hv names aG a k)]
    refine bV (by simp only[ab];have:=jr (fun k=>!hv names aG a k) (ai (t+1));simp at this ⊢;omega) fun p aF x2 hp' kA=>?_
    walk_at"ex"
    refine bV (by simp) fun q aU x3 hq hq3=>?_
    walk_at"ex"
    refine⟨nD (x3 _ _ kA),nD (is:=[]) hq3,?_⟩
    rw[eq_nil (x3 _ _ kA) hq3,FY]
    have:=hQ aU ((y1.trans x2).trans x3)
    simp only[hv]at this
    have e:(!(ai (t+1)).any fun k=>!hv names aG a k)=(ai (t+1)).all (hv names aG a):=by
     rw[List.not_any_eq_all_not];simp
    rw[e]
    exact this
  |two w a b =>
   simp only[aN]at hn
   have ho1:over names a:=ho.1
   have ho2:over names b:=ho.2
   cases w with
   |since =>
    simp only[toD,c2]
    walk_at"st"
    walk_at"st"; walk_at"wd"; rw[aE]
    walk_at"st"; walk_at"wd"; walk_at"wd"; rw[aE]
    iterate 3 (walk_at"st"; walk_at"wd"; rw[aE])
    walk_at"st"; walk_at"wd"
    walk_at"st"
    rw[CD]
    refine⟨rfl,by unfold dC;omega,by unfold dC;omega,?_⟩
    rw[show((t:Int) - -1).toNat=t+1 by omega]
    have er:oC (t:Int) (t+1)=(ai (t+1)).map fun k=>D.int ((t:Int)-(k:Nat)):=rfl
    rw[er]
    have hsf:∀ u,jV (hv names aG a) (hv names aG b) u=(hv names aG b u||(hv names aG a u&&(decide (0<u)&&jV (hv names aG a) (hv names aG b) (u-1)))):=fun u=>by
     cases u with
     |zero=>simp [jV]
     |succ u=>simp [jV]
    refine mZ (fun k:Nat=>D.int ((t:Int)-(k:Nat))) (I:=fun rest σ aA=>∃ m o5,m<=t+1/\rest=(ai (t+1)).drop m/\σ=[some (.tup (names.map .str)),some (.tup [.str (W "since"),toD a,toD b]),some (.ref l),some (.int (t:Nat)),some (.str (W "since")),o5,none,none]/\Ext st aA/\hv names aG (Sy.two .since a b) t=(decide (m<=t)&&jV (hv names aG a) (hv names aG b) (t-m))) (fun rest σ aA _ x hx=>?_) (fun x rest σ aA M hI hM=>?_) (fun σ aA hI=>?_) _ _ _ ⟨0,none,df _,rfl,rfl,.refl,by simp [hv]⟩
    ·cases hx
    ·obtain⟨m,o5,e0,e1,e2,x4,e5⟩:=hI
     subst e2
     have hm:m<(ai (t+1)).length:=by
      by_cases z:m<(ai (t+1)).length
      ·exact z
      ·rw[fj (by omega)]at e1;cases e1
     rw[bz hm]at e1
     injection e1 with e3 e4
     simp only[xt]at e3
     subst e3
     simp only[bw]at hm
     have eu:(t:Int)-(x:Nat)=((t-x:Nat):Int):=by omega
     rw[eu]
     rw[decide_eq_true (by omega),fy,hsf]at e5
     walk_at"st"
     refine ih' (s:=b) (by omega) ho2 (by omega) (x4 _ _ hl) fun aC x1=>?_
     walk_at"ex"
     cases hb:hv names aG b (t-x)with
     |true =>
      simp only[if_true]
      walk_at"st"
      rw[hb,Bool.true_or]at e5
      have:=hQ aC (x4.trans x1)
      rw[e5]at this
      exact this
     |false =>
      simp only[ak,if_false,aE]
      walk_at"st"
      refine ih' (s:=a) (by omega) ho1 (by omega) (x1 _ _ (x4 _ _ hl)) fun aF x2=>?_
      walk_at"ex"
      cases ha:hv names aG a (t-x)with
      |false =>
       simp only[j7,if_true]
       walk_at"st"
       rw[hb,ha]at e5
       have:=hQ aF ((x4.trans x1).trans x2)
       rw[e5]at this
       exact this
      |true =>
       simp only[fb,ak,if_false,aE]
       rw[hb,ha,Ql,fy]at e5
       refine hM _ aF ⟨x+1,_,by omega,e4,rfl,(x4.trans x1).trans x2,?_⟩
       rw[e5]
       have e7:t-x-1=t-(x+1):=by omega
       rw[e7]
       congr 1
       rw[decide_eq_decide]
       omega
    ·obtain⟨m,o5,e0,e1,e2,x4,e5⟩:=hI
     subst e2
     have hm:t+1<=m:=by
      by_cases z:m<(ai (t+1)).length
      ·rw[bz z]at e1;cases e1
      ·simpa using z
     rw[decide_eq_false (by omega),gg]at e5
     walk_at"st"
     have:=hQ aA x4
     rw[e5]at this
     exact this
   |and =>
    simp only[toD,c2]
    walk_at"st"
    walk_at"st"; walk_at"wd"; rw[aE]
    walk_at"st"; walk_at"wd"; walk_at"wd"; rw[aE]
    iterate 4 (walk_at"st"; walk_at"wd"; rw[aE])
    walk_at"st"
    refine ih' (s:=a) (by omega) ho1 ht hl fun aC x1=>?_
    walk_at"st"; walk_at"wd"; rw[aE]
    walk_at"st"
    refine ih' (s:=b) (by omega) ho2 ht (x1 _ _ hl) fun aF x2=>?_
    walk_at"st"; walk_at"wd"
    walk_at"st"
    have:=hQ aF (x1.trans x2)
    simp only[hv]at this
    cases ha:hv names aG a t with
    |false=>simpa [ha]using this
    |true=>simpa [ha]using this
   |or =>
    simp only[toD,c2]
    walk_at"st"
    walk_at"st"; walk_at"wd"; rw[aE]
    walk_at"st"; walk_at"wd"; walk_at"wd"; rw[aE]
    iterate 4 (walk_at"st"; walk_at"wd"; rw[aE])
    walk_at"st"
    refine ih' (s:=a) (by omega) ho1 ht hl fun aC x1=>?_
    walk_at"st"; walk_at"wd"; rw[aE]
    walk_at"st"
    refine ih' (s:=b) (by omega) ho2 ht (x1 _ _ hl) fun aF x2=>?_
    walk_at"st"; walk_at"wd"; rw[aE]
    walk_at"st"; walk_at"wd"
    walk_at"st"
    have:=hQ aF (x1.trans x2)
    simp only[hv]at this
    cases ha:hv names aG a t with
    |false=>simpa [ha]using this
    |true=>simpa [ha]using this
   |bB =>
    simp only[toD,c2]
    walk_at"st"
    walk_at"st"; walk_at"wd"; rw[aE]
    walk_at"st"; walk_at"wd"; walk_at"wd"; rw[aE]
    iterate 4 (walk_at"st"; walk_at"wd"; rw[aE])
    walk_at"st"
    refine ih' (s:=a) (by omega) ho1 ht hl fun aC x1=>?_
    walk_at"st"; walk_at"wd"; rw[aE]
    walk_at"st"
    refine ih' (s:=b) (by omega) ho2 ht (x1 _ _ hl) fun aF x2=>?_
    iterate 2 (walk_at"st"; walk_at"wd"; rw[aE])
    walk_at"st"; walk_at"wd"
    walk_at"st"
    have:=hQ aF (x1.trans x2)
    simp only[hv]at this
    cases hb:hv names aG b t with
    |false=>simpa [hb]using this
    |true=>simpa [hb]using this
   |same =>
    simp only[toD,c2]
    walk_at"st"
    walk_at"st"; walk_at"wd"; rw[aE]
    walk_at"st"; walk_at"wd"; walk_at"wd"; rw[aE]
    iterate 4 (walk_at"st"; walk_at"wd"; rw[aE])
    walk_at"st"
    refine ih' (s:=a) (by omega) ho1 ht hl fun aC x1=>?_
    walk_at"st"; walk_at"wd"; rw[aE]
    walk_at"st"
    refine ih' (s:=b) (by omega) ho2 ht (x1 _ _ hl) fun aF x2=>?_
    iterate 3 (walk_at"st"; walk_at"wd"; rw[aE])
    walk_at"st"
    exact hQ aF (x1.trans x2)
end
end L3
end
section
namespace L3
open PySem
theorem KC (bs:List Bool):bC (eY bs)=true:=by
 simp only[eY,bC]
 induction bs with
 |nil=>rfl
 |cons a l ih=>simp only[aw,bM,bC,ih,dt]
theorem MJ (bs:List Bool):cJ (eY bs)<=1:=by
 simp only[eY,cJ]
 have:cK (bs.map D.bl)=0:=by
  induction bs with
  |nil=>rfl
  |cons a l ih=>simp only[aw,cK,cJ,ih];rfl
 omega
theorem CO (aG:List (List Bool)):bM (aG.map eY)=true/\cK (aG.map eY)<=1:=by
 induction aG with
 |nil=>exact⟨rfl,by simp [cK]⟩
 |cons a l ih =>
 have:=MJ a
 simp only[aw,bM,KC,ih.1,dt,cK,true_and]
 omega
theorem BU {st:aB}{p:Nat}{aG:List (List Bool)}(h:st p=some (.lst (aG.map eY))):plainS st (.ref p):=by
 refine⟨?_,df _⟩
 have q:=CO aG
 simp only[fG,h,HZ,q.1,fy,decide_eq_true_eq]
 have:(1:Nat)<=kW:=by decide
 omega
end L3
end
section
namespace L3
open PySem
noncomputable def NG (im:Nat):Fn:=⟨4,8,[.asg (.nm 4) (.call im [(.v 0),(.v 1),(.bin .pow (.c (.int 10)) (.c (.int 9)))]),.asg (.nm 5) (.lst []),.hJ (.nm 6) (some .range) [(.call im [(.v 0),(.bin .add (.v 1) (.c (.int 1))),(.bin .add (.v 3) (.c (.int 1)))])] [.asg (.nm 7) (.bin .mod (.bin .mul (.bin .add (.bin .add (.v 4) (.bin .mul (.bin .mul (.c (.int 104729)) (.v 6)) (.v 6))) (.bin .mul (.c (.int 7919)) (.v 6))) (.c (.int 48271))) (.c (.int 2147483647))),.ex (.cD .append (.v 5) [(.bi .tuple [(.comp 1 [7] [0] true (some .range) [(.v 2)] [] (.cmp .eq (.bin .mod (.bin .fdiv (.v 1) (.ix (.lst [(.c (.int 13)),(.c (.int 26)),(.c (.int 52)),(.c (.int 104))]) (.v 0))) (.c (.int 2))) (.c (.int 1))))])])],.ret (.v 5)]⟩
noncomputable def CV (is dD:Nat):Fn:=⟨5,7,[.asg (.nm 5) (.call is [(.v 0),(.v 1),(.v 2),(.c (.int 1)),(.lst [(.c (.int 0))])]),.iff (.and_ (.cmp .gt (.ix (.v 4) (.c (.int 0))) (.c (.int 0))) (.cmp .eq (.call dD [(.v 0),(.v 1),(.c (.int 2))]) (.c (.int 1)))) [.asg (.ix (.v 4) (.c (.int 0))) (.bin .sub (.ix (.v 4) (.c (.int 0))) (.c (.int 1))),.asg (.nm 6) (.call is [(.v 0),(.v 1),(.v 3),(.c (.int 1)),(.lst [(.c (.int 0))])]),.ret (.tup [(.ix (.lst [(.c (.str (W "then"))),(.c (.str (W "or"))),(.c (.str (W "same")))]) (.call dD [(.v 0),(.v 1),(.c (.int 3))])),(.tup [(.c (.str (W "before"))),(.v 6)]),(.v 5)])] [],.ret (.v 5)]⟩
noncomputable def BM (inm dD is ipr:Nat):Fn:=⟨4,14,[.asg (.nm 4) (.lst [(.v 1)]),.asg (.tp [5,6]) (.call inm [(.v 0),(.v 4)]),.asg (.nm 7) (.bin .add (.v 5) (.v 6)),.asg (.nm 8) (.lst [(.call dD [(.v 0),(.v 4),(.bin .add (.v 2) (.c (.int 1)))])]),.asg (.nm 9) (.lst []),.hJ (.nm 10) (some .range) [(.bin .add (.c (.int 1)) (.call dD [(.v 0),(.v 4),(.c (.int 3))]))] [.asg (.nm 11) (.bin .add (.c (.int 1)) (.call dD [(.v 0),(.v 4),(.ix (.lst [(.c (.int 3)),(.c (.int 9)),(.c (.int 99))]) (.call dD [(.v 0),(.v 4),(.c (.int 3))]))])),.ex (.cD .append (.v 9) [(.tup [(.v 11),(.call is [(.v 0),(.v 4),(.v 7),(.c (.int 2)),(.v 8)])])])],.asg (.nm 12) (.comp 1 [0,4,7,8] [0] true (some .range) [(.call dD [(.v 0),(.v 4),(.bin .add (.v 3) (.c (.int 1)))])] [] (.call is [(.v 1),(.v 2),(.v 3),(.c (.int 2)),(.v 4)])),.asg (.nm 13) (.comp 1 [0,4,5,7,8] [0] true (some .range) [(.call dD [(.v 0),(.v 4),(.c (.int 2))])] [] (.call ipr [(.v 1),(.v 2),(.v 3),(.v 4),(.v 5)])),.ret (.tup [(.v 5),(.v 6),(.bi .tuple [(.v 13)]),(.bi .tuple [(.v 12)]),(.bi .tuple [(.v 9)])])]⟩
noncomputable def cst (j:Nat):Int:=([13,26,52,104]:List Int).getD j 1
theorem XR (j:Nat)(h:j<4):0<cst j/\cst j<1073741824:=by
 match j,h with
 |0,_=>decide
 |1,_=>decide
 |2,_=>decide
 |3,_=>decide
section
variable {G:Prog}{k i im ic:Nat}{st:aB}{Q:VK}{E:XK}{ns:List Int}
theorem WK (h:G.fns i=some (NG im))(hm:G.fns im=some (lK ic))(hc:G.fns ic=some mX){at_ most:Int}{n:Nat}(ha:0<=at_)(hn:n<=4)(hmo:0<=most)(hmo2:most<=100)
  (hQ:∀ p aA (aG:List (List Bool)),Ext st aA->aA p=some (.lst (aG.map eY))->(∀ bs∈aG,bs.length=n)->(aG.length:Int)<=most->Q (.ref p) aA):aM G (k+3) i [.bI (ns.map .int),.int at_,.int n,.int most] st Q E:=by
 have hL:bK=16777216:=rfl
 rw[aY h]
 simp only[NG,start]
 refine⟨rfl,?_⟩
 walk_at"st"
 refine⟨by decide,?_⟩
 refine A3 hm hc ha (by decide) fun aC x1=>?_
 walk_at"st"
 refine bV (by simp) fun q aF x2 hq hq2=>?_
 walk_at"st"
 refine A3 hm hc (by omega) (by omega) fun aU x3=>?_
 have v0:=gA (ns:=ns) (k:=at_+1) (many:=most+1) (by omega)
 have v1:=gD (ns:=ns) (k:=at_+1) (many:=most+1) (by omega)
 generalize jL ns (at_+1) (most+1)=v at v0 v1
 generalize jL ns at_ (10 ^ Int.toNat 9)=seed
 walk_at"ex"
 refine⟨by unfold dC;omega,?_⟩
 rw[pF]
 have hq1:aC q=none:=hq
 refine mZ (fun j:Nat=>D.int (j:Nat)) (I:=fun rest σ aA=>∃ m o6 o7 aG,m<=v.toNat/\rest=(ai v.toNat).drop m/\σ=[some (.bI (ns.map .int)),some (.int at_),some (.int n),some (.int most),some (.int seed),some (.ref q),o6,o7]/\bR [q] aU aA/\aA q=some (.lst (aG.map eY))/\(∀ bs∈aG,bs.length=n)/\aG.length=m) (fun rest σ aA _ a ha=>?_) (fun x rest σ aA M ⟨m,o6,o7,aG,e0,e1,e2,x4,e5,e6,e7⟩ hM=>?_) (fun σ aA ⟨m,o6,o7,aG,e0,e1,e2,x4,e5,e6,e7⟩=>?_) _ _ _ ⟨0,none,none,[],df _,rfl,rfl,.refl,x3 _ _ hq2,by simp,rfl⟩
 ·cases ha
 ·subst e2
  have hm':m<(ai v.toNat).length:=by
   by_cases z:m<(ai v.toNat).length
   ·exact z
   ·rw[fj (by omega)]at e1;cases e1
  rw[bz hm']at e1
  injection e1 with e3 e4
  simp only[xt]at e3
  subst e3
  simp only[bw]at hm'
  walk_at"st"
  refine⟨.inl (by unfold oR;omega),.inr (by unfold oR;omega),.inl (by unfold oR;omega),.inr (by unfold oR;omega),by decide,?_⟩
  generalize (seed+104729*(x:Int)*(x:Int)+7919*(x:Int))*48271 % 2147483647=dr
  walk_at"st"
  rw[aH e5]
  refine⟨True.intro,by unfold dC;omega,?_⟩
  rw[show((n:Int)).toNat=n by omega,pF]
  refine dO (fun j:Nat=>D.int (j:Nat)) (fun j=>.bl (dr / cst j % 2==1)) (ai n) [] aA (fun aS y a ha=>by cases ha) (fun j hj aS K y1 hK=>?_) (by simp;omega) fun eJ y5=>?_
  ·have hj':=List.mem_range.mp hj
   refine bV (by decide) fun u gJ x6 hu hu6=>?_
   have hat:fQ [D.int 13,D.int 26,D.int 52,D.int 104] ((j:Nat):Int)=some (.int (cst j)):=by
    rw[dW (by simp;omega)]
    match j,(by omega:j<4)with
    |0,_=>rfl
    |1,_=>rfl
    |2,_=>rfl
    |3,_=>rfl
   rw[eQ hu6,hat,aZ]
   walk_at"ex"
   refine⟨XR j (by omega),by decide,?_⟩
   exact hK gJ x6
  rw[av]
  refine bV (by simp;omega) fun u gJ x6 hu hu6=>?_
  walk_at"ex"
  rw[aH hu6]
  refine⟨by simp;omega,?_⟩
  have q6:=x6 _ _ (y5 _ _ e5)
  rw[aH q6]
  refine⟨by simp;omega,?_⟩
  simp only[aE]
  refine hM _ _ ⟨x+1,_,_,aG++[(ai n).map fun j=>dr / cst j % 2==1],by omega,e4,rfl,fun a o na e=>by rw[bD (by simpa using na)];exact x6 _ _ (y5 _ _ (x4 a o na e)),?_,fun bs hbs=>?_,by simp [e7]⟩
  ·rw[aW];simp [eY,j1,Qk]
  ·rcases List.mem_append.mp hbs with hbs|hbs
   ·exact e6 bs hbs
   ·simp only[ay]at hbs;subst hbs;simp
 ·subst e2
  have hm':v.toNat<=m:=by
   by_cases z:m<(ai v.toNat).length
   ·rw[bz z]at e1;cases e1
   ·simpa using z
  walk_at"st"
  refine hQ q aA aG (fun a o e=>x4 a o (fun z=>?_) (x3 _ _ (x2 _ _ (x1 _ _ e)))) e5 e6 (by omega)
  simp only[ay]at z
  rw[z]at e
  rw[x1 _ _ e]at hq;cases hq
end
end L3
end
section
namespace L3
open PySem
theorem pG {f g:List (List Nat)}(h:∀ n∈f,n∈g):∀ s:Sy,over f s->over g s
 |.yes,_=>trivial
 |.no,_=>trivial
 |.cO _,q=>h _ q
 |.one w s,q=>pG h s q
 |.two w s t,q=>⟨pG h s q.1,pG h t q.2⟩
theorem pB {fs gs:List (List Nat)}(h:∀ n∈fs,n∉gs):∀ s:Sy,over fs s->fT gs s=false
 |.yes,_=>rfl
 |.no,_=>rfl
 |.cO n,q=>by
  simp only[fT,qz]
  intro x hx e
  have:=h n q
  rw[<-eq_of_beq e]at this
  exact this hx
 |.one w s,q=>by cases w<;>first|rfl|exact pB h s q
 |.two w s t,q=>by simp only[fT,pB h s q.1,pB h t q.2,Qz]
section
variable {G:Prog}{k ic im dD is ipr:Nat}{st:aB}{Q:VK}{E:XK}{ns:List Int}
theorem WN (h:G.fns ipr=some (CV is dD))(hs:G.fns is=some (oA dD is))(hn:G.fns dD=some (sI im))(hm:G.fns im=some (lK ic))(hc:G.fns ic=some mX){fs gs:List (List Nat)}(hf:0<fs.length)(hdis:∀ n∈fs,n∉gs){a b:Nat}(dS:a≠b){i l:Int}
  (ha:st a=some (.lst [.int i]))(hb:st b=some (.lst [.int l]))(hi:0<=i)(hl:0<=l)
  (hQ:∀ s aA i',over (fs++gs) s->fT gs s=false->aN s<=4->(cnt s:Int)<=l->bR [a,b] st aA->0<=i'->aA a=some (.lst [.int i'])->aA b=some (.lst [.int (l-cnt s)])->Q (toD s) aA):
  aM G (k+6) ipr [.bI (ns.map .int),.ref a,.tup (fs.map .str),.tup ((fs++gs).map .str),.ref b] st Q E:=by
 rw[aY h]
 simp only[CV,start]
 refine⟨rfl,?_⟩
 have hfm:∀ n∈fs,n∈fs++gs:=fun n hn=>by simp [hn]
 walk_at"st"
 refine bV (by decide) fun z aC x1 hz hz1=>?_
 have za:a≠z:=fun e=>by rw[<-e,ha]at hz;cases hz
 have zb:b≠z:=fun e=>by rw[<-e,hb]at hz;cases hz
 have zz:∀ c o,st c=some o->c≠z:=fun c o e q=>by rw[q,hz]at e;cases e
 refine rX (k:=k) hs hn hm hc hf za 1 (x1 _ _ ha) hz1 hi (by omega) fun s aF i2 o1 d1 c1' k2 hi2 a2 z2=>?_
 have cs:cnt s=0:=by omega
 have b2:aF b=some (.lst [.int l]):=k2 b _ (by simp [dS.symm,zb]) (x1 _ _ hb)
 have kk2:bR [a,b] st aF:=fun c o nc e=>k2 c o (by simp only[fz,ee,or_false,not_or]at nc ⊢;exact⟨nc.1,zz c o e⟩) (x1 _ _ e)
 have base:∀ aU i3,bR [a,b] aF aU->0<=i3->aU a=some (.lst [.int i3])->aU b=some (.lst [.int l])->Q (toD s) aU:=fun aU i3 k3 h3 a3 b3 =>
  hQ s aU i3 (pG hfm s o1) (pB hdis s o1) (by omega) (by omega) (kk2.trans k3) h3 a3 (by rw[cs];simpa using b3)
 walk_at"st"
 rw[eQ b2,IJ,aZ]
 walk_at"ex"
 by_cases hl0:0<l
 ·rw[if_pos hl0]
  refine fL (k:=k+2) hn hm hc a2 hi2 (by omega) fun aU k3 a3=>?_
  have b3:aU b=some (.lst [.int l]):=k3 b _ (by simpa using dS.symm) b2
  walk_at"ex"
  generalize hv:jL ns (i2+1) 2=v
  cases hv1:(v==1)with
  |true =>
   simp only[if_true]
   walk_at"st"
   rw[eQ b3,IJ,aZ]
   walk_at"ex"
   rw[aH b3,VT,aZ]
   generalize hst4:put aU b _=cN
   have b4:cN b=some (.lst [.int (l-1)]):=by rw[<-hst4,aW];rfl
   have a4:cN a=some (.lst [.int (i2+1)]):=by rw[<-hst4,bD dS];exact a3
   have k4:bR [a,b] aU cN:=by rw[<-hst4];exact bR.put (by simp)
   walk_at"st"
   refine bV (by decide) fun y eJ x5 hy hy5=>?_
   have ya:a≠y:=fun e=>by rw[<-e,a4]at hy;cases hy
   have yb:b≠y:=fun e=>by rw[<-e,b4]at hy;cases hy
   have yy:∀ c o,cN c=some o->c≠y:=fun c o e q=>by rw[q,hy]at e;cases e
   refine rX (k:=k) hs hn hm hc (by simp;omega) ya 1 (x5 _ _ a4) hy5 (by omega) (by omega) fun s2 gJ i6 o6 d6 c6 k6 hi6 a6 y6=>?_
   have cs2:cnt s2=0:=by omega
   have b6:gJ b=some (.lst [.int (l-1)]):=k6 b _ (by simp [dS.symm,yb]) (x5 _ _ b4)
   have kk6:bR [a,b] cN gJ:=fun c o nc e=>k6 c o (by simp only[fz,ee,or_false,not_or]at nc ⊢;exact⟨nc.1,yy c o e⟩) (x5 _ _ e)
   walk_at"st"
   refine bV (by decide) fun u lD x7 hu hu7=>?_
   walk_at"ex"
   refine fL (k:=k+2) hn hm hc (x7 _ _ a6) hi6 (by omega) fun fZ k8 a8=>?_
   have u8:fZ u=some (.lst [.str (W "then"),.str (W "or"),.str (W "same")]):=k8 u _ (by
    intro z'
    simp only[ay]at z'
    rw[z',a6]at hu;cases hu) hu7
   have w0:=gA (ns:=ns) (k:=i6+1) (many:=3) (by omega)
   have w1:=gD (ns:=ns) (k:=i6+1) (many:=3) (by omega)
   generalize jL ns (i6+1) 3=w at w0 w1
   have b8:fZ b=some (.lst [.int (l-1)]):=k8 b _ (by simpa using dS.symm) (x7 _ _ b6)
   have kk8:bR [a,b] st fZ:=((((kk2.trans (k3.mono (by simp))).trans k4).trans kk6).trans x7.keep).trans (k8.mono (by simp))
   have fin:∀ W2',p2 W2'=false->aN (Sy.two W2' (.one .before s2) s)<=4->Q (toD (Sy.two W2' (.one .before s2) s)) fZ:=fun W2' kA hdp=>by
    have hcn:cnt (Sy.two W2' (.one .before s2) s)=1:=by simp [cnt,kA,p1,cs,cs2]
    refine hQ _ fZ (i6+1) ⟨o6,pG hfm s o1⟩ ?_ hdp (by rw[hcn];omega) kk8 (by omega) a8 (by rw[hcn];exact b8)
    simp only[fT,pB hdis s o1,Qz]
   walk_at"ex"
   have hdp:∀ W2',aN (Sy.two W2' (.one .before s2) s)<=4:=fun W2'=>by simp only[aN];omega
   have hw:w=0∨w=1∨w=2:=by omega
   rcases hw with rfl|rfl|rfl
   ·rw[eQ u8,IJ,aZ];exact fin .bB rfl (hdp _)
   ·rw[eQ u8,U3,aZ];exact fin .or rfl (hdp _)
   ·rw[eQ u8,TY,aZ];exact fin .same rfl (hdp _)
  |false =>
   simp only[ak,if_false,aE]
   walk_at"st"
   exact base aU (i2+1) (k3.mono (by simp)) (by omega) a3 b3
 ·rw[if_neg hl0]
  (try rw[if_neg hl0])
  (try simp only[decide_eq_false hl0,ak,if_false])
  rw[aE]
  walk_at"st"
  exact base aF i2 .refl hi2 a2 b2
end
end L3
end
section
namespace L3
open PySem
theorem UH {fs gs:List (List Nat)}(h:tJ fs gs=true):1<=fs.length/\fs.length<=2/\1<=gs.length/\gs.length<=2/\(fs++gs).Nodup/\∀ n∈fs++gs,n∈oN:=by
 simp only[tJ,aq,decide_eq_true_eq,oh]at h
 obtain⟨⟨⟨⟨⟨a,b⟩,c⟩,d⟩,e⟩,f⟩:=h
 exact⟨a,b,c,d,e,fun n hn=>by simpa using f n hn⟩
theorem OA:∀ n∈oN,fH n=true:=by decide +kernel
noncomputable def fD (l:List Sy):Nat:=(l.map cnt).sum
theorem tB (a b:List Sy):fD (a++b)=fD a+fD b:=by simp [fD]
theorem HE (f:List Sy)(s:Sy):(eZ f s).length<=f.length+(if cB s=true then 1 else 0):=by
 unfold eZ
 cases h:cB s with
 |true=>simp only[fy,if_true];split<;>simp
 |false=>simp
theorem yQ:∀(s:Sy)(f:List Sy),(bA s f).length<=f.length+cnt s
 |.yes,f=>by simp [bA]
 |.no,f=>by simp [bA]
 |.cO _,f=>by simp [bA]
 |.one w s,f=>by
  have h1:=yQ s (eZ f (.one w s))
  have h2:=HE f (.one w s)
  simp only[cB]at h2
  simp only[bA,cnt]
  cases h:p1 w<;>simp [h]at h2 ⊢<;>omega
 |.two w s t,f=>by
  have h1:=yQ s (eZ f (.two w s t))
  have h2:=HE f (.two w s t)
  have h3:=yQ t (bA s (eZ f (.two w s t)))
  simp only[cB]at h2
  simp only[bA,cnt]
  cases h:p2 w<;>simp [h]at h2 ⊢<;>omega
theorem G2:∀(l f:List Sy),(cL l f).length<=f.length+fD l
 |[],f=>by simp [cL,fD]
 |s::l,f=>by
  have h1:=G2 l (bA s f)
  have h2:=yQ s f
  have:fD (s::l)=cnt s+fD l:=by simp [fD]
  simp only[cL];omega
structure Lf (b:Bk)(pieces fV:Int):Prop where
 ok:b.Ok
 d4:∀ s∈b.says,aN s<=4
 ms:(b.ms.length:Int)<=fV
 cn:(fD b.says:Int)<=pieces
 n8:∀ n∈b.names,n∈oN
noncomputable abbrev bσ (at_ pieces fV:Int)(ns:List Int)(fs gs:List (List Nat))(m lf wl:Nat)(sU uN WE Pq:Option D):St:=[some (.bI (ns.map .int)),some (.int at_),some (.int pieces),some (.int fV),some (.ref m),some (.tup (fs.map .str)),some (.tup (gs.map .str)),some (.tup ((fs++gs).map .str)),some (.ref lf),some (.ref wl),sU,uN,WE,Pq]
inductive WI (σ0:Option D->Option D->St)(names:List (List Nat))(m lf wl:Nat)(gJ:aB)(lv v:Int)(rest:List Nat)(σ:St)(aA:aB):Prop
 |mk (j:Nat)(sU uN:Option D)(i':Int)(ws:List (Int×Sy))(e1:rest=(ai (1+v).toNat).drop j)(e2:σ=σ0 sU uN)(q1:bR [m,lf,wl] gJ aA)(q2:0<=i')(q3:aA m=some (.lst [.int i']))(q4:aA lf=some (.lst [.int (lv-fD (ws.map (·.2)))]))(q5:(fD (ws.map (·.2)):Int)<=lv)(q6:aA wl=some (.lst (ws.map fun w:Int×Sy=>.tup [.int w.1,toD w.2])))(q7:ws.length=j)(q7':j<=(1+v).toNat)(q8:∀ w∈ws,1<=w.1/\w.1<=99/\over names w.2/\aN w.2<=3)
theorem Ou {a b c:Nat}{x:Int}(h:(a:Int)<=x)(h':(b:Int)<=x-a):((a+b:Nat):Int)<=x:=by omega
theorem Oz {a b:Nat}{x:Int}:x-(a:Int)-(b:Int)=x-((a+b:Nat):Int):=by omega
theorem WB {b:Nat}{x:Int}(h:(b:Int)<=x):0<=x-(b:Int):=by omega
theorem draws {turn:D->aB->(Option D->aB->Prop)->Prop}{R:List D->aB->Prop}{m lf:Nat}{ok:Sy->Prop}{WG:aB}
 (ht:∀(x:D)(st:aB)(K:Option D->aB->Prop)(i c:Int),0<=i->0<=c->st m=some (.lst [.int i])->st lf=some (.lst [.int c])->(∀ s aA i',ok s->(cnt s:Int)<=c->bR [m,lf] st aA->0<=i'->aA m=some (.lst [.int i'])->aA lf=some (.lst [.int (c-cnt s)])->K (some (toD s)) aA)->turn x st K):
 ∀(xs:List D)(ss:List Sy){st:aB}{i c:Int},0<=i->0<=c->st m=some (.lst [.int i])->st lf=some (.lst [.int c])->ss.length+xs.length<bK ->
  (∀ ss' aA i',(∀ s∈ss',ok s)->ss'.length=xs.length->(fD ss':Int)<=c->bR [m,lf] st aA->0<=i'->aA m=some (.lst [.int i'])->aA lf=some (.lst [.int (c-fD ss')])->R ((ss++ss').map toD) aA) ->
  jN (same [] WG) turn xs (ss.map toD) st R
 |[],ss,st,i,c,hi,hc,hm,hl,hn,h=>⟨IC,by have q:=h [] st i (fun _ h=>nomatch h) rfl (by simpa [fD]using hc) .refl hi hm (by simpa [fD]using hl);rw[el]at q;exact q⟩
 |x::xs,ss,st,i,c,hi,hc,hm,hl,hn,h=>⟨IC,by rw[ab];simp only[bj]at hn;omega,ht x st _ i c hi hc hm hl fun s aA i' o1 o2 k1 hi' m1 l1=>by
 have q:=draws (WG:=WG) ht xs (ss++[s]) hi' (WB o2) m1 l1 (by simp only[bq,bj,bc]at hn ⊢;omega) (fun ss' aS i'' p1 p2 p3 p4 p5 p6 p7=>by
  have e:fD (s::ss')=cnt s+fD ss':=by simp [fD]
  have z:=h (s::ss') aS i'' (fun s' hU=>by
  rcases List.mem_cons.mp hU with rfl|hU
  ·exact o1
  ·exact p1 s' hU) (by simp [p2]) (by rw[e];exact Ou (c:=0) o2 p3) (k1.trans p4) p5 p6 (by rw[e,<-Oz];exact p7)
  rw[nq]
  exact z)
 rw[d5]at q
 exact q⟩
section
variable {G:Prog}{k i inm ic im dD is ipr:Nat}{st:aB}{Q:VK}{E:XK}{ns:List Int}
theorem ZQ {v:Int}{n:Int}(h0:0<=v)(h1:v<n)(hn:n<=4):dC v:=by unfold dC;omega
theorem VB {v:Int}{n:Int}{a:Nat}(e:a=v.toNat)(h1:v<n)(hn:n<=4):a<=3:=by omega
theorem Pd {v n:Int}{a:Nat}(e:a=v.toNat)(h0:0<=v)(h1:v<n+1):(a:Int)<=n:=by omega
theorem Ot {a b c:Nat}{x y:Int}(h:(a:Int)<=x-c-b)(h':x<y+1):((a+b+c:Nat):Int)<=y:=by omega
theorem RA {a:Nat}(h:a<=3):a<=bK:=c7 h (by decide)
theorem RB (hp:G.fns ipr=some (CV is dD))(hs:G.fns is=some (oA dD is))(hn:G.fns dD=some (sI im))(hm:G.fns im=some (lK ic))(hc:G.fns ic=some mX){fs gs:List (List Nat)}(f1:0<fs.length)(fpos:0<(fs++gs).length)(hdis:∀ n∈fs,n∉gs){m lf wl:Nat}(mlf:m≠lf)(mwl:m≠wl)(lfwl:lf≠wl){at_ pieces fV i' c:Int}(hmu:0<=fV)(hmu3:fV<=3){ws:List (Int×Sy)}{sU uN:Option D}(q2:0<=i')(q3:st m=some (.lst [.int i']))(q4:st lf=some (.lst [.int c]))(hc0:0<=c)(q6:st wl=some (.lst (ws.map fun w:Int×Sy=>.tup [.int w.1,toD w.2])))(hws:ws.length<=3)
 (hQ:∀ ps ms aA,(∀ s∈ms,over (fs++gs) s/\aN s<=3)->(ms.length:Int)<=fV->ms.length<=3->(∀ s∈ps,over (fs++gs) s/\aN s<=4/\fT gs s=false)->ps.length<=3->(fD ms:Int)<=c->(fD ps:Int)<=c-fD ms->bR [m,lf] st aA->Q (Bk.d ⟨fs,gs,ps,ms,ws⟩) aA):
 cR (aM G (k+6)) G.sub ((BM inm dD is ipr).body.drop 6) ⟨fun _ aA=>Q .non aA,Q,fun _ _=>False,fun _ _=>False,fun c _ aA=>E c aA⟩ (bσ at_ pieces fV ns fs gs m lf wl sU uN none none) st:=by
 simp only[BM,wk,qo,bσ]
 walk_at"st"
 refine fL (k:=k+3) hn hm hc q3 q2 (by omega) fun lD k7 m7=>?_
 have V2:=gA (ns:=ns) (k:=i'+1) (many:=fV+1) (by omega)
 have V3:=gD (ns:=ns) (k:=i'+1) (many:=fV+1) (by omega)
 generalize jL ns (i'+1) (fV+1)=v2 at V2 V3
 walk_at"ex"
 have h4:fV+1<=4:=by omega
 refine⟨ZQ V2 V3 h4,?_⟩
 have lf7:=k7 lf _ (by simpa using mlf.symm) q4
 have wl7:=k7 wl _ (by simpa using mwl.symm) q6
 refine draws (m:=m) (lf:=lf) (ok:=fun s=>over (fs++gs) s/\aN s<=3) (fun x aA K i c hi hc' h1 h2 hK=>?_) _ [] (by omega) hc0 m7 lf7 ?_ fun ms fZ i8 z8 z7 z6 z2 z3 z4 z5=>?_
 ·exact rX (k:=k) hs hn hm hc fpos mlf 2 h1 h2 hi hc' fun s fZ i8 o8 d8 c8 k8 hi8 m8 lf8=>hK s fZ i8 ⟨o8,d8⟩ c8 k8 hi8 m8 lf8
 ·simp only[bc,dX,ab,bw];exact ql (by rw[uj];exact VB rfl V3 h4) (by decide)
 simp only[dX,ab,bw]at z7
 have m3:=VB z7 V3 h4
 refine bV (by rw[av,ab];exact RA m3) fun ml sT x9 hml ml9=>?_
 walk_at"ex"
 have wl9:=x9 _ _ (z2 wl _ (by simp [mwl.symm,lfwl.symm]) wl7)
 walk_at"st"
 refine fL (k:=k+3) hn hm hc (x9 _ _ z4) z3 (by decide) fun sta ka ma=>?_
 have V4:=gA (ns:=ns) (k:=i8+1) (many:=2) (by decide)
 have V5:=gD (ns:=ns) (k:=i8+1) (many:=2) (by decide)
 generalize jL ns (i8+1) 2=v3 at V4 V5
 walk_at"ex"
 refine⟨ZQ V4 V5 (by decide),?_⟩
 have mml:m≠ml:=fun z=>by rw[<-z,z4]at hml;cases hml
 have lfml:lf≠ml:=fun z=>by rw[<-z,z5]at hml;cases hml
 have lfa:=ka lf _ (by simpa using mlf.symm) (x9 _ _ z5)
 have wla:=ka wl _ (by simpa using mwl.symm) wl9
 have mla:=ka ml _ (by simpa using mml.symm) ml9
 refine draws (m:=m) (lf:=lf) (ok:=fun s=>over (fs++gs) s/\aN s<=4/\fT gs s=false) (fun x aA K i c hi hc' h1 h2 hK=>?_) _ [] (by omega) (WB z6) ma lfa ?_ fun ps stb ib y8 y7 y6 y2 y3 y4 y5=>?_
 ·exact WN (k:=k) hp hs hn hm hc f1 hdis mlf h1 h2 hi hc' fun s fZ i8 o8 b8 d8 c8 k8 hi8 m8 lf8=>hK s fZ i8 ⟨o8,d8,b8⟩ c8 k8 hi8 m8 lf8
 ·simp only[bc,dX,ab,bw];exact ql (by rw[uj];exact VB rfl V5 (by decide)) (by decide)
 simp only[dX,ab,bw]at y7
 have p3:=VB y7 V5 (by decide)
 refine bV (by rw[av,ab];exact RA p3) fun pl stc xc cG plc=>?_
 walk_at"ex"
 have wlc:=xc _ _ (y2 wl _ (by simp [mwl.symm,lfwl.symm]) wla)
 have mlc:=xc _ _ (y2 ml _ (by simp [mml.symm,lfml.symm]) mla)
 simp only[av]at plc mlc
 walk_at"st"
 rw[aH plc]
 refine⟨by rw[ab];exact RA p3,?_⟩
 rw[aH mlc]
 refine⟨by rw[ab];exact RA m3,?_⟩
 rw[aH wlc]
 refine⟨by rw[ab];exact RA hws,?_⟩
 refine hQ ps ms stc z8 (Pd z7 V2 V3) m3 y8 p3 z6 y6 fun a o ha e=>?_
 have ha':=ha
 simp only[fz,ee,or_false,not_or]at ha'
 have t7:=k7 a o (by simpa using ha'.1) e
 have t9:=ka a o (by simpa using ha'.1) (x9 _ _ (z2 a o ha t7))
 exact xc _ _ (y2 a o ha t9)
theorem X8 (h:G.fns i=some (BM inm dD is ipr))(kI:G.fns inm=some (CW dD))(hp:G.fns ipr=some (CV is dD))(hs:G.fns is=some (oA dD is))(hn:G.fns dD=some (sI im))(hm:G.fns im=some (lK ic))(hc:G.fns ic=some mX){at_ pieces fV:Int}(ha:0<=at_)(hpi:0<=pieces)(hmu:0<=fV)(hmu3:fV<=3)
  (hQ:∀ b aA,Lf b pieces fV->Ext st aA->Q b.d aA):aM G (k+7) i [.bI (ns.map .int),.int at_,.int pieces,.int fV] st Q E:=by
 have hL:bK=16777216:=rfl
 rw[aY h]
 simp only[BM,start]
 refine⟨rfl,?_⟩
 walk_at"st"
 refine bV (by show 1<=bK;decide) fun m aC x1 hm0 m1=>?_
 walk_at"st"
 refine TU (k:=k+2) kI hn hm hc m1 ha fun fs gs aF i2 bS k2 hi2 m2=>?_
 obtain⟨f1,f2,g1,g2,nd,n8⟩:=UH bS
 walk_at"ex"
 walk_at"st"
 refine⟨by simp only[ab];omega,?_⟩
 have en:(fs.map D.str++gs.map D.str)=(fs++gs).map .str:=by simp
 rw[en]
 walk_at"st"
 refine fL (k:=k+3) hn hm hc m2 hi2 (by omega) fun aU k3 m3=>?_
 have L0:=gA (ns:=ns) (k:=i2+1) (many:=pieces+1) (by omega)
 have L1:=gD (ns:=ns) (k:=i2+1) (many:=pieces+1) (by omega)
 generalize jL ns (i2+1) (pieces+1)=lv at L0 L1
 refine bV (by show 1<=bK;decide) fun lf cN x4 hlf lf4=>?_
 have m4:=x4 _ _ m3
 have mlf:m≠lf:=fun z=>by rw[<-z,m3]at hlf;cases hlf
 have old3:∀ a o,st a=some o->aU a=some o:=fun a o e=>by
  have hma:a≠m:=fun z=>by rw[z,hm0]at e;cases e
  exact k3 a o (by simpa using hma) (k2 a o (by simpa using hma) (x1 _ _ e))
 have old4:∀ a o,st a=some o->cN a=some o/\a≠m/\a≠lf:=fun a o e=>⟨x4 _ _ (old3 a o e),fun z=>(by rw[z,hm0]at e;cases e),fun z=>(by rw[<-z,old3 a o e]at hlf;cases hlf)⟩
 walk_at"ex"
 walk_at"st"
 refine bV (by simp) fun wl eJ x5 hwl wl5=>?_
 have m5:=x5 _ _ m4
 have lf5:=x5 _ _ lf4
 have mwl:m≠wl:=fun z=>by rw[<-z,m4]at hwl;cases hwl
 have lfwl:lf≠wl:=fun z=>by rw[<-z,lf4]at hwl;cases hwl
 have old5:∀ a o,st a=some o->eJ a=some o/\a≠m/\a≠lf/\a≠wl:=fun a o e=>by
  obtain⟨q1,q2,q3⟩:=old4 a o e
  exact⟨x5 _ _ q1,q2,q3,fun z=>by rw[<-z,q1]at hwl;cases hwl⟩
 walk_at"ex"
 walk_at"st"
 refine fL (k:=k+3) hn hm hc m5 (by omega) (by omega) fun gJ k6 m6=>?_
 have V0:=gA (ns:=ns) (k:=i2+1+1) (many:=3) (by omega)
 have V1:=gD (ns:=ns) (k:=i2+1+1) (many:=3) (by omega)
 generalize jL ns (i2+1+1) 3=v at V0 V1
 have lf6:=k6 lf _ (by simpa using mlf.symm) lf5
 have wl6:=k6 wl _ (by simpa using mwl.symm) wl5
 walk_at"ex"
 refine⟨by unfold dC;omega,?_⟩
 rw[pF]
 have hname:∀ n∈fs++gs,fH n=true:=fun n hn'=>OA n (n8 n hn')
 have fpos:0<(fs++gs).length:=by simp;omega
 have hdis:∀ n∈fs,n∉gs:=fun n h1 h2=>by
  rw[rh]at nd
  exact nd.2.2 n h1 n h2 rfl
 refine mZ (fun j:Nat=>D.int (j:Nat)) (I:=WI (fun sU uN=>bσ at_ pieces fV ns fs gs m lf wl sU uN none none) (fs++gs) m lf wl gJ lv v) (fun rest σ aA _ a ha=>?_) (fun x rest σ aA M ⟨j,sU,uN,i',ws,e1,e2,q1,q2,q3,q4,q5,q6,q7,q7',q8⟩ hM=>?_) (fun σ aA ⟨j,sU,uN,i',ws,e1,e2,q1,q2,q3,q4,q5,q6,q7,q7',q8⟩=>?_) _ _ _ ⟨0,none,none,i2+1+1,[],rfl,rfl,.refl,by omega,m6,by simpa [fD]using lf6,by simp [fD];omega,wl6,rfl,df _,by simp⟩
 ·cases ha
 ·subst e2
  have hj:j<(ai (1+v).toNat).length:=by
   by_cases z:j<(ai (1+v).toNat).length
   ·exact z
   ·rw[fj (by omega)]at e1;cases e1
  rw[bz hj]at e1
  injection e1 with e3 e4
  simp only[bw]at hj
  simp only[bσ]
  walk_at"st"
  refine bV (by decide) fun u lD x7 hu hu7=>?_
  walk_at"ex"
  refine fL (k:=k+3) hn hm hc (x7 _ _ q3) q2 (by omega) fun fZ k8 m8=>?_
  have um:u≠m:=fun z=>by rw[z,q3]at hu;cases hu
  have u8:=k8 u _ (by simpa using um) hu7
  have w0:=gA (ns:=ns) (k:=i'+1) (many:=3) (by omega)
  have w1:=gD (ns:=ns) (k:=i'+1) (many:=3) (by omega)
  generalize jL ns (i'+1) 3=w at w0 w1
  have hpr:∃ c:Int,0<c/\c<=99/\fQ [D.int 3,D.int 9,D.int 99] w=some (.int c):=by
   have hw:w=0∨w=1∨w=2:=by omega
   rcases hw with rfl|rfl|rfl
   ·exact⟨3,by decide,by decide,IJ⟩
   ·exact⟨9,by decide,by decide,U3⟩
   ·exact⟨99,by decide,by decide,TY⟩
  obtain⟨c,WB,c99,hc'⟩:=hpr
  rw[eQ u8,hc',aZ]
  refine fL (k:=k+3) hn hm hc m8 (by omega) WB fun sT k9 m9=>?_
  have y0:=gA (ns:=ns) (k:=i'+1+1) (many:=c) (by omega)
  have y1:=gD (ns:=ns) (k:=i'+1+1) (many:=c) (by omega)
  generalize jL ns (i'+1+1) c=y at y0 y1
  walk_at"ex"
  have kk9:bR [m,lf,wl] aA sT:=(x7.keep.trans (k8.mono (by simp))).trans (k9.mono (by simp))
  have lf9:sT lf=some (.lst [.int (lv-fD (ws.map (·.2)))]):=k9 lf _ (by simpa using mlf.symm) (k8 lf _ (by simpa using mlf.symm) (x7 _ _ q4))
  have wl9:sT wl=some (.lst (ws.map fun w:Int×Sy=>.tup [.int w.1,toD w.2])):=k9 wl _ (by simpa using mwl.symm) (k8 wl _ (by simpa using mwl.symm) (x7 _ _ q6))
  walk_at"st"
  rw[aH wl9]
  refine⟨True.intro,?_⟩
  refine rX (k:=k) hs hn hm hc fpos mlf 2 m9 lf9 (by omega) (by omega) fun s EG i10 o10' d10 c10 k10 hi10 m10 lf10=>?_
  have wl10:=k10 wl _ (by simp [mwl.symm,lfwl.symm]) wl9
  walk_at"ex"
  rw[aH wl10]
  refine⟨by simp only[ab];omega,?_⟩
  simp only[aE]
  have ec:fD ((ws++[(1+y,s)]).map (·.2))=fD (ws.map (·.2))+cnt s:=by rw[d5,tB];simp [fD]
  refine hM _ _ ⟨j+1,_,_,i10,ws++[(1+y,s)],e4,rfl,?_,hi10,?_,?_,?_,?_,by simp [q7],by omega,fun w' hw'=>?_⟩
  ·intro a o na e
   simp only[fz,ee,or_false,not_or]at na
   rw[bD na.2.2]
   exact k10 a o (by simp [na]) (kk9 a o (by simp [na]) (q1 a o (by simp [na]) e))
  ·rw[bD mwl];exact m10
  ·rw[bD lfwl,lf10,ec];simp;omega
  ·rw[ec];simp;omega
  ·rw[aW];simp
  ·rcases List.mem_append.mp hw' with hw'|hw'
   ·exact q8 w' hw'
   ·simp only[ay]at hw';subst hw'
    exact⟨by show 1<=1+y;omega,by show 1+y<=99;omega,o10',d10⟩
 ·-- fV
  subst e2
  have hj:(1+v).toNat<=j:=by
   by_cases z:j<(ai (1+v).toNat).length
   ·rw[bz z]at e1;cases e1
   ·simpa using z
  have hws:ws.length<=3:=by omega
  refine RB (k:=k) (inm:=inm) hp hs hn hm hc (by omega) fpos hdis mlf mwl lfwl hmu hmu3 q2 q3 q4 (by omega) q6 hws fun ps ms fZ z8 z7 m3 y8 p3 z6 y6 z2=>?_
  have w1:1<=ws.length:=by omega
  refine hQ ⟨fs,gs,ps,ms,ws⟩ fZ ⟨⟨f1,f2,g1,g2,nd,hname,p3,fun s hU=>⟨(y8 s hU).1,c7 (y8 s hU).2.1 (by decide)⟩,fun s hU=>(y8 s hU).2.2,m3,fun s hU=>⟨(z8 s hU).1,c7 (z8 s hU).2 (by decide)⟩,w1,c7 hws (by decide),fun w hw=>⟨(q8 w hw).1,(q8 w hw).2.1,(q8 w hw).2.2.1,c7 (q8 w hw).2.2.2 (by decide)⟩⟩,fun s hU=>?_,z7,?_,n8⟩ fun a o e=>?_
  ·simp only[Bk.says,pw,uk]at hU
   rcases hU with(hU|hU)|⟨w,hw,rfl⟩
   ·exact(y8 s hU).2.1
   ·exact c7 (z8 s hU).2 (by decide)
   ·exact c7 (q8 w hw).2.2.2 (by decide)
  ·show((fD (ps++ms++ws.map (·.2)):Nat):Int)<=pieces
   rw[tB,tB]
   exact Ot y6 L1
  ·obtain⟨s1,s2,s3,s4⟩:=old5 a o e
   have t6:=k6 a o (by simpa using s2) s1
   exact z2 a o (by simp [s2,s3]) (q1 a o (by simp [s2,s3,s4]) t6)
end
end L3
end
section
namespace L3
open PySem
theorem UM {α:Type}(xs:List α){t:Nat}(h:t<=xs.length):cut xs none (some (t:Int))=xs.take t:=by
 simp only[cut,cE]
 rw[if_neg (by omega)]
 simp [Nat.min_eq_left h]
theorem P5 {n:Nat}:∀(l:List Sy),(∀ s∈l,aN s<=4)->fI l<=l.length*15
 |[],_=>by simp [fI]
 |s::l,h=>by
  have h1:=G0 s
  have h2:=h s (by simp)
  have h3:=P5 (n:=n) l fun x hx=>h x (by simp [hx])
  have h4:2 ^ aN s<=2 ^ 4:=oz (by decide) h2
  rw[jH]
  simp only[bj]
  omega
theorem ET {names:List (List Nat)}{f:List Sy}{s:Sy}(hf:∀ x∈f,over names x)(hs:over names s):∀ x∈eZ f s,over names x:=by
 unfold eZ;split
 ·intro x hx
  rcases List.mem_append.mp hx with hx|hx
  ·exact hf x hx
  ·simp only[ay]at hx;subst hx;exact hs
 ·exact hf
theorem vD {names:List (List Nat)}:∀(s:Sy){f:List Sy},(∀ x∈f,over names x)->over names s->∀ x∈bA s f,over names x
 |.yes,_,hf,_=>hf
 |.no,_,hf,_=>hf
 |.cO _,_,hf,_=>hf
 |.one w s,_,hf,hs=>vD s (ET hf hs) hs
 |.two w s t,_,hf,hs=>vD t (vD s (ET hf hs) hs.1) hs.2
theorem FN {names:List (List Nat)}:∀(l:List Sy){f:List Sy},(∀ x∈f,over names x)->(∀ s∈l,over names s)->∀ x∈cL l f,over names x
 |[],_,hf,_=>hf
 |s::l,_,hf,hl=>FN l (vD s hf (hl s (by simp))) fun x hx=>hl x (by simp [hx])
section
variable {G:Prog}{k il ibo ipl imb ilm inm ic im dD is ipr ibk ich icp ist ie iw ipo iz irr iti io iri ima nU iph inh ibp ip ih:Nat}{st:aB}{E:XK}{ns:List Int}
theorem RM {b:Bk}{pieces fV:Int}(DR:Lf b pieces fV)(hp:pieces<=4):fI b.says<=200/\(∀ x∈b.says,aN x<=60)/\(cL b.says []).length<=4/\∀ s∈cL b.says [],over b.names s/\aN s<=8:=by
 have p1:=DR.ok.p1
 have m1:=DR.ok.m1
 have w2:=DR.ok.w2
 have hl:b.says.length<=11:=by simp [Bk.says];omega
 refine⟨?_,fun x hx=>by have:=DR.d4 x hx;omega,?_,fun s hs=>⟨FN b.says (by simp) (fun s hs=>(DW DR.ok s hs).1) s hs,vF b.says (n:=8) (by simp) (fun x hx=>by have:=DR.d4 x hx;omega) s hs⟩⟩
 ·have:=P5 (n:=0) b.says DR.d4;omega
 ·have:=G2 b.says []
  have h2:=DR.cn
  simp at this;omega
end
end L3
end
section
namespace L3
open PySem
noncomputable def OD:Fn:=⟨2,2,[.ret (.bi .all [(.comp 1 [1] [0] true none [(.fld (W "Rules") (W "promise_rows") (.v 0))] [] (.ix (.v 1) (.v 0)))])]⟩
noncomputable def NC:Fn:=⟨2,2,[.ret (.bi .all [(.comp 1 [1] [0] true none [(.fld (W "Rules") (W "must_rows") (.v 0))] [] (.ix (.v 1) (.v 0)))])]⟩
noncomputable def GX:Fn:=⟨2,2,[.ret (.bi .sum [(.comp 2 [1] [0,1] false none [(.fld (W "Rules") (W "priced_rows") (.v 0))] [(.not_ (.ix (.v 2) (.v 1)))] (.v 0))])]⟩
end L3
end
section
namespace L3
open PySem
noncomputable def cU (ss:List Sy)(V:Sy->Bool):Bool:=ss.all V
noncomputable def qE (ws:List (Int×Sy))(V:Sy->Bool):Int:=((ws.filter fun w=>!V w.2).map (·.1)).sum
theorem GI {p l1 l2 l3:Nat}:cA (rZ p l1 l2 l3) (W "table")=some (.ref p):=by simp only[rZ,cA];rw[if_pos de]
theorem Bx {p l1 l2 l3:Nat}:cA (rZ p l1 l2 l3) (W "promise_rows")=some (.ref l1):=by simp only[rZ,cA];rw[if_neg (by decide +kernel),if_pos de]
theorem Cd {p l1 l2 l3:Nat}:cA (rZ p l1 l2 l3) (W "must_rows")=some (.ref l2):=by simp only[rZ,cA];rw[if_neg (by decide +kernel),if_neg (by decide +kernel),if_pos de]
theorem Z6 {p l1 l2 l3:Nat}:cA (rZ p l1 l2 l3) (W "priced_rows")=some (.ref l3):=by simp only[rZ,cA];rw[if_neg (by decide +kernel),if_neg (by decide +kernel),if_neg (by decide +kernel),if_pos de]
theorem J7 {p l1 l2 l3:Nat}{f:List Nat}(h1:W "table" ≠ f)(h2:W "promise_rows" ≠ f)(h3:W "must_rows" ≠ f)(h4:W "priced_rows" ≠ f):cA (rZ p l1 l2 l3) f=none:=by
 simp only[rZ,cA];rw[if_neg h1,if_neg h2,if_neg h3,if_neg h4]
section
variable {G:Prog}{k i:Nat}{st:aB}{Q:VK}{E:XK}{b:Bk}{r p l1 l2 l3:Nat}{R:List Sy}{V:Sy->Bool}{q:Nat}
theorem PX (hR:∀ s∈R,True){s:Sy}(hs:s∈R)(hq:st q=some (.lst (R.map fun s=>.bl (V s)))){Q':VK}:lC (.ref q) (.int (R.idxOf s:Nat)) st Q'=Q' (.bl (V s)) st:=by
 have cY:=List.idxOf_lt_length_iff.mpr hs
 rw[eQ hq,dW (by simpa using cY),bb,aj cY]
 simp [cZ]
theorem EW {f:List Nat}{l:Nat}{ss:List Sy}(h:G.fns i=some ⟨2,2,[.ret (.bi .all [(.comp 1 [1] [0] true none [(.fld (W "Rules") f (.v 0))] [] (.ix (.v 1) (.v 0)))])]⟩)(T:kZ st r p l1 l2 l3 b R)(hf:cA (rZ p l1 l2 l3) f=some (.ref l))(hl:st l=some (.lst (ss.map fun s=>.int (R.idxOf s:Nat))))(hss:∀ s∈ss,s∈R)(hn:ss.length<=1000)(hq:st q=some (.lst (R.map fun s=>.bl (V s))))
  (hQ:∀ aA,Ext st aA->Q (.bl (cU ss V)) aA):aM G (k+1) i [.ref r,.ref q] st Q E:=by
 have hL:bK=16777216:=rfl
 rw[aY h]
 simp only[start]
 refine⟨rfl,?_⟩
 walk_at"st"
 rw[eS T.ins hf,lZ,aH hl]
 refine dO (fun s:Sy=>D.int (R.idxOf s:Nat)) (fun s=>.bl (V s)) ss [] st (fun aS y a ha=>?_) (fun s hs aS K y1 hK=>?_) (by simp only[bc];omega) fun aF y2=>?_
 ·simp only[ay]at ha
  subst ha
  rw[hl,y _ _ hl]
 ·show lC _ _ aS _
  rw[PX (fun _ _=>trivial) (hss s hs) (y1 _ _ hq)]
  exact hK aS .refl
 rw[av]
 refine bV (by simp only[ab];omega) fun pp aU y3 hpp lI=>?_
 walk_at"ex"
 rw[aH lI,uX,aZ,qe]
 exact hQ aU (y2.trans y3)
theorem Y8 (h:G.fns i=some OD)(T:kZ st r p l1 l2 l3 b R)(B:b.Ok)(hq:st q=some (.lst (R.map fun s=>.bl (V s))))(hQ:∀ aA,Ext st aA->Q (.bl (cU b.ps V)) aA):aM G (k+1) i [.ref r,.ref q] st Q E :=
 EW h T Bx T.pr (fun s hs=>T.all s (by simp [Bk.says,hs])) (by have:=B.p1;omega) hq hQ
theorem X3 (h:G.fns i=some NC)(T:kZ st r p l1 l2 l3 b R)(B:b.Ok)(hq:st q=some (.lst (R.map fun s=>.bl (V s))))(hQ:∀ aA,Ext st aA->Q (.bl (cU b.ms V)) aA):aM G (k+1) i [.ref r,.ref q] st Q E :=
 EW h T Cd T.mu (fun s hs=>T.all s (by simp [Bk.says,hs])) (by have:=B.m1;omega) hq hQ
theorem J6 (V:Sy->Bool)(ws:List (Int×Sy)):intsOf (ws.filterMap fun w=>if(!V w.2)=true then some (D.int w.1)else none)=some ((ws.filter fun w=>!V w.2).map (·.1)):=by
 induction ws with
 |nil=>rfl
 |cons w ws ih =>
 cases hv:V w.2 with
 |true=>simp [fu,gb,hv]at ih ⊢;exact ih
 |false =>
  simp only[fu,gb,hv,j7,if_true,intsOf,aw]
  rw[ih];rfl
theorem WX (h:G.fns i=some GX)(T:kZ st r p l1 l2 l3 b R)(B:b.Ok)(hq:st q=some (.lst (R.map fun s=>.bl (V s))))(hQ:∀ aA,Ext st aA->Q (.int (qE b.ws V)) aA):aM G (k+1) i [.ref r,.ref q] st Q E:=by
 have hL:bK=16777216:=rfl
 have w2:=B.w2
 rw[aY h]
 simp only[GX,start]
 refine⟨rfl,?_⟩
 walk_at"st"
 rw[eS T.ins Z6,lZ,aH T.wi]
 refine kK (fun w:Int×Sy=>D.tup [.int w.1,.int (R.idxOf w.2:Nat)]) (fun w=>if(!V w.2)=true then some (D.int w.1)else none) b.ws [] st (fun aS y a ha=>?_) (fun w hw aS K y1 hK=>?_) (by simp only[bc];omega) fun aF y2=>?_
 ·simp only[ay]at ha
  subst ha
  rw[T.wi,y _ _ T.wi]
 ·have hs:w.2∈R:=T.all w.2 (by simp only[Bk.says,pw,uk];exact .inr ⟨w,hw,rfl⟩)
  walk_at"ex"
  rw[PX (fun _ _=>trivial) hs (y1 _ _ hq)]
  walk_at"ex"
  have:=hK aS .refl
  cases hv:V w.2 with
  |true=>simpa [hv]using this
  |false=>simpa [hv]using this
 rw[av]
 refine bV (by have:=r0 (fun w:Int×Sy=>if(!V w.2)=true then some (D.int w.1)else none) b.ws;omega) fun pp aU y3 hpp lI=>?_
 walk_at"ex"
 rw[aH lI,J6,aZ]
 exact hQ aU (y2.trans y3)
end
end L3
end
section
namespace L3
open PySem
theorem SH {st aA:aB}{a:Nat}(x:Ext st aA)(h:aA a=none):st a=none:=by
 cases hz:st a with
 |none=>rfl
 |some o=>rw[x _ _ hz]at h;cases h
end L3
end
section
namespace L3
open PySem
noncomputable def N8 (ih:Nat):Fn:=⟨3,3,[.ret (.cmp .eq (.comp 1 [0,2] [0] true none [(.v 1)] [(.not_ (.call ih [(.v 1),(.v 0),(.v 2),(.bin .sub (.bi .len [(.v 2)]) (.c (.int 1)))]))] (.v 0)) (.lst []))]⟩
noncomputable def HX (ih:Nat):Fn:=⟨2,3,[.asg (.nm 2) (.bin .add (.ix (.v 0) (.c (.int 0))) (.ix (.v 0) (.c (.int 1)))),.ret (.bi .sum [(.comp 1 [2,1] [0] true none [(.ix (.v 0) (.c (.int 4)))] [(.not_ (.call ih [(.v 1),(.ix (.v 0) (.c (.int 1))),(.v 2),(.bin .sub (.bi .len [(.v 2)]) (.c (.int 1)))]))] (.ix (.v 0) (.c (.int 0))))])]⟩
section
variable {names:List (List Nat)}{pl:List (List Bool)}{x:List Bool}
theorem GN {f g f' g':Nat->Bool}:∀ t,(∀ k,k<=t->f k=f' k/\g k=g' k)->jV f g t=jV f' g' t
 |0,h=>(h 0 (az _)).2
 |t+1,h=>by
  simp only[jV]
  rw[(h (t+1) (az _)).1,(h (t+1) (az _)).2,GN t fun k hk=>h k (by omega)]
theorem YQ {f g:Nat->Bool}(n:Nat)(h:∀ k,k<n->f k=g k):(ai n).any f=(ai n).any g:=by
 induction n with
 |zero=>rfl
 |succ n ih=>rw[DK,DK,ih fun k hk=>h k (by omega),h n (by omega)]
theorem WW {f g:Nat->Bool}(n:Nat)(h:∀ k,k<n->f k=g k):(ai n).all f=(ai n).all g:=by
 induction n with
 |zero=>rfl
 |succ n ih=>rw[D4,D4,ih fun k hk=>h k (by omega),h n (by omega)]
theorem gT:∀(s:Sy)(t:Nat),t<pl.length->hv names (pl++[x]) s t=hv names pl s t
 |.yes,_,_=>rfl
 |.no,_,_=>rfl
 |.cO n,t,h=>by simp only[hv,G1];rw[bu h]
 |.one .not s,t,h=>by simp only[hv];rw[gT s t h]
 |.one .before s,t,h=>by simp only[hv];rw[gT s (t-1) (by omega)]
 |.one .once s,t,h=>by simp only[hv];exact YQ _ fun k hk=>gT s k (by omega)
 |.one .sofar s,t,h=>by simp only[hv];exact WW _ fun k hk=>gT s k (by omega)
 |.two .and s u,t,h=>by simp only[hv];rw[gT s t h,gT u t h]
 |.two .or s u,t,h=>by simp only[hv];rw[gT s t h,gT u t h]
 |.two .bB s u,t,h=>by simp only[hv];rw[gT s t h,gT u t h]
 |.two .same s u,t,h=>by simp only[hv];rw[gT s t h,gT u t h]
 |.two .since s u,t,h=>by simp only[hv];exact GN t fun k hk=>⟨gT s k (by omega),gT u k (by omega)⟩
end
section
variable {G:Prog}{k i ih ise ik ilo:Nat}{st:aB}{Q:VK}{E:XK}{b:Bk}{l:Nat}{pl:List (List Bool)}
theorem Y4 (h:G.fns i=some (N8 ih))(hh:G.fns ih=some (xG ih)){ss:List Sy}{names:List (List Nat)}(hss:∀ s∈ss,over names s/\aN s<=8)(hn:ss.length<=1000)(hl:st l=some (.lst (pl.map eY)))(hp:∀ bs∈pl,bs.length=names.length)(hpn:pl.length<=1000)(hp0:0<pl.length)
  (hQ:∀ aA,Ext st aA->Q (.bl (ss.all fun s=>hv names pl s (pl.length-1))) aA):aM G (k+9) i [.tup (names.map .str),.tup (ss.map toD),.ref l] st Q E:=by
 have hL:bK=16777216:=rfl
 rw[aY h]
 simp only[N8,start]
 refine⟨rfl,?_⟩
 have elen:((pl.map eY).length:Int)-1=((pl.length-1:Nat):Int):=by simp;omega
 walk_at"st"
 refine kK toD (fun s=>if(!hv names pl s (pl.length-1))=true then some (toD s)else none) ss [] st (fun aS y a ha=>by cases ha) (fun s hs aS K y1 hK=>?_) (by simp only[bc];omega) fun aF y2=>?_
 ·rw[fX (y1 _ _ hl),elen]
  refine HW (k:=k) hh hp hpn 8 (s:=s) (hss s hs).2 (hss s hs).1 (by omega) (y1 _ _ hl) fun aU y3=>?_
  walk_at"ex"
  have:=hK aU y3
  cases hv':hv names pl s (pl.length-1)with
  |true=>simpa [hv']using this
  |false=>simpa [hv']using this
 rw[av]
 have ef:(ss.filterMap fun s=>if(!hv names pl s (pl.length-1))=true then some (toD s)else none)=(ss.filter fun s=>!hv names pl s (pl.length-1)).map toD:=by
  clear hss hn hQ
  induction ss with
  |nil=>rfl
  |cons a l ih =>
   cases hv':hv names pl a (pl.length-1)with
   |true=>rw[List.filterMap_cons_none (by simp [hv']),List.filter_cons_of_neg (by simp [hv']),ih]
   |false=>rw[List.filterMap_cons_some (b:=toD a) (by simp [hv']),List.filter_cons_of_pos (by simp [hv']),aw,ih]
 rw[ef]
 have hfl:=jr (fun s=>!hv names pl s (pl.length-1)) ss
 refine bV (by simp only[ab];omega) fun u aU y3 hu hu3=>?_
 walk_at"ex"
 refine bV (by simp) fun v cN y4 hv4 hv4'=>?_
 walk_at"ex"
 have cG:plainS cN (.ref u):=by
  refine⟨?_,df _⟩
  simp only[fG,y4 _ _ hu3,HZ,FW,fy,decide_eq_true_eq]
  refine c7 (IQ (n:=8) _ fun s hs=>(hss s (List.mem_filter.mp hs).1).2) (by decide)
 refine⟨cG,nD (is:=[]) hv4',?_⟩
 rw[eq_nil (y4 _ _ hu3) hv4']
 have e:(((ss.filter fun s=>!hv names pl s (pl.length-1)).map toD).isEmpty)=ss.all fun s=>hv names pl s (pl.length-1):=by
  clear hss hn hQ ef cG hu3 hfl
  induction ss with
  |nil=>rfl
  |cons a l ih =>
   cases hv':hv names pl a (pl.length-1)with
   |true=>simp [gb,hv']at ih ⊢;exact ih
   |false=>simp [gb,hv']
 rw[e]
 exact hQ cN ((y2.trans y3).trans y4)
theorem UJ (h:G.fns i=some (HX ih))(hh:G.fns ih=some (xG ih))(B:b.Ok)(hl:st l=some (.lst (pl.map eY)))(hp:∀ bs∈pl,bs.length=b.names.length)(hpn:pl.length<=1000)(hp0:0<pl.length)
  (hQ:∀ aA,Ext st aA->Q (.int (qE b.ws fun s=>hv b.names pl s (pl.length-1))) aA):aM G (k+9) i [b.d,.ref l] st Q E:=by
 have hL:bK=16777216:=rfl
 have f2:=B.f2
 have g2:=B.g2
 have w2:=B.w2
 rw[aY h]
 simp only[HX,start,Bk.d]
 refine⟨rfl,?_⟩
 have elen:((pl.map eY).length:Int)-1=((pl.length-1:Nat):Int):=by simp;omega
 have en:(b.fs.map D.str++b.gs.map D.str)=b.names.map .str:=by simp [Bk.names]
 walk_at"st"
 refine⟨by simp only[ab];omega,?_⟩
 rw[en]
 walk_at"st"
 refine kK (fun w:Int×Sy=>D.tup [.int w.1,toD w.2]) (fun w=>if(!hv b.names pl w.2 (pl.length-1))=true then some (D.int w.1)else none) b.ws [] st (fun aS y a ha=>by cases ha) (fun w hw aS K y1 hK=>?_) (by simp only[bc];omega) fun aF y2=>?_
 ·walk_at"ex"
  rw[fX (y1 _ _ hl),elen]
  refine HW (k:=k) hh hp hpn 8 (s:=w.2) (B.w3 w hw).2.2.2 (B.w3 w hw).2.2.1 (by omega) (y1 _ _ hl) fun aU y3=>?_
  walk_at"ex"
  have:=hK aU y3
  cases hv':hv b.names pl w.2 (pl.length-1)with
  |true=>simpa [hv']using this
  |false=>simpa [hv']using this
 rw[av]
 refine bV (by have:=r0 (fun w:Int×Sy=>if(!hv b.names pl w.2 (pl.length-1))=true then some (D.int w.1)else none) b.ws;omega) fun pp aU y3 hpp lI=>?_
 walk_at"ex"
 rw[aH lI,J6 (fun s=>hv b.names pl s (pl.length-1)),aZ]
 exact hQ aU (y2.trans y3)
end
end L3
end
section
namespace L3
open PySem
theorem GL {α:Type}(f:α->D){n:Nat}(h:∀ x,bC (f x)=true/\cJ (f x)<=n):∀ l:List α,bM (l.map f)=true/\cK (l.map f)<=n
 |[]=>⟨rfl,df _⟩
 |a::l=>by
  have h1:=h a
  have h2:=GL f h l
  simp only[aw,bM,h1.1,h2.1,dt,cK,true_and]
  omega
end L3
end
section
namespace L3
open PySem
noncomputable def CC (nU ima:Nat):Fn:=⟨3,7,[.asg (.nm 3) (.lst []),.asg (.nm 4) (.fld (W "Table") (W "first_memory") (.v 0)),.hJ (.nm 5) none [(.v 1)] [.asg (.nm 6) (.mcl (W "Table") (W "held_at") nU (.v 0) [(.v 4),(.v 5)]),.ex (.cD .append (.v 3) [(.cv 2 [(.v 6)])]),.asg (.nm 4) (.mcl (W "Table") (W "memory_after") ima (.v 0) [(.v 6)])],.ret (.v 3)]⟩
theorem UT {st aA:aB}{a:Nat}(x:Ext st aA):Ext (del st a) (del aA a):=fun b o e=>by
 by_cases z:b=a
 ·rw[z]at e;unfold del at e;rw[if_pos rfl]at e;cases e
 ·rw[tP z]at e ⊢;exact x _ _ e
theorem WV {st aA:aB}{a:Nat}{o:MO}(h:st a=some o)(x:Ext (del st a) aA):Ext st (put aA a o):=fun b o' e=>by
 by_cases z:b=a
 ·subst z;rw[h]at e;cases e;exact aW
 ·rw[bD z];exact x _ _ (by rw[tP z];exact e)
theorem HQ {st aA:aB}{a:Nat}{o:MO}(h:st a=none)(x:Ext (del (put st a o) a) aA):Ext st aA:=fun b o' e=>by
 have ne:b≠a:=fun z=>by rw[z,h]at e;cases e
 exact x _ _ (by rw[tP ne,bD ne];exact e)
section
variable {G:Prog}{k i ima nU iph inh p l f:Nat}{st:aB}{Q:VK}{E:XK}{names:List (List Nat)}{bA R:List Sy}{aG:List (List Bool)}{cs:List D}{cl:Nat}
theorem L9 (h:G.fns i=some (CC nU ima))(hma:G.fns ima=some DT)(hha:G.fns nU=some (zF iph inh))(hn:G.fns inh=some AX)(hpa:G.fns iph=some vY)(T0:Table st p names bA R)(rT:bA.length<=5000)(hl:st l=some (.lst (aG.map eY)))(hp:∀ bs∈aG,bs.length=names.length)(cG:aG.length<=1000)(hc:st cl=some (.fn f cs))(F:Nat->D)
  (hf:∀(t q:Nat)(aA:aB)(K:VK)(E':XK),t<aG.length->Ext (del st cl) aA->aA q=some (.lst (R.map fun s=>.bl (hv names aG s t)))->(∀ aS,Ext aA aS->K (F t) aS)->aM G (k+2) f (cs++[.ref q]) aA K E')
  (hQ:∀ u aA,st u=none->Ext st aA->aA u=some (.lst ((ai aG.length).map F))->Q (.ref u) aA):aM G (k+3) i [.ref p,.ref l,.ref cl] st Q E:=by
 have hL:bK=16777216:=rfl
 obtain⟨lp,lr,ld,lm,js,T,hlm,hjl,hjs,hpast⟩:=T0.h
 rw[aY h]
 simp only[CC,start]
 refine⟨rfl,?_⟩
 walk_at"st"
 refine bV (by simp) fun u aC x1 hu hu1=>?_
 walk_at"ex"
 walk_at"st"
 rw[eS (T.keep x1).ins (x:=.tup (bA.map fun s=>.bl (gQ s))) (by rw[kC (by decide +kernel) (by decide +kernel) (by decide +kernel) (by decide +kernel)];simp only[P4,cA];rw[if_pos de])]
 walk_at"ex"
 have l1:=x1 _ _ hl
 walk_at"st"
 rw[aH l1]
 have lu:l≠u:=fun z=>by rw[<-z,hl]at hu;cases hu
 refine mZ eY (I:=fun rest σ aA=>∃ t o5 o6,t<=aG.length/\rest=aG.drop t/\σ=[some (.ref p),some (.ref l),some (.ref cl),some (.ref u),some (.tup (bA.map fun s=>.bl (lT names aG t s))),o5,o6]/\Ext st aA/\aA u=some (.lst ((ai t).map F))) (fun rest σ aA h=>?_) (fun x rest σ aA M h hM=>?_) (fun σ aA h=>?_) _ _ _ ⟨0,none,none,df _,rfl,by simp [lT],x1,hu1⟩
 ·obtain⟨t,o5,o6,e0,e1,e2,x4,u4⟩:=h
  intro a ha
  simp only[ay]at ha
  subst ha
  rw[l1,x4 _ _ hl]
 ·obtain⟨t,o5,o6,e0,e1,e2,x4,u4⟩:=h
  subst e2
  have ht':t<aG.length:=by
   by_cases z:t<aG.length
   ·exact z
   ·rw[fj (by omega)]at e1;cases e1
  rw[bz ht']at e1
  injection e1 with e3 e4
  have hx:aG[t]? = some x:=by rw[aj ht',e3]
  have hxl:x.length=names.length:=hp x (bf hx)
  have T4:=T.keep x4
  walk_at"st"
  rw[nA T4.ins (by rw[kC (by decide +kernel) (by decide +kernel) (by decide +kernel) (by decide +kernel)];simp only[P4,cA];rw[if_neg (by decide +kernel),if_neg (by decide +kernel)])]
  refine⟨True.intro,?_⟩
  have em:(bA.map fun s=>D.bl (lT names aG t s))=(bA.map fun s=>lT names aG t s).map .bl:=by rw[j1];rfl
  rw[em]
  refine WU (k:=k) hha hn hpa T4 (set:=x) (fun s=>hv names aG s t) (fun n hn'=>?_) (fun s hU hps=>⟨lT names aG t s,?_,XN hps t⟩) (fun s h1 h2=>Bp h1 h2 t) fun eJ q hq0 x5 hq=>?_
  ·have cY:names.idxOf n<x.length:=by rw[hxl];exact List.idxOf_lt_length_iff.mpr hn'
   simp only[hv,G1,hx,jj]
   rw[aj cY];rfl
  ·have cY:=List.idxOf_lt_length_iff.mpr hU
   rw[bb,aj cY];simp
  walk_at"ex"
  have u5:=x5 _ _ u4
  walk_at"st"
  rw[aH u5]
  refine⟨True.intro,?_⟩
  rw[VY (x5 _ _ (x4 _ _ hc)),VY (x5 _ _ (x4 _ _ hc))]
  refine⟨True.intro,?_⟩
  have x45:=x4.trans x5
  have qc:q≠cl:=fun z=>by rw[z,x4 _ _ hc]at hq0;cases hq0
  refine hf t q _ _ _ ht' (UT x45) (by rw[tP qc];exact hq) fun st6' x6'=>?_
  have x6:=WV (x45 _ _ hc) x6'
  generalize put st6' cl (.fn f cs)=gJ at x6
  walk_at"ex"
  have u6:=x6 _ _ u5
  rw[aH u6]
  refine⟨by simp only[ab,bw];omega,?_⟩
  have qu:q≠u:=fun z=>by rw[z,u4]at hq0;cases hq0
  generalize hst7:put gJ u (.lst ((ai t).map F++[F t]))=lD
  have x7:Ext st lD:=fun a o e=>by
   have au:a≠u:=fun z=>by rw[z,hu]at e;cases e
   rw[<-hst7,bD au];exact x6 _ _ (x5 _ _ (x4 _ _ e))
  have u7:lD u=some (.lst ((ai t).map F++[F t])):=by rw[<-hst7,aW]
  have q7:lD q=some (.lst (R.map fun s=>.bl (hv names aG s t))):=by rw[<-hst7,bD qu];exact x6 _ _ hq
  have T7:=T.keep x7
  walk_at"st"
  rw[nA T7.ins (by rw[kC (by decide +kernel) (by decide +kernel) (by decide +kernel) (by decide +kernel)];simp only[P4,cA];rw[if_neg (by decide +kernel),if_neg (by decide +kernel)])]
  refine⟨True.intro,?_⟩
  refine Dm (k:=k+1) (bA:=bA) hma T7.ins (lm:=lm) (by rw[kC (by decide +kernel) (by decide +kernel) (by decide +kernel) (by decide +kernel)];simp only[P4,cA];rw[if_neg (by decide +kernel),if_pos de]) (x7 _ _ hlm) q7 hjl rT hjs fun fZ x8=>?_
  walk_at"ex"
  simp only[aE]
  refine hM _ fZ ⟨t+1,some (eY x),some (.ref q),ht',e4,?_,x7.trans x8,?_⟩
  ·simp [lT]
  ·rw[x8 _ _ u7,mh,d5];rfl
 ·obtain⟨t,o5,o6,e0,e1,e2,x4,u4⟩:=h
  subst e2
  have hj:aG.length<=t:=by
   by_cases z:t<aG.length
   ·rw[bz z]at e1;cases e1
   ·omega
  have et:t=aG.length:=by omega
  subst et
  walk_at"st"
  exact hQ u _ hu x4 u4
end
theorem MN {st aF:aB}{a:Nat}{o:MO}(ha:st a=none)(x:Ext (put st a o) aF):Ext st (del aF a):=fun b o' e=>by
 have ne:b≠a:=fun z=>by rw[z,ha]at e;cases e
 rw[tP ne];exact x _ _ (yR ha e)
theorem MS {st aF:aB}{a u:Nat}{o o':MO}(hu:put st a o u=none)(h:aF u=some o'):del aF a u=some o':=by
 have ne:u≠a:=fun z=>by rw[z,aW]at hu;cases hu
 rw[tP ne];exact h
theorem SS {st:aB}{a u:Nat}{o:MO}(hu:put st a o u=none):st u=none:=by
 have ne:u≠a:=fun z=>by rw[z,aW]at hu;cases hu
 rwa [bD ne]at hu
end L3
end
section
namespace L3
open PySem
noncomputable def II (ilo:Nat):Fn:=⟨2,2,[.ret (.mcl (W "Rules") (W "loss_at") ilo (.v 0) [(.v 1)])]⟩
noncomputable def ND (ifk imk:Nat):Fn:=⟨2,2,[.ret (.tup [(.mcl (W "Rules") (W "foe_keeps") ifk (.v 0) [(.v 1)]),(.mcl (W "Rules") (W "friend_keeps") imk (.v 0) [(.v 1)])])]⟩
noncomputable def DG (ich icp iri itd ill:Nat)(κ:CK):Fn:=⟨2,3,[.ex (.call ich [(.v 0)]),.ex (.call icp [(.v 0),(.v 1)]),.asg (.nm 2) (.mk (W "Rules") iri [(.v 0)]),.ret (.callL itd [(.fld (W "Rules") (W "table") (.v 2)),(.v 1)] ill [2] κ)]⟩
noncomputable def CG:Fn:=⟨1,1,[.iff (.cmp .in_ (.c (.bl false)) (.v 0)) [.ret (.cD .index (.v 0) [(.c (.bl false))])] [],.ret (.c .non)]⟩
noncomputable def DM (ich icp iri itd ibl ift:Nat)(κ:CK):Fn:=⟨2,4,[.ex (.call ich [(.v 0)]),.ex (.call icp [(.v 0),(.v 1)]),.asg (.nm 2) (.mk (W "Rules") iri [(.v 0)]),.asg (.nm 3) (.callL itd [(.fld (W "Rules") (W "table") (.v 2)),(.v 1)] ibl [2] κ),.ret (.tup [(.call ift [(.comp 1 [] [0] true none [(.v 3)] [] (.ix (.v 0) (.c (.int 0))))]),(.call ift [(.comp 1 [] [0] true none [(.v 3)] [] (.ix (.v 0) (.c (.int 1))))])])]⟩
noncomputable def jY (bs:List Bool):D:=if bs.contains false then .int (bs.idxOf false:Nat)else .non
theorem LI {st:aB}(a b:Bool):bO st (.bl a) (.bl b)=(a==b):=by simp only[bO]
theorem any_false {st:aB}:∀ bs:List Bool,((bs.map D.bl).any fun d=>bO st d (.bl false))=bs.contains false
 |[]=>rfl
 |a::l=>by
  rw[aw,j3,any_false l,LI,mn]
  cases a<;>rfl
theorem B7 {st:aB}:∀ bs:List Bool,bs.contains false=true->findD st (.bl false) (bs.map D.bl)=some (bs.idxOf false)
 |[],h=>by cases h
 |a::l,h=>by
  simp only[aw,findD,LI]
  cases a with
  |false=>rfl
  |true =>
   rw[if_neg (by decide),B7 l (by simpa using h),km];rfl
theorem E2 {st:aB}(bs:List Bool):dM st (bs.map D.bl):=by
 have h:=KC bs
 have h2:=MJ bs
 simp only[eY,bC]at h
 simp only[eY,cJ]at h2
 exact⟨pE _ h,by have:kW=80:=rfl;omega⟩
section
variable {G:Prog}{k i ich icp iri itd ill ibl ift ibk ist iti iz ie irr iw ipo io ima nU iph inh ilo ifk imk:Nat}{st:aB}{Q:VK}{E:XK}{b:Bk}{κ:CK}
theorem HR (h:G.fns i=some CG){l:Nat}{bs:List Bool}(hl:st l=some (.lst (bs.map .bl)))(hQ:Q (jY bs) st):aM G (k+1) i [.ref l] st Q E:=by
 rw[aY h]
 simp only[CG,start]
 refine⟨rfl,?_⟩
 walk_at"st"
 show dQ st l _ _
 rw[fX hl]
 refine⟨xK,E2 bs,?_⟩
 rw[any_false]
 unfold jY at hQ
 cases hc:bs.contains false with
 |false =>
 rw[hc]at hQ
 walk_at"ex"
 simp only[ak,if_false,aE]
 walk_at"st"
 simpa using hQ
 |true =>
 rw[hc]at hQ
 walk_at"ex"
 (try simp only[if_true])
 walk_at"st"
 show dP (.ref l) st (fun _ _=>True)/\_
 refine⟨by rw[tZ,aH hl];trivial,?_⟩
 show dP (.ref l) st (fun _ ds=>plainS st (.bl false)/\dM st ds/\cZ (findD st (.bl false) ds) fun i=>Q (.int (i:Nat)) st)
 rw[tZ,aH hl]
 refine⟨xK,E2 bs,?_⟩
 rw[B7 bs hc,aZ]
 simpa using hQ
theorem C4 (hch:G.fns ich=some (oH ibk))(hb:BY G ibk 13 b)(hcp:G.fns icp=some (qL ist))(dN:G.fns ist=some mD)(hri:G.fns iri=some (tT iti io))(ht:G.fns iti=some (lU iz ie irr))(hz:G.fns iz=some (iL iw))(he:G.fns ie=some (oS ie iw ipo))(hw:G.fns iw=some gC)(hpo:G.fns ipo=some mO)(hrr:G.fns irr=some yI)(hio:G.fns io=some pH)
 (B:b.Ok)(hs:fI b.says<=5000)(rT:(cL b.says []).length<=5000){l:Nat}{aG:List (List Bool)}(hl:st l=some (.lst (aG.map eY)))(hp:∀ bs∈aG,bs.length=b.names.length)(cG:aG.length<=1000){ss:List Sx}{P:gM}{os:St}
 (hN:∀ r aA p l1 l2 l3 R,Ext st aA->kZ aA r p l1 l2 l3 b R->cR (aM G (k+14)) G.sub ss P (some b.d::some (.ref l)::some (.ref r)::os) aA):
 cR (aM G (k+14)) G.sub (.ex (.call ich [.v 0])::.ex (.call icp [.v 0,.v 1])::.asg (.nm 2) (.mk (W "Rules") iri [.v 0])::ss) P (some b.d::some (.ref l)::none::os) st:=by
 walk_at"st"
 refine OB (k:=k) hch hb fun aC x1=>?_
 walk_at"st"
 refine M7 (k:=k+12) hcp dN B (x1 _ _ hl) hp cG fun aF x2=>?_
 walk_at"st"
 intro r hr
 refine UK (k:=k+1) hri ht hz he hw hpo hrr hio B hs rT aW fun aU p l1 l2 l3 R k3 T3=>⟨rfl,?_⟩
 have x3:Ext aF aU:=fun a o e=>k3 a o (by intro z;simp only[ay]at z;rw[z,hr]at e;cases e) (yR hr e)
 exact hN r aU p l1 l2 l3 R (x1.trans (x2.trans x3)) T3
theorem RW (h:G.fns i=some (DG ich icp iri itd ill κ))(hcod:∃ P,st P=some (.cod κ))(hch:G.fns ich=some (oH ibk))(hb:BY G ibk 13 b)(hcp:G.fns icp=some (qL ist))(dN:G.fns ist=some mD)(hri:G.fns iri=some (tT iti io))(ht:G.fns iti=some (lU iz ie irr))(hz:G.fns iz=some (iL iw))(he:G.fns ie=some (oS ie iw ipo))(hw:G.fns iw=some gC)(hpo:G.fns ipo=some mO)(hrr:G.fns irr=some yI)(hio:G.fns io=some pH)
  (hma:G.fns ima=some DT)(hha:G.fns nU=some (zF iph inh))(hn:G.fns inh=some AX)(hpa:G.fns iph=some vY)(htd:G.fns itd=some (CC nU ima))(hll:G.fns ill=some (II ilo))(hlo:G.fns ilo=some GX)
  (B:b.Ok)(hs:fI b.says<=5000)(rT:(cL b.says []).length<=5000){l:Nat}{aG:List (List Bool)}(hl:st l=some (.lst (aG.map eY)))(hp:∀ bs∈aG,bs.length=b.names.length)(cG:aG.length<=1000)
  (hQ:∀ u aA,st u=none->Ext st aA->aA u=some (.lst ((ai aG.length).map fun t=>D.int (qE b.ws fun s=>hv b.names aG s t)))->Q (.ref u) aA):aM G (k+15) i [b.d,.ref l] st Q E:=by
 rw[aY h]
 simp only[DG,start]
 refine⟨rfl,?_⟩
 refine C4 hch hb hcp dN hri ht hz he hw hpo hrr hio B hs rT hl hp cG fun r aU p l1 l2 l3 R x3 T3=>?_
 walk_at"st"
 rw[eS T3.ins GI]
 refine⟨hcod.imp fun P e=>x3 _ _ e,?_⟩
 intro ca hca
 have xn:=Ext.new (o:=.fn ill [.ref r]) hca
 refine L9 (k:=k+11) htd hma hha hn hpa (T3.tab.keep xn) rT (xn _ _ (x3 _ _ hl)) hp cG aW (fun t=>D.int (qE b.ws fun s=>hv b.names aG s t)) (fun t q aA K E' ht' x4 hq hK=>?_) fun u cN hu x4 hu4=>?_
 ·rw[aY hll]
  simp only[II,start]
  refine⟨rfl,?_⟩
  have T4:=T3.keep (HQ hca x4)
  simp only[cw,av,aw,gz]
  walk_at"st"
  rw[nA T4.ins (J7 (by decide +kernel) (by decide +kernel) (by decide +kernel) (by decide +kernel))]
  refine⟨True.intro,?_⟩
  exact WX (k:=k+11) hlo T4 B hq hK
 ·exact hQ u _ (SH x3 (SS hu)) (x3.trans (MN hca x4)) (MS hu hu4)
theorem PC (h:G.fns i=some (DM ich icp iri itd ibl ift κ))(hcod:∃ P,st P=some (.cod κ))(hch:G.fns ich=some (oH ibk))(hb:BY G ibk 13 b)(hcp:G.fns icp=some (qL ist))(dN:G.fns ist=some mD)(hri:G.fns iri=some (tT iti io))(ht:G.fns iti=some (lU iz ie irr))(hz:G.fns iz=some (iL iw))(he:G.fns ie=some (oS ie iw ipo))(hw:G.fns iw=some gC)(hpo:G.fns ipo=some mO)(hrr:G.fns irr=some yI)(hio:G.fns io=some pH)
  (hma:G.fns ima=some DT)(hha:G.fns nU=some (zF iph inh))(hn:G.fns inh=some AX)(hpa:G.fns iph=some vY)(htd:G.fns itd=some (CC nU ima))(hbl:G.fns ibl=some (ND ifk imk))(hfk:G.fns ifk=some OD)(hmk:G.fns imk=some NC)(hft:G.fns ift=some CG)
  (B:b.Ok)(hs:fI b.says<=5000)(rT:(cL b.says []).length<=5000){l:Nat}{aG:List (List Bool)}(hl:st l=some (.lst (aG.map eY)))(hp:∀ bs∈aG,bs.length=b.names.length)(cG:aG.length<=1000)
  (hQ:∀ aA,Ext st aA->Q (.tup [jY ((ai aG.length).map fun t=>cU b.ps fun s=>hv b.names aG s t),jY ((ai aG.length).map fun t=>cU b.ms fun s=>hv b.names aG s t)]) aA):aM G (k+15) i [b.d,.ref l] st Q E:=by
 have hL:bK=16777216:=rfl
 rw[aY h]
 simp only[DM,start]
 refine⟨rfl,?_⟩
 refine C4 hch hb hcp dN hri ht hz he hw hpo hrr hio B hs rT hl hp cG fun r aU p l1 l2 l3 R x3 T3=>?_
 walk_at"st"
 rw[eS T3.ins GI]
 refine⟨hcod.imp fun P e=>x3 _ _ e,?_⟩
 intro ca hca
 have xn:=Ext.new (o:=.fn ibl [.ref r]) hca
 refine L9 (k:=k+11) htd hma hha hn hpa (T3.tab.keep xn) rT (xn _ _ (x3 _ _ hl)) hp cG aW (fun t=>D.tup [.bl (cU b.ps fun s=>hv b.names aG s t),.bl (cU b.ms fun s=>hv b.names aG s t)]) (fun t q aA K E' ht' x4 hq hK=>?_) fun u st4' hu x4' hu4'=>?_
 ·rw[aY hbl]
  simp only[ND,start]
  refine⟨rfl,?_⟩
  have T4:=T3.keep (HQ hca x4)
  simp only[cw,av,aw,gz]
  walk_at"st"
  rw[nA T4.ins (J7 (by decide +kernel) (by decide +kernel) (by decide +kernel) (by decide +kernel))]
  refine⟨True.intro,?_⟩
  refine Y8 (k:=k+11) hfk T4 B hq fun eJ x5=>?_
  have T5:=T4.keep x5
  walk_at"ex"
  rw[nA T5.ins (J7 (by decide +kernel) (by decide +kernel) (by decide +kernel) (by decide +kernel))]
  refine⟨True.intro,?_⟩
  refine X3 (k:=k+11) hmk T5 B (x5 _ _ hq) fun gJ x6=>?_
  exact hK gJ (x5.trans x6)
 ·have hu4:=MS hu hu4'
  have x4:=MN hca x4'
  generalize del st4' ca=cN at hu4 x4
  walk_at"ex"
  walk_at"st"
  rw[aH hu4]
  have hlr:((ai aG.length).map fun t=>D.tup [.bl (cU b.ps fun s=>hv b.names aG s t),.bl (cU b.ms fun s=>hv b.names aG s t)]).length<=1000:=by simp only[ab,bw];exact cG
  refine dO (fun t:Nat=>D.tup [.bl (cU b.ps fun s=>hv b.names aG s t),.bl (cU b.ms fun s=>hv b.names aG s t)]) (fun t=>D.bl (cU b.ps fun s=>hv b.names aG s t)) (ai aG.length) [] cN (fun aS y a ha=>?_) (fun t ht' eJ K y5 hK=>?_) (by simp only[bc,bw];omega) fun eJ x5=>?_
  ·simp only[ay]at ha
   subst ha
   rw[hu4,y _ _ hu4]
  ·walk_at"ex"
   exact hK eJ .refl
  rw[av]
  refine bV (by simp only[ab,bw];omega) fun v gJ x6 hv0 hv6=>?_
  refine HR (k:=k+13) hft (bs:=(ai aG.length).map fun t=>cU b.ps fun s=>hv b.names aG s t) (by rw[hv6,j1];rfl) ?_
  walk_at"ex"
  have u6:=x6 _ _ (x5 _ _ hu4)
  rw[aH u6]
  refine dO (fun t:Nat=>D.tup [.bl (cU b.ps fun s=>hv b.names aG s t),.bl (cU b.ms fun s=>hv b.names aG s t)]) (fun t=>D.bl (cU b.ms fun s=>hv b.names aG s t)) (ai aG.length) [] gJ (fun aS y a ha=>?_) (fun t ht' eJ K y5 hK=>?_) (by simp only[bc,bw];omega) fun lD x7=>?_
  ·simp only[ay]at ha
   subst ha
   rw[u6,y _ _ u6]
  ·walk_at"ex"
   exact hK eJ .refl
  rw[av]
  refine bV (by simp only[ab,bw];omega) fun w fZ x8 hw hw8=>?_
  refine HR (k:=k+13) hft (bs:=(ai aG.length).map fun t=>cU b.ms fun s=>hv b.names aG s t) (by rw[hw8,j1];rfl) ?_
  exact hQ fZ (x3.trans (x4.trans (x5.trans (x6.trans (x7.trans x8)))))
end
end L3
end
section
namespace L3
open PySem
noncomputable def RD (ibo ipl ils ill ik ibr:Nat):Fn:=⟨1,9,[.asg (.nm 1) (.call ibo [(.v 0),(.c (.int 4)),(.c (.int 3)),(.c (.int 2))]),.asg (.nm 2) (.bin .add (.ix (.v 1) (.c (.int 0))) (.ix (.v 1) (.c (.int 1)))),.asg (.nm 3) (.call ipl [(.v 0),(.c (.int 0)),(.bi .len [(.v 2)]),(.c (.int 7))]),.asg (.nm 4) (.bi .list [(.v 3)]),.asg (.nm 5) (.bit .list .range [(.c (.int 1)),(.bin .add (.bi .len [(.v 3)]) (.c (.int 1)))]),.iff (.cmp .ne (.call ils [(.v 1),(.v 4)]) (.comp 1 [1,3] [0] true none [(.v 5)] [] (.call ill [(.v 1),(.sl (.v 2) [] [(.v 0)])]))) [.ret (.c (.bl false))] [],.asg (.nm 6) (.lst []),.hJ (.nm 7) none [(.tup [(.ix (.v 1) (.c (.int 2))),(.ix (.v 1) (.c (.int 3)))])] [.asg (.nm 8) (.comp 1 [2,7,3] [0] true none [(.v 5)] [(.not_ (.call ik [(.v 1),(.v 2),(.sl (.v 3) [] [(.v 0)])]))] (.bin .sub (.v 0) (.c (.int 1)))),.ex (.cD .append (.v 6) [(.ix (.bin .add (.v 8) (.lst [(.c .non)])) (.c (.int 0)))])],.ret (.and_ (.cmp .eq (.call ibr [(.v 1),(.v 4)]) (.bi .tuple [(.v 6)])) (.cmp .eq (.v 4) (.v 3)))]⟩
theorem RQ {names:List (List Nat)}(s:Sy){t:Nat}:∀(rest pl:List (List Bool)),t<pl.length->hv names (pl++rest) s t=hv names pl s t
 |[],pl,_=>by rw[el]
 |x::rest,pl,h=>by
  have e:pl++x::rest=(pl++[x])++rest:=by simp
  rw[e,RQ s rest (pl++[x]) (by simp;omega),gT s t h]
theorem LH {names:List (List Nat)}(aG:List (List Bool))(s:Sy){t:Nat}(h:t<aG.length):hv names (aG.take (t+1)) s t=hv names aG s t:=by
 have e:=RQ (names:=names) s (aG.drop (t+1)) (aG.take (t+1)) (t:=t) (by simp;omega)
 rw[List.take_append_drop]at e
 exact e.symm
theorem NO {ws:List (Int×Sy)}{V V':Sy->Bool}(h:∀ s,V s=V' s):qE ws V=qE ws V':=by
 have:V=V':=funext h
 rw[this]
theorem FI (g:Nat->Bool):∀ n s,((ng s n).filter fun t=>!g t).head? = if((ng s n).map g).contains false then some (s+((ng s n).map g).idxOf false)else none
 |0,s=>rfl
 |n+1,s=>by
  have ih:=FI g n (s+1)
  rw[ze,gb,aw,mn,km]
  cases hg:g s with
  |false=>simp
  |true =>
   simp only[fb,ak,if_false]
   rw[ih]
   simp only[show(false==true)=false from rfl,Ql,show(true==false)=false from rfl]
   split
   ·simp;omega
   ·rfl
theorem PM (g:Nat->Bool)(n:Nat):((((ai n).filter fun t=>!g t).map fun t=>D.int (t:Nat))++[D.non])[0]? = some (jY ((ai n).map g)):=by
 have h:=FI g n 0
 rw[<-List.range_eq_range']at h
 unfold jY
 cases hf:(ai n).filter fun t=>!g t with
 |nil =>
 rw[hf]at h
 split at h
 ·cases h
 ·rename_i hc;rw[if_neg hc];rfl
 |cons a l =>
 rw[hf]at h
 split at h
 ·rename_i hc
  rw[if_pos hc]
  simp only[List.head?_cons,Option.some.injEq,uj]at h
  rw[<-h];rfl
 ·cases h
theorem KG (g:Nat->Bool):∀ l:List Nat,(l.filterMap fun t=>if(!g t)=true then some (D.int (t:Nat))else none)=(l.filter fun t=>!g t).map fun t=>D.int (t:Nat)
 |[]=>rfl
 |a::l=>by
  rw[fu,gb,KG g l]
  cases g a<;>rfl
theorem BS (bs:List Bool):bC (jY bs)=true/\cJ (jY bs)<=0:=by
 unfold jY;split<;>exact⟨rfl,az _⟩
section
variable {G:Prog}{k il ibo ipl ils ill ik ibr inm ic im dD is ipr ibk ich icp ist ie iw ipo iz irr iti io iri ima nU iph inh ilo ifk imk itd ilx ibl ift ih:Nat}{st:aB}{E:XK}{ns:List Int}
theorem Hm {κ1 κ2:CK}(hc1:∃ P,st P=some (.cod κ1))(hc2:∃ P,st P=some (.cod κ2))(h:G.fns il=some (RD ibo ipl ils ill ik ibr))(hbo:G.fns ibo=some (BM inm dD is ipr))(kI:G.fns inm=some (CW dD))(hpr:G.fns ipr=some (CV is dD))(hs:G.fns is=some (oA dD is))(hn:G.fns dD=some (sI im))(hm:G.fns im=some (lK ic))(hc:G.fns ic=some mX)(cG:G.fns ipl=some (NG im))
  (hb:∀ b:Bk,b.Ok->fI b.says<bK->(∀ x∈b.says,aN x<=60)->(cL b.says []).length<=4->BY G ibk 13 b)(hch:G.fns ich=some (oH ibk))(hcp:G.fns icp=some (qL ist))(dN:G.fns ist=some mD)(hri:G.fns iri=some (tT iti io))(ht:G.fns iti=some (lU iz ie irr))(hz:G.fns iz=some (iL iw))(he:G.fns ie=some (oS ie iw ipo))(hw:G.fns iw=some gC)(hpo:G.fns ipo=some mO)(hrr:G.fns irr=some yI)(hio:G.fns io=some pH)
  (hma:G.fns ima=some DT)(hha:G.fns nU=some (zF iph inh))(hnh:G.fns inh=some AX)(hph:G.fns iph=some vY)(htd:G.fns itd=some (CC nU ima))(hls:G.fns ils=some (DG ich icp iri itd ilx κ1))(hlx:G.fns ilx=some (II ilo))(hlo:G.fns ilo=some GX)(hbr:G.fns ibr=some (DM ich icp iri itd ibl ift κ2))(hbl:G.fns ibl=some (ND ifk imk))(hfk:G.fns ifk=some OD)(hmk:G.fns imk=some NC)(hft:G.fns ift=some CG)
  (hh:G.fns ih=some (xG ih))(hk:G.fns ik=some (N8 ih))(hlo8:G.fns ill=some (HX ih)):aM G (k+16) il [.bI (ns.map .int)] st (fun d _=>d=.bl true) E:=by
 have hL:bK=16777216:=rfl
 rw[aY h]
 simp only[RD,start]
 refine⟨rfl,?_⟩
 walk_at"st"
 refine X8 (k:=k+8) hbo kI hpr hs hn hm hc (by decide) (by decide) (by decide) (by decide) fun b aC DR x1=>?_
 obtain⟨F1,F2,F3,F4⟩:=RM DR (by decide)
 have hB:=hb b DR.ok (by omega) F2 F3
 have f2:=DR.ok.f2
 have g2:=DR.ok.g2
 have hsy:=DW DR.ok
 have en:(b.fs.map D.str++b.gs.map D.str)=b.names.map .str:=by simp [Bk.names]
 have hn4:b.names.length<=4:=by simp [Bk.names];omega
 have hd:b.d=.tup [.tup (b.fs.map .str),.tup (b.gs.map .str),.tup (b.ps.map toD),.tup (b.ms.map toD),.tup (b.ws.map fun w=>.tup [.int w.1,toD w.2])]:=rfl
 have Q2:∀{Q:VK}{st:aB},lC b.d (.int 2) st Q=Q (.tup (b.ps.map toD)) st:=rfl
 have Q3:∀{Q:VK}{st:aB},lC b.d (.int 3) st Q=Q (.tup (b.ms.map toD)) st:=rfl
 have Q0:∀{Q:VK}{st:aB},lC b.d (.int 0) st Q=Q (.tup (b.fs.map .str)) st:=rfl
 have Q1:∀{Q:VK}{st:aB},lC b.d (.int 1) st Q=Q (.tup (b.gs.map .str)) st:=rfl
 walk_at"ex"
 walk_at"st"
 rw[Q0,Q1]
 walk_at"ex"
 refine⟨by simp only[ab];omega,?_⟩
 rw[en]
 walk_at"st"
 rw[ab]
 refine WK (k:=k+12) cG hm hc (by decide) hn4 (by decide) (by decide) fun l aF aG x2 hl2 hpb hpn=>?_
 walk_at"ex"
 walk_at"st"
 rw[aH hl2]
 refine bV (by simp only[ab];omega) fun g aU x3 hg hg3=>?_
 walk_at"ex"
 have l3:=x3 _ _ hl2
 walk_at"st"
 rw[fX l3]
 walk_at"ex"
 simp only[ab]
 refine⟨by unfold dC;omega,by unfold dC;omega,?_⟩
 rw[show((aG.length:Int)+1-1).toNat=aG.length by omega]
 have er:dX 1 aG.length=(ai aG.length).map fun t=>D.int ((1+t:Nat)):=by unfold dX;congr 1
 rw[er]
 refine bV (by simp only[ab,bw];omega) fun tl cN x4 htl htl4=>?_
 walk_at"ex"
 have l4:=x4 _ _ l3
 have g4:=x4 _ _ hg3
 walk_at"st"
 refine RW (k:=k) hls (hc1.imp fun P e=>x4 _ _ (x3 _ _ (x2 _ _ (x1 _ _ e)))) hch hB hcp dN hri ht hz he hw hpo hrr hio hma hha hnh hph htd hlx hlo DR.ok (by omega) (by omega) g4 hpb (by omega) fun u eJ hu x5 hu5=>?_
 have tl5:=x5 _ _ htl4
 walk_at"ex"
 rw[aH tl5]
 have pre:∀ t,t<aG.length->cut (aG.map eY) none (some ((1+t:Nat):Int))=(aG.take (t+1)).map eY:=fun t ht'=>by rw[UM _ (by simp;omega),Qj,Qv]
 have pfx:∀ t,t<aG.length->(aG.take (t+1)).length=t+1:=fun t ht'=>by simp;omega
 refine dO (fun t:Nat=>D.int ((1+t:Nat))) (fun t=>D.int (qE b.ws fun s=>hv b.names aG s t)) (ai aG.length) [] eJ (fun aS y a ha=>?_) (fun t ht' gJ K y6 hK=>?_) (by simp only[bc,bw];omega) fun gJ x6=>?_
 ·simp only[ay]at ha
  subst ha
  rw[tl5,y _ _ tl5]
 ·have ht1:t<aG.length:=by simpa using ht'
  have l6:=y6 _ _ (x5 _ _ l4)
  walk_at"ex"
  rw[aH l6]
  intro p1 hp1
  rw[pre t ht1]
  refine UJ (k:=k+6) hlo8 hh DR.ok aW (fun bs hbs=>hpb bs (v7 hbs)) (by rw[pfx t ht1];omega) (by rw[pfx t ht1];omega) fun lD x7=>?_
  rw[pfx t ht1,show t+1-1=t by omega,NO fun s=>LH aG s ht1]
  exact hK lD ((Ext.new hp1).trans x7)
 rw[av]
 refine bV (by simp only[ab,bw];omega) fun v lD x7 hv0 hv7=>?_
 have u7:=x7 _ _ (x6 _ _ hu5)
 have pI:=GL (fun t:Nat=>D.int (qE b.ws fun s=>hv b.names aG s t)) (n:=0) (fun _=>⟨rfl,az _⟩) (ai aG.length)
 have pl7:∀ r,lD r=some (.lst ((ai aG.length).map fun t=>D.int (qE b.ws fun s=>hv b.names aG s t)))->plainS lD (.ref r):=fun r hr=>by
  refine⟨?_,df _⟩
  simp only[fG,hr,HZ,pI.1,fy,decide_eq_true_eq]
  exact c7 pI.2 (by decide)
 refine⟨pl7 _ u7,pl7 _ hv7,?_⟩
 simp only[bO,u7,hv7,AQ]
 rw[uR _ pI.1]
 walk_at"ex"
 simp only[fb,ak,if_false,aE]
 walk_at"st"
 refine bV (by simp) fun du fZ x8 hdu hdu8=>?_
 walk_at"ex"
 have x58:=x5.trans (x6.trans (x7.trans x8))
 have l8:=x58 _ _ l4
 have tl8:=x58 _ _ htl4
 have g8:=x58 _ _ g4
 walk_at"st"
 rw[Q2,Q3]
 walk_at"ex"
 have dul:l≠du:=fun z=>by rw[<-z,x7 _ _ (x6 _ _ (x5 _ _ l4))]at hdu;cases hdu
 have dut:tl≠du:=fun z=>by rw[<-z,x7 _ _ (x6 _ _ (x5 _ _ htl4))]at hdu;cases hdu
 have dug:g≠du:=fun z=>by rw[<-z,x7 _ _ (x6 _ _ (x5 _ _ g4))]at hdu;cases hdu
 have e2l:[D.tup (b.ps.map toD),D.tup (b.ms.map toD)]=[b.ps,b.ms].map fun ss=>D.tup (ss.map toD):=rfl
 rw[e2l]
 have hss2:∀ ss∈[b.ps,b.ms],(∀ s∈ss,over b.names s/\aN s<=8)/\ss.length<=1000:=fun ss hss=>by
  have p1:=DR.ok.p1
  have m1:=DR.ok.m1
  simp only[fz,ee,or_false]at hss
  rcases hss with rfl|rfl
  ·exact⟨DR.ok.p2,by omega⟩
  ·exact⟨DR.ok.m2,by omega⟩
 refine mZ (fun ss:List Sy=>D.tup (ss.map toD)) (I:=fun rest σ aA=>∃ dn o7 o8,[b.ps,b.ms]=dn++rest/\σ=[some (.bI (ns.map .int)),some b.d,some (.tup (b.names.map .str)),some (.ref l),some (.ref g),some (.ref tl),some (.ref du),o7,o8]/\bR [du] fZ aA/\aA du=some (.lst (dn.map fun ss=>jY ((ai aG.length).map fun t=>cU ss fun s=>hv b.names aG s t)))) (fun rest σ aA h=>fun a ha=>by cases ha) (fun ss rest σ aA M h hM=>?_) (fun σ aA h=>?_) _ _ _ ⟨[],none,none,rfl,rfl,.refl,hdu8⟩
 ·obtain⟨dn,o7,o8,e1,e2,k9,du9⟩:=h
  subst e2
  obtain⟨hss,hsl⟩:=hss2 ss (by rw[e1];simp)
  have hdn:dn.length<=2:=by have:=congrArg zi e1;simp at this;omega
  have l9:=k9 _ _ (by simp [dul]) l8
  have tl9:=k9 _ _ (by simp [dut]) tl8
  walk_at"st"
  rw[aH tl9]
  refine kK (fun t:Nat=>D.int ((1+t:Nat))) (fun t=>if(!(cU ss fun s=>hv b.names aG s t))=true then some (D.int (t:Nat))else none) (ai aG.length) [] aA (fun aS y a ha=>?_) (fun t ht' sT K y9 hK=>?_) (by simp only[bc,bw];omega) fun sT x9=>?_
  ·simp only[ay]at ha
   subst ha
   rw[tl9,y _ _ tl9]
  ·have ht1:t<aG.length:=by simpa using ht'
   have la:=y9 _ _ l9
   walk_at"ex"
   rw[aH la]
   intro p1 hp1
   rw[pre t ht1]
   refine Y4 (k:=k+6) hk hh hss hsl aW (fun bs hbs=>hpb bs (v7 hbs)) (by rw[pfx t ht1];omega) (by rw[pfx t ht1];omega) fun sta xa=>?_
   have eK:(ss.all fun s=>hv b.names (aG.take (t+1)) s ((aG.take (t+1)).length-1))=cU ss fun s=>hv b.names aG s t:=by
    rw[pfx t ht1,show t+1-1=t by omega]
    unfold cU
    congr 1
    funext s
    exact LH aG s ht1
   rw[eK]
   walk_at"ex"
   have:=hK sta ((Ext.new hp1).trans xa)
   have e1t:((1+t:Nat):Int)-1=(t:Int):=by omega
   cases hv1:cU ss fun s=>hv b.names aG s t with
   |true=>rw[hv1]at this;simpa using this
   |false =>
    rw[hv1]at this
    simp only[j7,if_true]at this ⊢
    walk_at"ex"
    rw[e1t]
    exact this
  rw[av,KG]
  refine bV (by have:=jr (fun t=>!(cU ss fun s=>hv b.names aG s t)) (ai aG.length);simp only[bw]at this;simp only[ab];omega) fun bl sta xa hbl hbla=>?_
  walk_at"ex"
  have du_a:=xa _ _ (x9 _ _ du9)
  walk_at"st"
  rw[aH du_a]
  refine⟨True.intro,?_⟩
  refine bV (by show 1<=bK;decide) fun nl stb xb hnl hnlb=>?_
  rw[L7,aH (xb _ _ hbla),aH hnlb]
  refine bV (by have:=jr (fun t=>!(cU ss fun s=>hv b.names aG s t)) (ai aG.length);simp only[bw]at this;simp only[bq,ab,bj,bc];omega) fun sl stc xc hsl0 hslc=>?_
  have du_c:=xc _ _ (xb _ _ du_a)
  walk_at"ex"
  rw[eQ hslc,show(0:Int)=((0:Nat):Int)from rfl,dW (by simp),PM,aZ]
  walk_at"ex"
  rw[aH du_c]
  refine⟨by simp only[ab];omega,?_⟩
  simp only[aE]
  refine hM _ _ ⟨dn++[ss],_,_,by simp [e1],rfl,(k9.trans (x9.trans (xa.trans (xb.trans xc))).keep).trans (bR.put (by simp)),?_⟩
  rw[aW];simp
 ·obtain⟨dn,o7,o8,e1,e2,k9,du9⟩:=h
  subst e2
  rw[el]at e1
  subst e1
  have g9:=k9 _ _ (by simp [dug]) g8
  have l9:=k9 _ _ (by simp [dul]) l8
  walk_at"st"
  refine PC (k:=k) hbr (hc2.imp fun P e=>by
   have e8:=x58 _ _ (x4 _ _ (x3 _ _ (x2 _ _ (x1 _ _ e))))
   exact k9 _ _ (fun z=>by simp only[ay]at z;rw[z,hdu8]at e8;cases e8) e8) hch hB hcp dN hri ht hz he hw hpo hrr hio hma hha hnh hph htd hbl hfk hmk hft DR.ok (by omega) (by omega) g9 hpb (by omega) fun EG x10=>?_
  have du10:=x10 _ _ du9
  walk_at"ex"
  rw[aH du10]
  refine⟨by show 2<=bK;decide,?_⟩
  have p1:=BS ((ai aG.length).map fun t=>cU b.ps fun s=>hv b.names aG s t)
  have p2:=BS ((ai aG.length).map fun t=>cU b.ms fun s=>hv b.names aG s t)
  simp only[aw,gz]
  generalize jY ((ai aG.length).map fun t=>cU b.ps fun s=>hv b.names aG s t)=A at p1
  generalize jY ((ai aG.length).map fun t=>cU b.ms fun s=>hv b.names aG s t)=A' at p2
  have pt:bC (.tup [A,A'])=true:=by simp only[bC,bM,p1.1,p2.1,dt]
  have pd:cJ (.tup [A,A'])<=1:=by simp only[cJ,cK];omega
  have ps:plainS EG (.tup [A,A']):=⟨uU _ pt,by have:kW=80:=rfl;omega⟩
  refine⟨ps,ps,?_⟩
  rw[LN _ pt]
  walk_at"ex"
  have g10:=x10 _ _ g9
  have l10:=x10 _ _ l9
  refine⟨BU g10,BU l10,?_⟩
  simp only[bO,g10,l10,AQ]
  rw[uR _ (CO aG).1]
end
end L3
end
end
namespace L3
open PySem PySem.Spec PyProof.Rows L2
noncomputable def g_LETTERS:D:=(.str (W "abcdefghijklmnopqrstuvwxyz"))
noncomputable def g_LONGEST_NAME:D:=(.int 8)
noncomputable def g_NO_NAMES:D:=(.tup [(.str (W "yes")),(.str (W "no")),(.str (W "not")),(.str (W "and")),(.str (W "or")),(.str (W "then")),(.str (W "same")),(.str (W "before")),(.str (W "once")),(.str (W "sofar")),(.str (W "since")),(.str (W "foe")),(.str (W "friend")),(.str (W "promise")),(.str (W "must")),(.str (W "wish"))])
noncomputable def g_DEEPEST:D:=(.int 8)
noncomputable def g_SAYINGS_WITHIN:D:=(.cV [(.str (W "yes")),(.str (W "no")),(.str (W "not")),(.str (W "before")),(.str (W "once")),(.str (W "sofar")),(.str (W "and")),(.str (W "or")),(.str (W "then")),(.str (W "same")),(.str (W "since"))] [(.int 0),(.int 0),(.int 1),(.int 1),(.int 1),(.int 1),(.int 2),(.int 2),(.int 2),(.int 2),(.int 2)])
noncomputable def g_PAST_WORDS:D:=(.tup [(.str (W "before")),(.str (W "once")),(.str (W "sofar")),(.str (W "since"))])
noncomputable def g_MOST_LAMPS:D:=(.int 2)
noncomputable def g_MOST_PROMISES:D:=(.int 3)
noncomputable def g_MOST_MUSTS:D:=(.int 3)
noncomputable def g_MOST_WISHES:D:=(.int 5)
noncomputable def g_HIGHEST_PRICE:D:=(.int 99)
noncomputable def g_MOST_PIECES:D:=(.int 4)
noncomputable abbrev yF:Nat:=0
noncomputable abbrev sY:Nat:=1
noncomputable abbrev kS:Nat:=2
noncomputable abbrev fN:Nat:=3
noncomputable abbrev oK:Nat:=4
noncomputable abbrev mC:Nat:=5
noncomputable abbrev AA:Nat:=6
noncomputable abbrev pQ:Nat:=7
noncomputable abbrev pV:Nat:=8
noncomputable abbrev uB:Nat:=9
noncomputable abbrev C7:Nat:=10
noncomputable abbrev GF:Nat:=11
noncomputable abbrev yC:Nat:=12
noncomputable abbrev nF:Nat:=13
noncomputable abbrev wW:Nat:=14
noncomputable abbrev xF:Nat:=15
noncomputable abbrev AJ:Nat:=16
noncomputable abbrev yP:Nat:=17
noncomputable abbrev qW:Nat:=18
noncomputable abbrev pP:Nat:=19
noncomputable abbrev rB:Nat:=20
noncomputable abbrev lN:Nat:=21
noncomputable abbrev sD:Nat:=22
noncomputable abbrev nJ:Nat:=23
noncomputable abbrev lW:Nat:=24
noncomputable abbrev lE:Nat:=25
noncomputable abbrev jG:Nat:=26
noncomputable abbrev nI:Nat:=27
noncomputable abbrev xM:Nat:=28
noncomputable abbrev oF:Nat:=29
noncomputable abbrev nZ:Nat:=30
noncomputable abbrev jP:Nat:=31
noncomputable abbrev tM:Nat:=32
noncomputable abbrev HU:Nat:=33
noncomputable abbrev uL:Nat:=34
noncomputable abbrev mU:Nat:=35
noncomputable abbrev cT:Nat:=36
noncomputable abbrev xE:Nat:=37
noncomputable abbrev eG:Nat:=38
noncomputable abbrev tO:Nat:=39
noncomputable abbrev zQ:Nat:=40
noncomputable abbrev AO:Nat:=41
noncomputable abbrev dY:Nat:=42
noncomputable abbrev AF:Nat:=43
noncomputable abbrev AL:Nat:=44
noncomputable abbrev VH:Nat:=45
noncomputable abbrev qT:Nat:=47
noncomputable abbrev lL:Nat:=46
noncomputable def gZ:CK:=⟨281,202,43,W "losses.<locals>.<lambda>"⟩
noncomputable def eE:CK:=⟨274,196,43,W "first_breaks.<locals>.<lambda>"⟩
noncomputable def FJ:Fn:=⟨1,1,[.iff (.or_ (.not_ (.isi (.v 0) [.str])) (.cmp .in_ (.v 0) (.c g_NO_NAMES))) [.ret (.c (.bl false))] [],.ret (.and_ (.chain .le .le (.c (.int 1)) (.bi .len [(.v 0)]) (.c g_LONGEST_NAME)) (.bi .all [(.comp 1 [] [0] true none [(.v 0)] [] (.cmp .in_ (.v 0) (.c g_LETTERS)))]))]⟩
noncomputable def zW:Fn:=⟨2,2,[.ret (.call kS [(.v 0),(.v 1),(.c g_DEEPEST)])]⟩
noncomputable def oV:Fn:=⟨3,3,[.iff (.or_ (.cmp .lt (.v 2) (.c (.int 1))) (.or_ (.not_ (.isi (.v 1) [.tuple])) (.or_ (.cmp .lt (.bi .len [(.v 1)]) (.c (.int 1))) (.not_ (.isi (.ix (.v 1) (.c (.int 0))) [.str]))))) [.ret (.c (.bl false))] [],.iff (.cmp .eq (.ix (.v 1) (.c (.int 0))) (.c (.str (W "lamp")))) [.ret (.and_ (.cmp .eq (.bi .len [(.v 1)]) (.c (.int 2))) (.and_ (.call yF [(.ix (.v 1) (.c (.int 1)))]) (.cmp .in_ (.ix (.v 1) (.c (.int 1))) (.v 0))))] [],.iff (.or_ (.cmp .jT (.ix (.v 1) (.c (.int 0))) (.c g_SAYINGS_WITHIN)) (.cmp .ne (.bi .len [(.v 1)]) (.bin .add (.c (.int 1)) (.ix (.c g_SAYINGS_WITHIN) (.ix (.v 1) (.c (.int 0))))))) [.ret (.c (.bl false))] [],.ret (.bi .all [(.comp 1 [0,2] [0] true none [(.sl (.v 1) [(.c (.int 1))] [])] [] (.call kS [(.v 1),(.v 0),(.bin .sub (.v 2) (.c (.int 1)))]))])]⟩
noncomputable def rG:Fn:=⟨1,1,[.iff (.cmp .eq (.ix (.v 0) (.c (.int 0))) (.c (.str (W "lamp")))) [.ret (.tup [])] [],.ret (.sl (.v 0) [(.c (.int 1))] [])]⟩
noncomputable def zZ:Fn:=⟨1,4,[.asg (.nm 1) (.lst []),.asg (.nm 2) (.bit .list .rev [(.v 0)]),.whl (.v 2) [.asg (.nm 3) (.cD .pop (.v 2) []),.iff (.and_ (.cmp .in_ (.ix (.v 3) (.c (.int 0))) (.c g_PAST_WORDS)) (.cmp .jT (.v 3) (.v 1))) [.ex (.cD .append (.v 1) [(.v 3)])] [],.ex (.cD .extend (.v 2) [(.bit .list .rev [(.call fN [(.v 3)])])])],.ret (.v 1)]⟩
noncomputable def JP:Fn:=⟨3,3,[.ret (.and_ (.isi (.v 0) [.tuple]) (.chain .le .le (.v 1) (.bi .len [(.v 0)]) (.v 2)))]⟩
noncomputable def AV:Fn:=⟨2,3,[.iff (.or_ (.not_ (.call mC [(.v 0),(.c (.int 1)),(.c g_MOST_LAMPS)])) (.not_ (.call mC [(.v 1),(.c (.int 1)),(.c g_MOST_LAMPS)]))) [.ret (.c (.bl false))] [],.asg (.nm 2) (.bin .add (.v 0) (.v 1)),.ret (.and_ (.bi .all [(.comp 1 [] [0] true none [(.v 2)] [] (.call yF [(.v 0)]))]) (.cmp .eq (.bi .rS [(.v 2)]) (.bi .len [(.v 2)])))]⟩
noncomputable def wJ:Fn:=⟨3,3,[.ret (.and_ (.call mC [(.v 1),(.c (.int 0)),(.v 2)]) (.bi .all [(.comp 1 [0] [0] true none [(.v 1)] [] (.call sY [(.v 1),(.v 0)]))]))]⟩
noncomputable def wF:Fn:=⟨2,2,[.iff (.cmp .eq (.ix (.v 1) (.c (.int 0))) (.c (.str (W "before")))) [.ret (.c (.bl false))] [],.iff (.cmp .eq (.ix (.v 1) (.c (.int 0))) (.c (.str (W "lamp")))) [.ret (.cmp .in_ (.ix (.v 1) (.c (.int 1))) (.v 0))] [],.ret (.bi .any [(.comp 1 [0] [0] true none [(.call fN [(.v 1)])] [] (.call pV [(.v 1),(.v 0)]))])]⟩
noncomputable def tI:Fn:=⟨3,3,[.ret (.and_ (.call pQ [(.v 0),(.v 2),(.c g_MOST_PROMISES)]) (.not_ (.bi .any [(.comp 1 [1] [0] true none [(.v 2)] [] (.call pV [(.v 1),(.v 0)]))])))]⟩
noncomputable def CM:Fn:=⟨1,1,[.ret (.and_ (.isi (.v 0) [.int]) (.and_ (.not_ (.isi (.v 0) [.bool])) (.chain .le .le (.c (.int 1)) (.v 0) (.c g_HIGHEST_PRICE))))]⟩
noncomputable def EO:Fn:=⟨2,2,[.ret (.and_ (.call mC [(.v 1),(.c (.int 2)),(.c (.int 2))]) (.and_ (.call C7 [(.ix (.v 1) (.c (.int 0)))]) (.call sY [(.v 0),(.ix (.v 1) (.c (.int 1)))])))]⟩
noncomputable def xU:Fn:=⟨2,2,[.ret (.and_ (.call mC [(.v 1),(.c (.int 1)),(.c g_MOST_WISHES)]) (.bi .all [(.comp 1 [0] [0] true none [(.v 1)] [] (.call GF [(.v 1),(.v 0)]))]))]⟩
noncomputable def xC:Fn:=⟨3,3,[.ret (.bin .add (.bin .add (.bi .list [(.v 0)]) (.bi .list [(.v 1)])) (.comp 1 [] [0] true none [(.v 2)] [] (.ix (.v 0) (.c (.int 1)))))]⟩
noncomputable def GK:Fn:=⟨1,6,[.iff (.or_ (.not_ (.call mC [(.v 0),(.c (.int 5)),(.c (.int 5))])) (.not_ (.call AA [(.ix (.v 0) (.c (.int 0))),(.ix (.v 0) (.c (.int 1)))]))) [.ret (.c (.bl false))] [],.asg (.nm 1) (.ix (.v 0) (.c (.int 1))),.asg (.nm 2) (.bin .add (.ix (.v 0) (.c (.int 0))) (.v 1)),.asg (.nm 3) (.ix (.v 0) (.c (.int 2))),.asg (.nm 4) (.ix (.v 0) (.c (.int 3))),.asg (.nm 5) (.ix (.v 0) (.c (.int 4))),.iff (.or_ (.not_ (.call uB [(.v 2),(.v 1),(.v 3)])) (.not_ (.call pQ [(.v 2),(.v 4),(.c g_MOST_MUSTS)]))) [.ret (.c (.bl false))] [],.ret (.and_ (.call yC [(.v 2),(.v 5)]) (.cmp .le (.bi .len [(.call oK [(.call nF [(.v 3),(.v 4),(.v 5)])])]) (.c g_MOST_PIECES)))]⟩
noncomputable def FZ:Fn:=⟨1,1,[.iff (.not_ (.call wW [(.v 0)])) [.rais 2 [(.c (.str (W "no book")))]] [],.ret (.v 0)]⟩
noncomputable def AG:Fn:=⟨2,2,[.iff (.cmp .eq (.v 0) (.c (.str (W "not")))) [.ret (.not_ (.ix (.v 1) (.c (.int 0))))] [],.iff (.cmp .eq (.v 0) (.c (.str (W "and")))) [.ret (.and_ (.ix (.v 1) (.c (.int 0))) (.ix (.v 1) (.c (.int 1))))] [],.iff (.cmp .eq (.v 0) (.c (.str (W "or")))) [.ret (.or_ (.ix (.v 1) (.c (.int 0))) (.ix (.v 1) (.c (.int 1))))] [],.iff (.cmp .eq (.v 0) (.c (.str (W "then")))) [.ret (.or_ (.ix (.v 1) (.c (.int 1))) (.not_ (.ix (.v 1) (.c (.int 0)))))] [],.iff (.cmp .eq (.v 0) (.c (.str (W "same")))) [.ret (.cmp .eq (.ix (.v 1) (.c (.int 0))) (.ix (.v 1) (.c (.int 1))))] [],.ret (.cmp .eq (.v 0) (.c (.str (W "yes"))))]⟩
noncomputable def xY:Fn:=⟨3,3,[.iff (.cmp .eq (.v 0) (.c (.str (W "before")))) [.ret (.v 1)] [],.iff (.cmp .eq (.v 0) (.c (.str (W "once")))) [.ret (.or_ (.v 1) (.ix (.v 2) (.c (.int 0))))] [],.iff (.cmp .eq (.v 0) (.c (.str (W "sofar")))) [.ret (.and_ (.v 1) (.ix (.v 2) (.c (.int 0))))] [],.ret (.or_ (.ix (.v 2) (.c (.int 1))) (.and_ (.v 1) (.ix (.v 2) (.c (.int 0)))))]⟩
noncomputable def qZ:Fn:=⟨3,4,[.asg (.fl (W "Table") (W "names") (.v 0)) (.v 1),.asg (.fl (W "Table") (W "pieces") (.v 0)) (.call oK [(.v 2)]),.asg (.fl (W "Table") (W "rows") (.v 0)) (.lst []),.asg (.fl (W "Table") (W "row_of") (.v 0)) .dnew,.hJ (.nm 3) none [(.v 2)] [.ex (.mcl (W "Table") (W "enter") pP (.v 0) [(.v 3)])],.asg (.fl (W "Table") (W "first_memory") (.v 0)) (.bi .tuple [(.comp 1 [] [0] true none [(.fld (W "Table") (W "pieces") (.v 0))] [] (.cmp .eq (.ix (.v 0) (.c (.int 0))) (.c (.str (W "sofar")))))]),.asg (.fl (W "Table") (W "remembered_rows") (.v 0)) (.comp 1 [0] [0] true none [(.fld (W "Table") (W "pieces") (.v 0))] [] (.mcl (W "Table") (W "remembered_row") lN (.v 1) [(.v 0)]))]⟩
noncomputable def wG:Fn:=⟨2,4,[.iff (.din false (.v 1) (.fld (W "Table") (W "row_of") (.v 0))) [.ret (.c .non)] [],.hJ (.nm 2) none [(.call fN [(.v 1)])] [.ex (.mcl (W "Table") (W "enter") pP (.v 0) [(.v 2)])],.asg (.nm 3) (.comp 1 [0] [0] true none [(.call fN [(.v 1)])] [] (.dix (.fld (W "Table") (W "row_of") (.v 1)) (.v 0))),.asg (.dk (.fld (W "Table") (W "row_of") (.v 0)) (.v 1)) (.bi .len [(.fld (W "Table") (W "rows") (.v 0))]),.ex (.cD .append (.fld (W "Table") (W "rows") (.v 0)) [(.tup [(.ix (.v 1) (.c (.int 0))),(.mcl (W "Table") (W "place_of") rB (.v 0) [(.v 1)]),(.v 3)])])]⟩
noncomputable def rH:Fn:=⟨2,2,[.iff (.cmp .eq (.ix (.v 1) (.c (.int 0))) (.c (.str (W "lamp")))) [.ret (.cD .index (.fld (W "Table") (W "names") (.v 0)) [(.ix (.v 1) (.c (.int 1)))])] [],.iff (.cmp .in_ (.ix (.v 1) (.c (.int 0))) (.c g_PAST_WORDS)) [.ret (.cD .index (.fld (W "Table") (W "pieces") (.v 0)) [(.v 1)])] [],.ret (.c .non)]⟩
noncomputable def lM:Fn:=⟨2,2,[.iff (.cmp .eq (.ix (.v 1) (.c (.int 0))) (.c (.str (W "before")))) [.ret (.dix (.fld (W "Table") (W "row_of") (.v 0)) (.ix (.v 1) (.c (.int 1))))] [],.ret (.dix (.fld (W "Table") (W "row_of") (.v 0)) (.v 1))]⟩
noncomputable def sG:Fn:=⟨3,8,[.asg (.nm 3) (.lst []),.hJ (.tp [4,5,6]) none [(.fld (W "Table") (W "rows") (.v 0))] [.asg (.nm 7) (.comp 1 [3] [0] true none [(.v 6)] [] (.ix (.v 1) (.v 0))),.iff (.cmp .eq (.v 4) (.c (.str (W "lamp")))) [.ex (.cD .append (.v 3) [(.ix (.v 2) (.v 5))])] [.iff (.cmp .in_ (.v 4) (.c g_PAST_WORDS)) [.ex (.cD .append (.v 3) [(.call yP [(.v 4),(.ix (.v 1) (.v 5)),(.v 7)])])] [.ex (.cD .append (.v 3) [(.call AJ [(.v 4),(.v 7)])])]]],.ret (.v 3)]⟩
noncomputable def nN:Fn:=⟨2,2,[.ret (.bi .tuple [(.comp 1 [1] [0] true none [(.fld (W "Table") (W "remembered_rows") (.v 0))] [] (.ix (.v 1) (.v 0)))])]⟩
noncomputable def rJ:Fn:=⟨2,2,[.asg (.fl (W "Rules") (W "table") (.v 0)) (.mk (W "Table") qW [(.bin .add (.ix (.v 1) (.c (.int 0))) (.ix (.v 1) (.c (.int 1)))),(.call nF [(.ix (.v 1) (.c (.int 2))),(.ix (.v 1) (.c (.int 3))),(.ix (.v 1) (.c (.int 4)))])]),.asg (.fl (W "Rules") (W "promise_rows") (.v 0)) (.comp 1 [0] [0] true none [(.ix (.v 1) (.c (.int 2)))] [] (.dix (.fld (W "Table") (W "row_of") (.fld (W "Rules") (W "table") (.v 1))) (.v 0))),.asg (.fl (W "Rules") (W "must_rows") (.v 0)) (.comp 1 [0] [0] true none [(.ix (.v 1) (.c (.int 3)))] [] (.dix (.fld (W "Table") (W "row_of") (.fld (W "Rules") (W "table") (.v 1))) (.v 0))),.asg (.fl (W "Rules") (W "priced_rows") (.v 0)) (.comp 1 [0] [0] true none [(.ix (.v 1) (.c (.int 4)))] [] (.tup [(.ix (.v 0) (.c (.int 0))),(.dix (.fld (W "Table") (W "row_of") (.fld (W "Rules") (W "table") (.v 1))) (.ix (.v 0) (.c (.int 1))))]))]⟩
noncomputable def qC:Fn:=⟨2,2,[.ret (.bi .all [(.comp 1 [1] [0] true none [(.fld (W "Rules") (W "promise_rows") (.v 0))] [] (.ix (.v 1) (.v 0)))])]⟩
noncomputable def mT:Fn:=⟨2,2,[.ret (.bi .all [(.comp 1 [1] [0] true none [(.fld (W "Rules") (W "must_rows") (.v 0))] [] (.ix (.v 1) (.v 0)))])]⟩
noncomputable def sH:Fn:=⟨2,2,[.ret (.bi .sum [(.comp 2 [1] [0,1] false none [(.fld (W "Rules") (W "priced_rows") (.v 0))] [(.not_ (.ix (.v 2) (.v 1)))] (.v 0))])]⟩
noncomputable def xR:Fn:=⟨2,2,[.ret (.and_ (.isi (.v 0) [.tuple]) (.and_ (.cmp .eq (.bi .len [(.v 0)]) (.v 1)) (.bi .all [(.comp 1 [] [0] true none [(.v 0)] [] (.isi (.v 0) [.bool]))])))]⟩
noncomputable def uC:Fn:=⟨2,3,[.asg (.nm 2) (.bin .add (.bi .len [(.ix (.v 0) (.c (.int 0)))]) (.bi .len [(.ix (.v 0) (.c (.int 1)))])),.iff (.or_ (.not_ (.isi (.v 1) [.list])) (.not_ (.bi .all [(.comp 1 [2] [0] true none [(.v 1)] [] (.call xM [(.v 0),(.v 1)]))]))) [.rais 3 [(.c (.str (W "no play for this book")))]] [],.ret (.v 1)]⟩
noncomputable def tV:Fn:=⟨3,7,[.asg (.nm 3) (.lst []),.asg (.nm 4) (.fld (W "Table") (W "first_memory") (.v 0)),.hJ (.nm 5) none [(.v 1)] [.asg (.nm 6) (.mcl (W "Table") (W "held_at") sD (.v 0) [(.v 4),(.v 5)]),.ex (.cD .append (.v 3) [(.cv 2 [(.v 6)])]),.asg (.nm 4) (.mcl (W "Table") (W "memory_after") nJ (.v 0) [(.v 6)])],.ret (.v 3)]⟩
noncomputable def nC:Fn:=⟨1,1,[.iff (.cmp .in_ (.c (.bl false)) (.v 0)) [.ret (.cD .index (.v 0) [(.c (.bl false))])] [],.ret (.c .non)]⟩
noncomputable def tY:Fn:=⟨2,4,[.ex (.call xF [(.v 0)]),.ex (.call oF [(.v 0),(.v 1)]),.asg (.nm 2) (.mk (W "Rules") lW [(.v 0)]),.asg (.nm 3) (.callL nZ [(.fld (W "Rules") (W "table") (.v 2)),(.v 1)] lL [2] eE),.ret (.tup [(.call jP [(.comp 1 [] [0] true none [(.v 3)] [] (.ix (.v 0) (.c (.int 0))))]),(.call jP [(.comp 1 [] [0] true none [(.v 3)] [] (.ix (.v 0) (.c (.int 1))))])])]⟩
noncomputable def KR:Fn:=⟨2,3,[.ex (.call xF [(.v 0)]),.ex (.call oF [(.v 0),(.v 1)]),.asg (.nm 2) (.mk (W "Rules") lW [(.v 0)]),.ret (.callL nZ [(.fld (W "Rules") (W "table") (.v 2)),(.v 1)] qT [2] gZ)]⟩
noncomputable def tN:Fn:=⟨2,2,[.iff (.cmp .lt (.v 1) (.bi .len [(.v 0)])) [.ret (.ix (.v 0) (.v 1))] [],.iff (.cmp .eq (.v 0) (.lst [])) [.ret (.c (.int 0))] [],.ret (.bin .add (.bin .mul (.ix (.v 0) (.bin .mod (.v 1) (.bi .len [(.v 0)]))) (.c (.int 31))) (.v 1))]⟩
noncomputable def yK:Fn:=⟨3,4,[.asg (.nm 3) (.bin .mod (.bin .mul (.bin .add (.bin .add (.call uL [(.v 0),(.v 1)]) (.bin .mul (.c (.int 7919)) (.v 1))) (.c (.int 1))) (.c (.int 48271))) (.c (.int 2147483647))),.ret (.bin .mod (.bin .mod (.bin .add (.bin .add (.bin .mul (.v 3) (.v 3)) (.bin .mul (.c (.int 7)) (.v 3))) (.v 1)) (.c (.int 2147483629))) (.v 2))]⟩
noncomputable def zV:Fn:=⟨3,3,[.asg (.ix (.v 1) (.c (.int 0))) (.bin .add (.ix (.v 1) (.c (.int 0))) (.c (.int 1))),.ret (.call mU [(.v 0),(.ix (.v 1) (.c (.int 0))),(.v 2)])]⟩
noncomputable def yB:Fn:=⟨2,7,[.asg (.nm 2) (.lst [(.c (.str (W "a"))),(.c (.str (W "b"))),(.c (.str (W "x"))),(.c (.str (W "y"))),(.c (.str (W "lamp"))),(.c (.str (W "far"))),(.c (.str (W "yesno"))),(.c (.str (W "abcdefgh")))]),.asg (.nm 3) (.call cT [(.v 0),(.v 1),(.c (.int 8))]),.asg (.nm 4) (.bin .add (.sl (.v 2) [(.v 3)] []) (.sl (.v 2) [] [(.v 3)])),.asg (.nm 5) (.bin .add (.c (.int 1)) (.call cT [(.v 0),(.v 1),(.c (.int 2))])),.asg (.nm 6) (.bin .add (.c (.int 1)) (.call cT [(.v 0),(.v 1),(.c (.int 2))])),.ret (.tup [(.bi .tuple [(.sl (.v 4) [] [(.v 5)])]),(.bi .tuple [(.sl (.v 4) [(.v 5)] [(.bin .add (.v 5) (.v 6))])])])]⟩
noncomputable def wH:Fn:=⟨5,7,[.asg (.nm 5) (.call cT [(.v 0),(.v 1),(.c (.int 13))]),.iff (.or_ (.cmp .eq (.v 3) (.c (.int 0))) (.cmp .lt (.v 5) (.c (.int 3)))) [.ret (.tup [(.c (.str (W "lamp"))),(.ix (.v 2) (.call cT [(.v 0),(.v 1),(.bi .len [(.v 2)])]))])] [],.iff (.cmp .eq (.v 5) (.c (.int 3))) [.ret (.tup [(.ix (.lst [(.c (.str (W "yes"))),(.c (.str (W "no")))]) (.call cT [(.v 0),(.v 1),(.c (.int 2))]))])] [],.iff (.and_ (.cmp .gt (.v 5) (.c (.int 8))) (.cmp .gt (.ix (.v 4) (.c (.int 0))) (.c (.int 0)))) [.asg (.ix (.v 4) (.c (.int 0))) (.bin .sub (.ix (.v 4) (.c (.int 0))) (.c (.int 1))),.asg (.nm 6) (.call eG [(.v 0),(.v 1),(.v 2),(.bin .sub (.v 3) (.c (.int 1))),(.v 4)]),.iff (.cmp .eq (.v 5) (.c (.int 12))) [.ret (.tup [(.c (.str (W "since"))),(.v 6),(.call eG [(.v 0),(.v 1),(.v 2),(.bin .sub (.v 3) (.c (.int 1))),(.v 4)])])] [],.ret (.tup [(.ix (.lst [(.c (.str (W "before"))),(.c (.str (W "once"))),(.c (.str (W "sofar")))]) (.bin .sub (.v 5) (.c (.int 9)))),(.v 6)])] [],.asg (.nm 6) (.call eG [(.v 0),(.v 1),(.v 2),(.bin .sub (.v 3) (.c (.int 1))),(.v 4)]),.iff (.or_ (.cmp .eq (.v 5) (.c (.int 4))) (.cmp .gt (.v 5) (.c (.int 8)))) [.ret (.tup [(.c (.str (W "not"))),(.v 6)])] [],.ret (.tup [(.ix (.lst [(.c (.str (W "and"))),(.c (.str (W "or"))),(.c (.str (W "then"))),(.c (.str (W "same")))]) (.bin .sub (.v 5) (.c (.int 5)))),(.v 6),(.call eG [(.v 0),(.v 1),(.v 2),(.bin .sub (.v 3) (.c (.int 1))),(.v 4)])])]⟩
noncomputable def uJ:Fn:=⟨5,7,[.asg (.nm 5) (.call eG [(.v 0),(.v 1),(.v 2),(.c (.int 1)),(.lst [(.c (.int 0))])]),.iff (.and_ (.cmp .gt (.ix (.v 4) (.c (.int 0))) (.c (.int 0))) (.cmp .eq (.call cT [(.v 0),(.v 1),(.c (.int 2))]) (.c (.int 1)))) [.asg (.ix (.v 4) (.c (.int 0))) (.bin .sub (.ix (.v 4) (.c (.int 0))) (.c (.int 1))),.asg (.nm 6) (.call eG [(.v 0),(.v 1),(.v 3),(.c (.int 1)),(.lst [(.c (.int 0))])]),.ret (.tup [(.ix (.lst [(.c (.str (W "then"))),(.c (.str (W "or"))),(.c (.str (W "same")))]) (.call cT [(.v 0),(.v 1),(.c (.int 3))])),(.tup [(.c (.str (W "before"))),(.v 6)]),(.v 5)])] [],.ret (.v 5)]⟩
noncomputable def AU:Fn:=⟨4,14,[.asg (.nm 4) (.lst [(.v 1)]),.asg (.tp [5,6]) (.call xE [(.v 0),(.v 4)]),.asg (.nm 7) (.bin .add (.v 5) (.v 6)),.asg (.nm 8) (.lst [(.call cT [(.v 0),(.v 4),(.bin .add (.v 2) (.c (.int 1)))])]),.asg (.nm 9) (.lst []),.hJ (.nm 10) (some .range) [(.bin .add (.c (.int 1)) (.call cT [(.v 0),(.v 4),(.c (.int 3))]))] [.asg (.nm 11) (.bin .add (.c (.int 1)) (.call cT [(.v 0),(.v 4),(.ix (.lst [(.c (.int 3)),(.c (.int 9)),(.c (.int 99))]) (.call cT [(.v 0),(.v 4),(.c (.int 3))]))])),.ex (.cD .append (.v 9) [(.tup [(.v 11),(.call eG [(.v 0),(.v 4),(.v 7),(.c (.int 2)),(.v 8)])])])],.asg (.nm 12) (.comp 1 [0,4,7,8] [0] true (some .range) [(.call cT [(.v 0),(.v 4),(.bin .add (.v 3) (.c (.int 1)))])] [] (.call eG [(.v 1),(.v 2),(.v 3),(.c (.int 2)),(.v 4)])),.asg (.nm 13) (.comp 1 [0,4,5,7,8] [0] true (some .range) [(.call cT [(.v 0),(.v 4),(.c (.int 2))])] [] (.call tO [(.v 1),(.v 2),(.v 3),(.v 4),(.v 5)])),.ret (.tup [(.v 5),(.v 6),(.bi .tuple [(.v 13)]),(.bi .tuple [(.v 12)]),(.bi .tuple [(.v 9)])])]⟩
noncomputable def AK:Fn:=⟨4,8,[.asg (.nm 4) (.call mU [(.v 0),(.v 1),(.bin .pow (.c (.int 10)) (.c (.int 9)))]),.asg (.nm 5) (.lst []),.hJ (.nm 6) (some .range) [(.call mU [(.v 0),(.bin .add (.v 1) (.c (.int 1))),(.bin .add (.v 3) (.c (.int 1)))])] [.asg (.nm 7) (.bin .mod (.bin .mul (.bin .add (.bin .add (.v 4) (.bin .mul (.bin .mul (.c (.int 104729)) (.v 6)) (.v 6))) (.bin .mul (.c (.int 7919)) (.v 6))) (.c (.int 48271))) (.c (.int 2147483647))),.ex (.cD .append (.v 5) [(.bi .tuple [(.comp 1 [7] [0] true (some .range) [(.v 2)] [] (.cmp .eq (.bin .mod (.bin .fdiv (.v 1) (.ix (.lst [(.c (.int 13)),(.c (.int 26)),(.c (.int 52)),(.c (.int 104))]) (.v 0))) (.c (.int 2))) (.c (.int 1))))])])],.ret (.v 5)]⟩
noncomputable def yA:Fn:=⟨4,8,[.asg (.nm 4) (.ix (.v 1) (.c (.int 0))),.iff (.cmp .eq (.v 4) (.c (.str (W "lamp")))) [.ret (.ix (.ix (.v 2) (.v 3)) (.cD .index (.v 0) [(.ix (.v 1) (.c (.int 1)))]))] [],.iff (.or_ (.cmp .eq (.v 4) (.c (.str (W "yes")))) (.cmp .eq (.v 4) (.c (.str (W "no"))))) [.ret (.cmp .eq (.v 4) (.c (.str (W "yes"))))] [],.iff (.cmp .eq (.v 4) (.c (.str (W "before")))) [.ret (.and_ (.cmp .gt (.v 3) (.c (.int 0))) (.call dY [(.v 0),(.ix (.v 1) (.c (.int 1))),(.v 2),(.bin .sub (.v 3) (.c (.int 1)))]))] [],.iff (.cmp .eq (.v 4) (.c (.str (W "once")))) [.ret (.cmp .ne (.comp 1 [0,1,2] [0] true (some .range) [(.bin .add (.v 3) (.c (.int 1)))] [(.call dY [(.v 1),(.ix (.v 2) (.c (.int 1))),(.v 3),(.v 0)])] (.v 0)) (.lst []))] [],.iff (.cmp .eq (.v 4) (.c (.str (W "sofar")))) [.ret (.cmp .eq (.comp 1 [0,1,2] [0] true (some .range) [(.bin .add (.v 3) (.c (.int 1)))] [(.not_ (.call dY [(.v 1),(.ix (.v 2) (.c (.int 1))),(.v 3),(.v 0)]))] (.v 0)) (.lst []))] [],.iff (.cmp .eq (.v 4) (.c (.str (W "since")))) [.hJ (.nm 5) (some .range) [(.v 3),(.neg (.c (.int 1))),(.neg (.c (.int 1)))] [.iff (.call dY [(.v 0),(.ix (.v 1) (.c (.int 2))),(.v 2),(.v 5)]) [.ret (.c (.bl true))] [],.iff (.not_ (.call dY [(.v 0),(.ix (.v 1) (.c (.int 1))),(.v 2),(.v 5)])) [.ret (.c (.bl false))] []],.ret (.c (.bl false))] [],.asg (.nm 6) (.call dY [(.v 0),(.ix (.v 1) (.c (.int 1))),(.v 2),(.v 3)]),.iff (.cmp .eq (.v 4) (.c (.str (W "not")))) [.ret (.not_ (.v 6))] [],.asg (.nm 7) (.call dY [(.v 0),(.ix (.v 1) (.c (.int 2))),(.v 2),(.v 3)]),.iff (.cmp .eq (.v 4) (.c (.str (W "and")))) [.ret (.and_ (.v 6) (.v 7))] [],.iff (.cmp .eq (.v 4) (.c (.str (W "or")))) [.ret (.or_ (.v 6) (.v 7))] [],.iff (.cmp .eq (.v 4) (.c (.str (W "then")))) [.ret (.or_ (.v 7) (.not_ (.v 6)))] [],.ret (.cmp .eq (.v 6) (.v 7))]⟩
noncomputable def AS:Fn:=⟨3,3,[.ret (.cmp .eq (.comp 1 [0,2] [0] true none [(.v 1)] [(.not_ (.call dY [(.v 1),(.v 0),(.v 2),(.bin .sub (.bi .len [(.v 2)]) (.c (.int 1)))]))] (.v 0)) (.lst []))]⟩
noncomputable def zU:Fn:=⟨2,3,[.asg (.nm 2) (.bin .add (.ix (.v 0) (.c (.int 0))) (.ix (.v 0) (.c (.int 1)))),.ret (.bi .sum [(.comp 1 [2,1] [0] true none [(.ix (.v 0) (.c (.int 4)))] [(.not_ (.call dY [(.v 1),(.ix (.v 0) (.c (.int 1))),(.v 2),(.bin .sub (.bi .len [(.v 2)]) (.c (.int 1)))]))] (.ix (.v 0) (.c (.int 0))))])]⟩
noncomputable def VS:Fn:=⟨1,9,[.asg (.nm 1) (.call zQ [(.v 0),(.c (.int 4)),(.c (.int 3)),(.c (.int 2))]),.asg (.nm 2) (.bin .add (.ix (.v 1) (.c (.int 0))) (.ix (.v 1) (.c (.int 1)))),.asg (.nm 3) (.call AO [(.v 0),(.c (.int 0)),(.bi .len [(.v 2)]),(.c (.int 7))]),.asg (.nm 4) (.bi .list [(.v 3)]),.asg (.nm 5) (.bit .list .range [(.c (.int 1)),(.bin .add (.bi .len [(.v 3)]) (.c (.int 1)))]),.iff (.cmp .ne (.call HU [(.v 1),(.v 4)]) (.comp 1 [1,3] [0] true none [(.v 5)] [] (.call AL [(.v 1),(.sl (.v 2) [] [(.v 0)])]))) [.ret (.c (.bl false))] [],.asg (.nm 6) (.lst []),.hJ (.nm 7) none [(.tup [(.ix (.v 1) (.c (.int 2))),(.ix (.v 1) (.c (.int 3)))])] [.asg (.nm 8) (.comp 1 [2,7,3] [0] true none [(.v 5)] [(.not_ (.call AF [(.v 1),(.v 2),(.sl (.v 3) [] [(.v 0)])]))] (.bin .sub (.v 0) (.c (.int 1)))),.ex (.cD .append (.v 6) [(.ix (.bin .add (.v 8) (.lst [(.c .non)])) (.c (.int 0)))])],.ret (.and_ (.cmp .eq (.call tM [(.v 1),(.v 4)]) (.bi .tuple [(.v 6)])) (.cmp .eq (.v 4) (.v 3)))]⟩
noncomputable def sZ:Fn:=⟨2,2,[.ret (.tup [(.mcl (W "Rules") (W "foe_keeps") lE (.v 0) [(.v 1)]),(.mcl (W "Rules") (W "friend_keeps") jG (.v 0) [(.v 1)])])]⟩
noncomputable def AZ:Fn:=⟨2,2,[.ret (.mcl (W "Rules") (W "loss_at") nI (.v 0) [(.v 1)])]⟩
noncomputable def Mb:Nat->Option Fn
 |0=>some FJ
 |1=>some zW
 |2=>some oV
 |3=>some rG
 |4=>some zZ
 |5=>some JP
 |6=>some AV
 |7=>some wJ
 |8=>some wF
 |9=>some tI
 |10=>some CM
 |11=>some EO
 |12=>some xU
 |13=>some xC
 |14=>some GK
 |15=>some FZ
 |16=>some AG
 |17=>some xY
 |18=>some qZ
 |19=>some wG
 |20=>some rH
 |21=>some lM
 |22=>some sG
 |23=>some nN
 |24=>some rJ
 |25=>some qC
 |26=>some mT
 |27=>some sH
 |28=>some xR
 |29=>some uC
 |30=>some tV
 |31=>some nC
 |32=>some tY
 |33=>some KR
 |34=>some tN
 |35=>some yK
 |36=>some zV
 |37=>some yB
 |38=>some wH
 |39=>some uJ
 |40=>some AU
 |41=>some AK
 |42=>some yA
 |43=>some AS
 |44=>some zU
 |45=>some VS
 |46=>some sZ
 |47=>some AZ
 |_=>none
noncomputable def Mu:Nat->Nat->Bool
 |0,0=>true
 |1,1=>true
 |1,0=>true
 |2,2=>true
 |2,1=>true
 |2,0=>true
 |3,3=>true
 |3,1=>true
 |3,0=>true
 |_,_=>false
noncomputable def G:Prog:=⟨Mb,Mu⟩
noncomputable def cC:Nat->Stmt
 |0=>bd 11
 |1=>bd 12
 |2=>bd 13
 |3=>bd 14
 |4=>bd 15
 |5=>bd 23
 |6=>bd 24
 |7=>bd 25
 |8=>bd 26
 |9=>bd 27
 |10=>bd 28
 |11=>bd 29
 |12=>bd 30
 |13=>bd 31
 |14=>bd 32
 |15=>bd 33
 |16=>bd 35
 |17=>bd 36
 |18=>lO (bd 37) 0
 |19=>lO (bd 37) 1
 |20=>lO (bd 37) 2
 |21=>lO (bd 37) 3
 |22=>lO (bd 37) 4
 |23=>lO (bd 37) 5
 |24=>lO (bd 38) 0
 |25=>lO (bd 38) 1
 |26=>lO (bd 38) 2
 |27=>lO (bd 38) 3
 |28=>bd 39
 |29=>bd 40
 |30=>bd 41
 |31=>bd 42
 |32=>bd 43
 |33=>bd 44
 |34=>bd 46
 |35=>bd 47
 |36=>bd 48
 |37=>bd 49
 |38=>bd 50
 |39=>bd 51
 |40=>bd 52
 |41=>bd 53
 |42=>bd 54
 |43=>bd 55
 |44=>bd 56
 |45=>bd 57
 |_=>.Pass ⟨0,0,0,0⟩
def qB:Nat->Str
 |0 =>"is_name"
 |1 =>"is_saying"
 |2 =>"is_saying_within"
 |3 =>"sayings_within"
 |4 =>"pieces_in"
 |5 =>"is_row"
 |6 =>"are_lamps"
 |7 =>"are_sayings"
 |8 =>"stands_bare"
 |9 =>"are_promises"
 |10 =>"is_price"
 |11 =>"is_wish"
 |12 =>"are_wishes"
 |13 =>"sayings_of"
 |14 =>"is_book"
 |15 =>"checked"
 |16 =>"now_holds"
 |17 =>"past_holds"
 |18 =>"__init__"
 |19 =>"enter"
 |20 =>"place_of"
 |21 =>"remembered_row"
 |22 =>"held_at"
 |23 =>"memory_after"
 |24 =>"__init__"
 |25 =>"foe_keeps"
 |26 =>"friend_keeps"
 |27 =>"loss_at"
 |28 =>"is_setting"
 |29 =>"checked_play"
 |30 =>"told_by_turn"
 |31 =>"first_turn_without"
 |32 =>"first_breaks"
 |33 =>"losses"
 |34 =>"_law_cell_at"
 |35 =>"_law_mixed"
 |36 =>"_law_next"
 |37 =>"_law_names"
 |38 =>"_law_saying"
 |39 =>"_law_promise"
 |40 =>"_law_book"
 |41 =>"_law_play"
 |42 =>"_law_holds"
 |43 =>"_law_kept"
 |44 =>"_law_loss"
 |45 =>"law"
 |_ =>""
def fR:Nat->Str
 |0 =>"is_name"
 |1 =>"is_saying"
 |2 =>"is_saying_within"
 |3 =>"sayings_within"
 |4 =>"pieces_in"
 |5 =>"is_row"
 |6 =>"are_lamps"
 |7 =>"are_sayings"
 |8 =>"stands_bare"
 |9 =>"are_promises"
 |10 =>"is_price"
 |11 =>"is_wish"
 |12 =>"are_wishes"
 |13 =>"sayings_of"
 |14 =>"is_book"
 |15 =>"checked"
 |16 =>"now_holds"
 |17 =>"past_holds"
 |18 =>"Table.__init__"
 |19 =>"Table.enter"
 |20 =>"Table.place_of"
 |21 =>"Table.remembered_row"
 |22 =>"Table.held_at"
 |23 =>"Table.memory_after"
 |24 =>"Rules.__init__"
 |25 =>"Rules.foe_keeps"
 |26 =>"Rules.friend_keeps"
 |27 =>"Rules.loss_at"
 |28 =>"is_setting"
 |29 =>"checked_play"
 |30 =>"told_by_turn"
 |31 =>"first_turn_without"
 |32 =>"first_breaks"
 |33 =>"losses"
 |34 =>"_law_cell_at"
 |35 =>"_law_mixed"
 |36 =>"_law_next"
 |37 =>"_law_names"
 |38 =>"_law_saying"
 |39 =>"_law_promise"
 |40 =>"_law_book"
 |41 =>"_law_play"
 |42 =>"_law_holds"
 |43 =>"_law_kept"
 |44 =>"_law_loss"
 |45 =>"law"
 |_ =>""
def mR:Nat->At
 |0=>.top
 |1=>.top
 |2=>.top
 |3=>.top
 |4=>.top
 |5=>.top
 |6=>.top
 |7=>.top
 |8=>.top
 |9=>.top
 |10=>.top
 |11=>.top
 |12=>.top
 |13=>.top
 |14=>.top
 |15=>.top
 |16=>.top
 |17=>.top
 |18=>(.init (W "Table"))
 |19=>(.cD (W "Table"))
 |20=>(.cD (W "Table"))
 |21=>(.cD (W "Table"))
 |22=>(.cD (W "Table"))
 |23=>(.cD (W "Table"))
 |24=>(.init (W "Rules"))
 |25=>(.cD (W "Rules"))
 |26=>(.cD (W "Rules"))
 |27=>(.cD (W "Rules"))
 |28=>.top
 |29=>.top
 |30=>.top
 |31=>.top
 |32=>.top
 |33=>.top
 |34=>.top
 |35=>.top
 |36=>.top
 |37=>.top
 |38=>.top
 |39=>.top
 |40=>.top
 |41=>.top
 |42=>.top
 |43=>.top
 |44=>.top
 |45=>.top
 |_=>.top
def nG:Nat->List Str
 |0=>["thing"]
 |1=>["names","thing"]
 |2=>["names","thing","deepest"]
 |3=>["saying"]
 |4=>["sayings"]
 |5=>["thing","fewest","most"]
 |6=>["foe","friend"]
 |7=>["names","things","most"]
 |8=>["names","saying"]
 |9=>["names","friend","things"]
 |10=>["thing"]
 |11=>["names","thing"]
 |12=>["names","things"]
 |13=>["promises","musts","wishes"]
 |14=>["thing"]
 |15=>["book"]
 |16=>["word","parts"]
 |17=>["word","remembered","parts"]
 |18=>["self","names","sayings"]
 |19=>["self","saying"]
 |20=>["self","saying"]
 |21=>["self","piece"]
 |22=>["self","memory","setting"]
 |23=>["self","held"]
 |24=>["self","book"]
 |25=>["self","held"]
 |26=>["self","held"]
 |27=>["self","held"]
 |28=>["thing","lamps"]
 |29=>["book","play"]
 |30=>["table","play","tell"]
 |31=>["kept"]
 |32=>["book","play"]
 |33=>["book","play"]
 |34=>["_law_script","_law_k"]
 |35=>["_law_script","_law_k","_law_many"]
 |36=>["_law_script","_law_m","_law_many"]
 |37=>["_law_script","_law_m"]
 |38=>["_law_script","_law_m","_law_names_here","_law_deep","_law_left"]
 |39=>["_law_script","_law_m","_law_foe","_law_names_here","_law_left"]
 |40=>["_law_script","_law_at","_law_pieces","_law_musts"]
 |41=>["_law_script","_law_at","_law_lamps","_law_most"]
 |42=>["_law_names_here","_law_saying_here","_law_play_here","_law_turn"]
 |43=>["_law_names_here","_law_sayings","_law_play_here"]
 |44=>["_law_book_here","_law_play_here"]
 |45=>["_law_script"]
 |_=>[]
noncomputable def LV:Nat->Option Addr
 |32=>some 274
 |33=>some 281
 |_=>none
structure Zt (K:aa)(mg:Str->Option Value):Prop where
 b_isinstance:mg "isinstance" = none
 b_str:mg "str" = none
 b_len:mg "len" = none
 b_all:mg "all" = none
 b_tuple:mg "tuple" = none
 b_list:mg "list" = none
 b_reversed:mg "reversed" = none
 b_set:mg "set" = none
 b_any:mg "any" = none
 b_int:mg "int" = none
 b_bool:mg "bool" = none
 b_sum:mg "sum" = none
 b_range:mg "range" = none
 g_NO_NAMES:GC K mg "NO_NAMES" g_NO_NAMES
 g_LONGEST_NAME:GC K mg "LONGEST_NAME" g_LONGEST_NAME
 g_LETTERS:GC K mg "LETTERS" g_LETTERS
 g_DEEPEST:GC K mg "DEEPEST" g_DEEPEST
 g_SAYINGS_WITHIN:GC K mg "SAYINGS_WITHIN" g_SAYINGS_WITHIN
 g_PAST_WORDS:GC K mg "PAST_WORDS" g_PAST_WORDS
 g_MOST_LAMPS:GC K mg "MOST_LAMPS" g_MOST_LAMPS
 g_MOST_PROMISES:GC K mg "MOST_PROMISES" g_MOST_PROMISES
 g_HIGHEST_PRICE:GC K mg "HIGHEST_PRICE" g_HIGHEST_PRICE
 g_MOST_WISHES:GC K mg "MOST_WISHES" g_MOST_WISHES
 g_MOST_MUSTS:GC K mg "MOST_MUSTS" g_MOST_MUSTS
 g_MOST_PIECES:GC K mg "MOST_PIECES" g_MOST_PIECES
 c_Table:uO K (W "Table")
 c_Rules:uO K (W "Rules")
 a_Table_names:qV K (W "Table") (W "names")
 a_Table_pieces:qV K (W "Table") (W "pieces")
 a_Table_rows:qV K (W "Table") (W "rows")
 a_Table_row_of:qV K (W "Table") (W "row_of")
 a_Table_first_memory:qV K (W "Table") (W "first_memory")
 a_Table_remembered_rows:qV K (W "Table") (W "remembered_rows")
 a_Rules_table:qV K (W "Rules") (W "table")
 a_Rules_promise_rows:qV K (W "Rules") (W "promise_rows")
 a_Rules_must_rows:qV K (W "Rules") (W "must_rows")
 a_Rules_priced_rows:qV K (W "Rules") (W "priced_rows")
section
variable {P:br}{w:World}{K:aa}{mg:Str->Option Value}{base:Heap}
theorem tG {k:Nat}(T:EE K mg 46 qB fR nG cC mR)(IH:∀ i,i<46->fF P w K mg base dH (2*k) (T.a i) (T.fd i) (nG i) (fO K (aM G k) i)){X:Cx}(e1:X.prog=P)(e2:X.w=w)(e3:X.K=K)(e4:X.mg=mg)(e5:X.base=base)(hr:cX (2*k+1) X.A)(i:Nat)(h:kz i 46=true)(ha:mR i=.top):nE X (aM G k) (qB i) i:=by
 subst e1 e2 e3 e4 e5
 have h:i<46:=Nat.ble_eq.mp h
 have q:=T.mg i h
 rw[ha]at q
 exact⟨2*k,T.a i,T.fd i,nG i,IH i h,hr.mono (by omega),q,(T.fn i h).kp,T.bi i h⟩
theorem tU {k:Nat}(T:EE K mg 46 qB fR nG cC mR)(IH:∀ i,i<46->fF P w K mg base dH (2*k) (T.a i) (T.fd i) (nG i) (fO K (aM G k) i)){X:Cx}(e1:X.prog=P)(e2:X.w=w)(e3:X.K=K)(e4:X.mg=mg)(e5:X.base=base)(hr:cX (2*k+1) X.A)(i:Nat)(c:List Nat)(h:kz i 46=true)(ha:mR i=.cD c):oZ X (aM G k) c (qB i) i:=by
 subst e1 e2 e3 e4 e5
 have h:i<46:=Nat.ble_eq.mp h
 have q:=T.mg i h
 rw[ha]at q
 obtain⟨C0,q1,q2,q3⟩:=q
 exact⟨2*k,T.a i,T.fd i,nG i,C0,IH i h,hr.mono (by omega),T.bi i h,q1,q2,q3⟩
theorem D7 {k:Nat}(T:EE K mg 46 qB fR nG cC mR)(IH:∀ i,i<46->fF P w K mg base dH (2*k) (T.a i) (T.fd i) (nG i) (fO K (aM G k) i)){X:Cx}(e1:X.prog=P)(e2:X.w=w)(e3:X.K=K)(e4:X.mg=mg)(e5:X.base=base)(hr:cX (2*k+1) X.A)(i:Nat)(c:List Nat)(h:kz i 46=true)(ha:mR i=.init c){n:Str}(hn:n=⟨c.toArray⟩:=by kernel_rfl):xA X (aM G k) c n i:=by
 subst e1 e2 e3 e4 e5
 have h:i<46:=Nat.ble_eq.mp h
 have q:=T.mg i h
 rw[ha]at q
 obtain⟨C0,q1,q2,q3⟩:=q
 exact⟨2*k,T.a i,T.fd i,nG i,C0,IH i h,hr,T.bi i h,q1,by rw[hn];exact q2,q3⟩
noncomputable abbrev TT (K:aa)(mg:Str->Option Value):=EE K mg 46 qB fR nG cC mR
noncomputable abbrev IT (P:br)(w:World)(base:Heap)(T:TT K mg)(k:Nat):Prop:=∀ i,i<46->fF P w K mg base dH (2*k) (T.a i) (T.fd i) (nG i) (fO K (aM G k) i)
noncomputable abbrev OT (P:br)(w:World)(base:Heap)(T:TT K mg)(k i:Nat):Prop:=fF P w K mg base dH (2*k+1+1) (T.a i) (T.fd i) (nG i) (fO K (aM G (k+1)) i)
theorem dZ (i:Nat){k:Nat}{fn:Fn}{N:List Str}(T:TT K mg)(IH:IT P w base T k)(hi:kz i 46=true)(S:mL N (nG i) (aJ (cC i)))(hG:G.fns i=some fn)(hp:fn.np=(nG i).length)(hl:fn.nl=N.length)
 (hb:∀(bF:Value)(A:b7)(outer:List Env)(s:af)(H:Hp)(E:L2.XK)(hr:cX (2*k+1) (A.deeper (ly (fR i) (aJ (cC i)) s.heap.objs.size (T.a i) bF)))(m:bQ (aM G k) (aM G k))(u:(A.deeper (ly (fR i) (aJ (cC i)) s.heap.objs.size (T.a i) bF)).units+180<vy)
 (c:∀ j,kz j 46=true->mR j=.top->nE (eV dH P w K mg base N (fR i) (aJ (cC i)) (T.a i) bF A outer s H E).iH (aM G k) (qB j) j)(cm:∀ j c,kz j 46=true->mR j=.cD c->oZ (eV dH P w K mg base N (fR i) (aJ (cC i)) (T.a i) bF A outer s H E).iH (aM G k) c (qB j) j)(ck:∀ j c,kz j 46=true->mR j=.init c->∀{n:Str}(hn:n=⟨c.toArray⟩:=by kernel_rfl),xA (eV dH P w K mg base N (fR i) (aJ (cC i)) (T.a i) bF A outer s H E).iH (aM G k) c n j)(nd:N.Nodup),
 rW (eV dH P w K mg base N (fR i) (aJ (cC i)) (T.a i) bF A outer s H E).iH (aM G k) G.sub (eU (cC i)) fn.body):OT P w base T k i :=
 P0 (fn:=fn) (T.fn i (Nat.ble_eq.mp hi)) S hG hp hl fun bF A outer s H E hr=>hb bF A outer s H E hr (kX G (az k)) (B2 hr) (tG (X:=(eV dH P w K mg base N (fR i) (aJ (cC i)) (T.a i) bF A outer s H E).iH) T IH rfl rfl rfl rfl rfl hr) (tU (X:=(eV dH P w K mg base N (fR i) (aJ (cC i)) (T.a i) bF A outer s H E).iH) T IH rfl rfl rfl rfl rfl hr) (@D7 P w K mg base k T IH (eV dH P w K mg base N (fR i) (aJ (cC i)) (T.a i) bF A outer s H E).iH rfl rfl rfl rfl rfl hr) S.nd
noncomputable abbrev Ej (P:br)(w:World)(K:aa)(mg:Str->Option Value)(base:Heap)(k:Nat):Prop:=∀ f Tx,LT f=some Tx->mN P w K mg base (2*k) (aM G k) f
theorem Na (i:Nat){k:Nat}{fn:Fn}{N:List Str}(T:TT K mg)(IH:IT P w base T k)(IL:Ej P w K mg base k)(hi:kz i 46=true)(S:mL N (nG i) (aJ (cC i)))(hG:G.fns i=some fn)(hp:fn.np=(nG i).length)(hl:fn.nl=N.length)
 (hb:∀(bF:Value)(A:b7)(outer:List Env)(s:af)(H:Hp)(E:L2.XK)(hr:cX (2*k+1) (A.deeper (ly (fR i) (aJ (cC i)) s.heap.objs.size (T.a i) bF)))(m:bQ (aM G k) (aM G k))(u:(A.deeper (ly (fR i) (aJ (cC i)) s.heap.objs.size (T.a i) bF)).units+180<vy)
 (c:∀ j,kz j 46=true->mR j=.top->nE (eV dH P w K mg base N (fR i) (aJ (cC i)) (T.a i) bF A outer s H E).iH (aM G k) (qB j) j)(cm:∀ j c,kz j 46=true->mR j=.cD c->oZ (eV dH P w K mg base N (fR i) (aJ (cC i)) (T.a i) bF A outer s H E).iH (aM G k) c (qB j) j)(ck:∀ j c,kz j 46=true->mR j=.init c->∀{n:Str}(hn:n=⟨c.toArray⟩:=by kernel_rfl),xA (eV dH P w K mg base N (fR i) (aJ (cC i)) (T.a i) bF A outer s H E).iH (aM G k) c n j)(nd:N.Nodup)(L:PQ (eV dH P w K mg base N (fR i) (aJ (cC i)) (T.a i) bF A outer s H E).iH (aM G k)),
 rW (eV dH P w K mg base N (fR i) (aJ (cC i)) (T.a i) bF A outer s H E).iH (aM G k) G.sub (eU (cC i)) fn.body):OT P w base T k i :=
 P0 (fn:=fn) (T.fn i (Nat.ble_eq.mp hi)) S hG hp hl fun bF A outer s H E hr=>hb bF A outer s H E hr (kX G (az k)) (B2 hr) (tG (X:=(eV dH P w K mg base N (fR i) (aJ (cC i)) (T.a i) bF A outer s H E).iH) T IH rfl rfl rfl rfl rfl hr) (tU (X:=(eV dH P w K mg base N (fR i) (aJ (cC i)) (T.a i) bF A outer s H E).iH) T IH rfl rfl rfl rfl rfl hr) (@D7 P w K mg base k T IH (eV dH P w K mg base N (fR i) (aJ (cC i)) (T.a i) bF A outer s H E).iH rfl rfl rfl rfl rfl hr) S.nd ⟨2*k,IL,hr.mono (by omega)⟩
theorem Ac (i:Nat){k:Nat}{fn:Fn}{N:List Str}(T:TT K mg)(IH:IT P w base T k){cc:Addr}(hcd:(T.fd i).code=.ref cc)(hi:kz i 46=true)(S:mL N (nG i) (aJ (cC i)))(hG:G.fns i=some fn)(hp:fn.np=(nG i).length)(hl:fn.nl=N.length)
 (hb:∀(A:b7)(outer:List Env)(s:af)(H:Hp)(E:L2.XK)(hr:cX (2*k+1) (A.deeper (ly (fR i) (aJ (cC i)) s.heap.objs.size (T.a i) (.ref cc))))(m:bQ (aM G k) (aM G k))(u:(A.deeper (ly (fR i) (aJ (cC i)) s.heap.objs.size (T.a i) (.ref cc))).units+180<vy)
 (c:∀ j,kz j 46=true->mR j=.top->nE (eV dH P w K mg base N (fR i) (aJ (cC i)) (T.a i) (.ref cc) A outer s H E).iH (aM G k) (qB j) j)(cm:∀ j c,kz j 46=true->mR j=.cD c->oZ (eV dH P w K mg base N (fR i) (aJ (cC i)) (T.a i) (.ref cc) A outer s H E).iH (aM G k) c (qB j) j)(ck:∀ j c,kz j 46=true->mR j=.init c->∀{n:Str}(hn:n=⟨c.toArray⟩:=by kernel_rfl),xA (eV dH P w K mg base N (fR i) (aJ (cC i)) (T.a i) (.ref cc) A outer s H E).iH (aM G k) c n j)(nd:N.Nodup),
 rW (eV dH P w K mg base N (fR i) (aJ (cC i)) (T.a i) (.ref cc) A outer s H E).iH (aM G k) G.sub (eU (cC i)) fn.body):OT P w base T k i :=
 Cz (fn:=fn) (T.fn i (Nat.ble_eq.mp hi)) hcd S hG hp hl fun A outer s H E hr=>hb A outer s H E hr (kX G (az k)) (B2 hr) (tG (X:=(eV dH P w K mg base N (fR i) (aJ (cC i)) (T.a i) (.ref cc) A outer s H E).iH) T IH rfl rfl rfl rfl rfl hr) (tU (X:=(eV dH P w K mg base N (fR i) (aJ (cC i)) (T.a i) (.ref cc) A outer s H E).iH) T IH rfl rfl rfl rfl rfl hr) (@D7 P w K mg base k T IH (eV dH P w K mg base N (fR i) (aJ (cC i)) (T.a i) (.ref cc) A outer s H E).iH rfl rfl rfl rfl rfl hr) S.nd
theorem Ni {k:Nat}(T:TT K mg)(Z:Zt K mg)(IH:IT P w base T k):OT P w base T k 0 :=
 dZ 0 (fn:=FJ) (N:=["thing"]) T IH rfl ⟨rfl,rfl,rfl,by decide +kernel,rfl,by decide +kernel,by decide +kernel⟩ rfl rfl rfl fun bF A outer s H E hr m u c cm ck nd=>by
 exact(cc (dJ m (tK (wD m (nV (tp (C6 (t:=.str) R7 Z.b_isinstance Z.b_str (jv 0)))) (uK (dI (o:=.in_) u (jv 0) (jg Z.g_NO_NAMES))))) (cc (bU m jb)
 c0) c0)
 (cc (bU m (lJ (Z1 (o:=.le) (o':=.le) u ji (eO cW fB Z.b_len (ja (jv 0) an)) (jg Z.g_LONGEST_NAME)) (kU (eO (iN hr.hd) nM Z.b_all (ja (jA m (own:=["sign"]) (cn:=[]) (aK:=[]) (one:=true) (gN (on:=(aJ (cC 0)).names) (N:=["thing"]) (by decide +kernel)) (iv (jv 0)) (fun _ _ _ _=>(b1 (gn (show(["sign"]:List Str).Nodup by decide +kernel)))) (fun _ _ _ _=>qn) (fun _ _ _ _=>(mV (o:=.in_) u (jv 0) (jg Z.g_LETTERS)))) an)))))
 c0))
theorem Nl {k:Nat}(T:TT K mg)(Z:Zt K mg)(IH:IT P w base T k):OT P w base T k 1 :=
 dZ 1 (fn:=zW) (N:=["names","thing"]) T IH rfl ⟨rfl,rfl,rfl,by decide +kernel,rfl,by decide +kernel,by decide +kernel⟩ rfl rfl rfl fun bF A outer s H E hr m u c cm ck nd=>by
 exact(cc (bU m (bX (c 2 rfl rfl) (ja (jv 0) (ja (jv 1) (ja (jg Z.g_DEEPEST) an)))))
 c0)
noncomputable abbrev N2:List Str:=["names","thing","deepest"]
theorem Lq {k:Nat}(T:TT K mg)(Z:Zt K mg)(IH:IT P w base T k):OT P w base T k 2 :=
 dZ 2 (fn:=oV) (N:=N2) T IH rfl ⟨rfl,rfl,rfl,by decide +kernel,rfl,by decide +kernel,by decide +kernel⟩ rfl rfl rfl fun bF A outer s H E hr m u c cm ck nd=>by
 exact(cc (dJ m (tK (wD m (dI (o:=.lt) u (aX 2) ji) (wD m (nV (tp (C6 (t:=.tuple) gF Z.b_isinstance Z.b_tuple (jv 1)))) (wD m (dI (o:=.lt) u (eO cW fB Z.b_len (ja (jv 1) an)) ji) (uK (nV (tp (C6 (t:=.str) R7 Z.b_isinstance Z.b_str (bJ (jv 1) ji))))))))) (cc (bU m jb)
 c0) c0)
 (cc (dJ m (dI (o:=.eq) u (bJ (jv 1) ji) js) (cc (bU m (lJ (mV (o:=.eq) u (eO cW fB Z.b_len (ja (jv 1) an)) ji) (lJ (bX (c 0 rfl rfl) (ja (bJ (jv 1) ji) an)) (kU (mV (o:=.in_) u (bJ (jv 1) ji) (aX 0))))))
 c0) c0)
 (cc (dJ m (tK (wD m (dI (o:=.jT) u (bJ (jv 1) ji) (jg Z.g_SAYINGS_WITHIN)) (uK (dI (o:=.ne) u (eO cW fB Z.b_len (ja (jv 1) an)) (cM (op:=.add) ji (bJ (jg Z.g_SAYINGS_WITHIN) (bJ (jv 1) ji))))))) (cc (bU m jb)
 c0) c0)
 (cc (bU m (eO (iN hr.hd) nM Z.b_all (ja (jA m (own:=["part"]) (cn:=["names","deepest"]) (aK:=[0,2]) (one:=true) (gN (on:=(aJ (cC 2)).names) (N:=N2) (by decide +kernel)) (iv (GJ (jv 1) (os ji) on)) (fun _ _ _ _=>(b1 (gn (show(["part","names","deepest"]:List Str).Nodup by decide +kernel)))) (fun _ _ _ _=>qn) (fun _ _ _ _=>(bX ((c 2 rfl rfl).oX) (ja (aX 1) (ja (jv 0) (ja (cM (op:=.sub) (aX 2) ji) an)))))) an)))
 c0))))
theorem Nx {k:Nat}(T:TT K mg)(Z:Zt K mg)(IH:IT P w base T k):OT P w base T k 3 :=
 dZ 3 (fn:=rG) (N:=["saying"]) T IH rfl ⟨rfl,rfl,rfl,by decide +kernel,rfl,by decide +kernel,by decide +kernel⟩ rfl rfl rfl fun bF A outer s H E hr m u c cm ck nd=>by
 exact(cc (dJ m (dI (o:=.eq) u (bJ (jv 0) ji) js) (cc (bU m (jt m an))
 c0) c0)
 (cc (bU m (GJ (jv 0) (os ji) on))
 c0))
theorem Mt {k:Nat}(T:TT K mg)(Z:Zt K mg)(IH:IT P w base T k):OT P w base T k 4 :=
 dZ 4 (fn:=zZ) (N:=["sayings","pieces","ahead","saying"]) T IH rfl ⟨rfl,rfl,rfl,by decide +kernel,rfl,by decide +kernel,by decide +kernel⟩ rfl rfl rfl fun bF A outer s H E hr m u c cm ck nd=>by
 exact(cc (sn (i:=1) m nd (jl an))
 (cc (sn (i:=2) m nd (Li Z.b_list Z.b_reversed (ja (jv 0) an)))
 (cc (sw m (tp (jv 2)) (cc (sn (i:=3) m nd (Oq (jv 2) ))
 (cc (dJ m (tK (ZM m (dI (o:=.in_) u (bJ (jv 3) ji) (jg Z.g_PAST_WORDS)) (uK (dI (o:=.jT) u (jv 3) (jv 1))))) (cc (sx m (CU (jv 1) (ja (jv 3) an)))
 c0) c0)
 (cc (sx m (Oy (jv 2) (ja (Li Z.b_list Z.b_reversed (ja (bX (c 3 rfl rfl) (ja (jv 3) an)) an)) an)))
 c0))))
 (cc (bU m (jv 1))
 c0))))
theorem Lw {k:Nat}(T:TT K mg)(Z:Zt K mg)(IH:IT P w base T k):OT P w base T k 5 :=
 dZ 5 (fn:=JP) (N:=["thing","fewest","most"]) T IH rfl ⟨rfl,rfl,rfl,by decide +kernel,rfl,by decide +kernel,by decide +kernel⟩ rfl rfl rfl fun bF A outer s H E hr m u c cm ck nd=>by
 exact(cc (bU m (lJ (C6 (t:=.tuple) gF Z.b_isinstance Z.b_tuple (jv 0)) (kU (Z1 (o:=.le) (o':=.le) u (jv 1) (eO cW fB Z.b_len (ja (jv 0) an)) (jv 2)))))
 c0)
noncomputable abbrev N6:List Str:=["foe","friend","names"]
theorem Mo {k:Nat}(T:TT K mg)(Z:Zt K mg)(IH:IT P w base T k):OT P w base T k 6 :=
 dZ 6 (fn:=AV) (N:=N6) T IH rfl ⟨rfl,rfl,rfl,by decide +kernel,rfl,by decide +kernel,by decide +kernel⟩ rfl rfl rfl fun bF A outer s H E hr m u c cm ck nd=>by
 exact(cc (dJ m (tK (wD m (nV (tp (bX (c 5 rfl rfl) (ja (jv 0) (ja ji (ja (jg Z.g_MOST_LAMPS) an)))))) (uK (nV (tp (bX (c 5 rfl rfl) (ja (jv 1) (ja ji (ja (jg Z.g_MOST_LAMPS) an))))))))) (cc (bU m jb)
 c0) c0)
 (cc (sn (i:=2) m nd (cM (op:=.add) (jv 0) (jv 1)))
 (cc (bU m (lJ (eO (iN hr.hd) nM Z.b_all (ja (jA m (own:=["name"]) (cn:=[]) (aK:=[]) (one:=true) (gN (on:=(aJ (cC 6)).names) (N:=N6) (by decide +kernel)) (iv (jv 2)) (fun _ _ _ _=>(b1 (gn (show(["name"]:List Str).Nodup by decide +kernel)))) (fun _ _ _ _=>qn) (fun _ _ _ _=>(bX ((c 0 rfl rfl).oX) (ja (jv 0) an)))) an)) (kU (mV (o:=.eq) u (Pm Z.b_len Z.b_set (ja (jv 2) an)) (eO cW fB Z.b_len (ja (jv 2) an))))))
 c0)))
noncomputable abbrev N7:List Str:=["names","things","most"]
theorem Nj {k:Nat}(T:TT K mg)(Z:Zt K mg)(IH:IT P w base T k):OT P w base T k 7 :=
 dZ 7 (fn:=wJ) (N:=N7) T IH rfl ⟨rfl,rfl,rfl,by decide +kernel,rfl,by decide +kernel,by decide +kernel⟩ rfl rfl rfl fun bF A outer s H E hr m u c cm ck nd=>by
 exact(cc (bU m (lJ (bX (c 5 rfl rfl) (ja (jv 1) (ja ji (ja (jv 2) an)))) (kU (eO (iN hr.hd) nM Z.b_all (ja (jA m (own:=["thing"]) (cn:=["names"]) (aK:=[0]) (one:=true) (gN (on:=(aJ (cC 7)).names) (N:=N7) (by decide +kernel)) (iv (jv 1)) (fun _ _ _ _=>(b1 (gn (show(["thing","names"]:List Str).Nodup by decide +kernel)))) (fun _ _ _ _=>qn) (fun _ _ _ _=>(bX ((c 1 rfl rfl).oX) (ja (aX 1) (ja (jv 0) an))))) an)))))
 c0)
theorem Nv {k:Nat}(T:TT K mg)(Z:Zt K mg)(IH:IT P w base T k):OT P w base T k 8 :=
 dZ 8 (fn:=wF) (N:=["names","saying"]) T IH rfl ⟨rfl,rfl,rfl,by decide +kernel,rfl,by decide +kernel,by decide +kernel⟩ rfl rfl rfl fun bF A outer s H E hr m u c cm ck nd=>by
 exact(cc (dJ m (dI (o:=.eq) u (bJ (jv 1) ji) js) (cc (bU m jb)
 c0) c0)
 (cc (dJ m (dI (o:=.eq) u (bJ (jv 1) ji) js) (cc (bU m (mV (o:=.in_) u (bJ (jv 1) ji) (aX 0)))
 c0) c0)
 (cc (bU m (eO (EN hr.hd) RH Z.b_any (ja (jA m (own:=["part"]) (cn:=["names"]) (aK:=[0]) (one:=true) (gN (on:=(aJ (cC 8)).names) (N:=["names","saying"]) (by decide +kernel)) (iv (bX (c 3 rfl rfl) (ja (jv 1) an))) (fun _ _ _ _=>(b1 (gn (show(["part","names"]:List Str).Nodup by decide +kernel)))) (fun _ _ _ _=>qn) (fun _ _ _ _=>(bX ((c 8 rfl rfl).oX) (ja (aX 1) (ja (jv 0) an))))) an)))
 c0)))
noncomputable abbrev N9:List Str:=["names","friend","things"]
theorem Lr {k:Nat}(T:TT K mg)(Z:Zt K mg)(IH:IT P w base T k):OT P w base T k 9 :=
 dZ 9 (fn:=tI) (N:=N9) T IH rfl ⟨rfl,rfl,rfl,by decide +kernel,rfl,by decide +kernel,by decide +kernel⟩ rfl rfl rfl fun bF A outer s H E hr m u c cm ck nd=>by
 exact(cc (bU m (lJ (bX (c 7 rfl rfl) (ja (jv 0) (ja (jv 2) (ja (jg Z.g_MOST_PROMISES) an)))) (kU (MK (eO (EN hr.hd) RH Z.b_any (ja (jA m (own:=["thing"]) (cn:=["friend"]) (aK:=[1]) (one:=true) (gN (on:=(aJ (cC 9)).names) (N:=N9) (by decide +kernel)) (iv (jv 2)) (fun _ _ _ _=>(b1 (gn (show(["thing","friend"]:List Str).Nodup by decide +kernel)))) (fun _ _ _ _=>qn) (fun _ _ _ _=>(bX ((c 8 rfl rfl).oX) (ja (aX 1) (ja (jv 0) an))))) an))))))
 c0)
theorem Jr {k:Nat}(T:TT K mg)(Z:Zt K mg)(IH:IT P w base T k):OT P w base T k 10 :=
 dZ 10 (fn:=CM) (N:=["thing"]) T IH rfl ⟨rfl,rfl,rfl,by decide +kernel,rfl,by decide +kernel,by decide +kernel⟩ rfl rfl rfl fun bF A outer s H E hr m u c cm ck nd=>by
 exact(cc (bU m (lJ (C6 (t:=.int) De Z.b_isinstance Z.b_int (jv 0)) (lJ (MK (C6 (t:=.bool) LS Z.b_isinstance Z.b_bool (jv 0))) (kU (Z1 (o:=.le) (o':=.le) u ji (jv 0) (jg Z.g_HIGHEST_PRICE))))))
 c0)
theorem Jf {k:Nat}(T:TT K mg)(Z:Zt K mg)(IH:IT P w base T k):OT P w base T k 11 :=
 dZ 11 (fn:=EO) (N:=["names","thing"]) T IH rfl ⟨rfl,rfl,rfl,by decide +kernel,rfl,by decide +kernel,by decide +kernel⟩ rfl rfl rfl fun bF A outer s H E hr m u c cm ck nd=>by
 exact(cc (bU m (lJ (bX (c 5 rfl rfl) (ja (jv 1) (ja ji (ja ji an)))) (lJ (bX (c 10 rfl rfl) (ja (bJ (jv 1) ji) an)) (kU (bX (c 1 rfl rfl) (ja (jv 0) (ja (bJ (jv 1) ji) an)))))))
 c0)
theorem Kf {k:Nat}(T:TT K mg)(Z:Zt K mg)(IH:IT P w base T k):OT P w base T k 12 :=
 dZ 12 (fn:=xU) (N:=["names","things"]) T IH rfl ⟨rfl,rfl,rfl,by decide +kernel,rfl,by decide +kernel,by decide +kernel⟩ rfl rfl rfl fun bF A outer s H E hr m u c cm ck nd=>by
 exact(cc (bU m (lJ (bX (c 5 rfl rfl) (ja (jv 1) (ja ji (ja (jg Z.g_MOST_WISHES) an)))) (kU (eO (iN hr.hd) nM Z.b_all (ja (jA m (own:=["thing"]) (cn:=["names"]) (aK:=[0]) (one:=true) (gN (on:=(aJ (cC 12)).names) (N:=["names","things"]) (by decide +kernel)) (iv (jv 1)) (fun _ _ _ _=>(b1 (gn (show(["thing","names"]:List Str).Nodup by decide +kernel)))) (fun _ _ _ _=>qn) (fun _ _ _ _=>(bX ((c 11 rfl rfl).oX) (ja (aX 1) (ja (jv 0) an))))) an)))))
 c0)
noncomputable abbrev Kw:List Str:=["promises","musts","wishes"]
theorem Hb {k:Nat}(T:TT K mg)(Z:Zt K mg)(IH:IT P w base T k):OT P w base T k 13 :=
 dZ 13 (fn:=xC) (N:=Kw) T IH rfl ⟨rfl,rfl,rfl,by decide +kernel,rfl,by decide +kernel,by decide +kernel⟩ rfl rfl rfl fun bF A outer s H E hr m u c cm ck nd=>by
 exact(cc (bU m (cM (op:=.add) (cM (op:=.add) (pS vU qM Z.b_list (ja (jv 0) an)) (pS vU qM Z.b_list (ja (jv 1) an))) (jA m (own:=["wish"]) (cn:=[]) (aK:=[]) (one:=true) (gN (on:=(aJ (cC 13)).names) (N:=Kw) (by decide +kernel)) (iv (jv 2)) (fun _ _ _ _=>(b1 (gn (show(["wish"]:List Str).Nodup by decide +kernel)))) (fun _ _ _ _=>qn) (fun _ _ _ _=>(bJ (jv 0) ji)))))
 c0)
theorem Kh {k:Nat}(T:TT K mg)(Z:Zt K mg)(IH:IT P w base T k):OT P w base T k 14 :=
 dZ 14 (fn:=GK) (N:=["thing","friend","names","promises","musts","wishes"]) T IH rfl ⟨rfl,rfl,rfl,by decide +kernel,rfl,by decide +kernel,by decide +kernel⟩ rfl rfl rfl fun bF A outer s H E hr m u c cm ck nd=>by
 exact(cc (dJ m (tK (wD m (nV (tp (bX (c 5 rfl rfl) (ja (jv 0) (ja ji (ja ji an)))))) (uK (nV (tp (bX (c 6 rfl rfl) (ja (bJ (jv 0) ji) (ja (bJ (jv 0) ji) an)))))))) (cc (bU m jb)
 c0) c0)
 (cc (sn (i:=1) m nd (bJ (jv 0) ji))
 (cc (sn (i:=2) m nd (cM (op:=.add) (bJ (jv 0) ji) (jv 1)))
 (cc (sn (i:=3) m nd (bJ (jv 0) ji))
 (cc (sn (i:=4) m nd (bJ (jv 0) ji))
 (cc (sn (i:=5) m nd (bJ (jv 0) ji))
 (cc (dJ m (tK (wD m (nV (tp (bX (c 9 rfl rfl) (ja (jv 2) (ja (jv 1) (ja (jv 3) an)))))) (uK (nV (tp (bX (c 7 rfl rfl) (ja (jv 2) (ja (jv 4) (ja (jg Z.g_MOST_MUSTS) an))))))))) (cc (bU m jb)
 c0) c0)
 (cc (bU m (lJ (bX (c 12 rfl rfl) (ja (jv 2) (ja (jv 5) an))) (kU (mV (o:=.le) u (eO cW fB Z.b_len (ja (bX (c 4 rfl rfl) (ja (bX (c 13 rfl rfl) (ja (jv 3) (ja (jv 4) (ja (jv 5) an)))) an)) an)) (jg Z.g_MOST_PIECES)))))
 c0))))))))
theorem Iy {k:Nat}(T:TT K mg)(Z:Zt K mg)(IH:IT P w base T k):OT P w base T k 15 :=
 dZ 15 (fn:=FZ) (N:=["book"]) T IH rfl ⟨rfl,rfl,rfl,by decide +kernel,rfl,by decide +kernel,by decide +kernel⟩ rfl rfl rfl fun bF A outer s H E hr m u c cm ck nd=>by
 exact(cc (dJ m (nV (tp (bX (c 14 rfl rfl) (ja (jv 0) an)))) (cc (Kv m)
 c0) c0)
 (cc (bU m (jv 0))
 c0))
theorem Ha {k:Nat}(T:TT K mg)(Z:Zt K mg)(IH:IT P w base T k):OT P w base T k 16 :=
 dZ 16 (fn:=AG) (N:=["word","parts"]) T IH rfl ⟨rfl,rfl,rfl,by decide +kernel,rfl,by decide +kernel,by decide +kernel⟩ rfl rfl rfl fun bF A outer s H E hr m u c cm ck nd=>by
 exact(cc (dJ m (dI (o:=.eq) u (jv 0) js) (cc (bU m (MK (bJ (jv 1) ji)))
 c0) c0)
 (cc (dJ m (dI (o:=.eq) u (jv 0) js) (cc (bU m (lJ (bJ (jv 1) ji) (kU (bJ (jv 1) ji))))
 c0) c0)
 (cc (dJ m (dI (o:=.eq) u (jv 0) js) (cc (bU m (MR (bJ (jv 1) ji) (kU (bJ (jv 1) ji))))
 c0) c0)
 (cc (dJ m (dI (o:=.eq) u (jv 0) js) (cc (bU m (MR (bJ (jv 1) ji) (kU (MK (bJ (jv 1) ji)))))
 c0) c0)
 (cc (dJ m (dI (o:=.eq) u (jv 0) js) (cc (bU m (mV (o:=.eq) u (bJ (jv 1) ji) (bJ (jv 1) ji)))
 c0) c0)
 (cc (bU m (mV (o:=.eq) u (jv 0) js))
 c0))))))
theorem Gc {k:Nat}(T:TT K mg)(Z:Zt K mg)(IH:IT P w base T k):OT P w base T k 17 :=
 dZ 17 (fn:=xY) (N:=["word","remembered","parts"]) T IH rfl ⟨rfl,rfl,rfl,by decide +kernel,rfl,by decide +kernel,by decide +kernel⟩ rfl rfl rfl fun bF A outer s H E hr m u c cm ck nd=>by
 exact(cc (dJ m (dI (o:=.eq) u (jv 0) js) (cc (bU m (jv 1))
 c0) c0)
 (cc (dJ m (dI (o:=.eq) u (jv 0) js) (cc (bU m (MR (jv 1) (kU (bJ (jv 2) ji))))
 c0) c0)
 (cc (dJ m (dI (o:=.eq) u (jv 0) js) (cc (bU m (lJ (jv 1) (kU (bJ (jv 2) ji))))
 c0) c0)
 (cc (bU m (MR (bJ (jv 2) ji) (kU (lJ (jv 1) (kU (bJ (jv 2) ji))))))
 c0))))
noncomputable abbrev Ck:List Str:=["self","names","sayings","saying"]
theorem Jx {k:Nat}(T:TT K mg)(Z:Zt K mg)(IH:IT P w base T k):OT P w base T k 18 :=
 dZ 18 (fn:=qZ) (N:=Ck) T IH rfl ⟨rfl,rfl,rfl,by decide +kernel,rfl,by decide +kernel,by decide +kernel⟩ rfl rfl rfl fun bF A outer s H E hr m u c cm ck nd=>by
 exact(cc (zS m (W "Table") Z.c_Table Z.a_Table_names (aX 0) (jv 1))
 (cc (zS m (W "Table") Z.c_Table Z.a_Table_pieces (aX 0) (bX (c 4 rfl rfl) (ja (jv 2) an)))
 (cc (zS m (W "Table") Z.c_Table Z.a_Table_rows (aX 0) (jl an))
 (cc (zS m (W "Table") Z.c_Table Z.a_Table_row_of (aX 0) Pa)
 (cc (MF (i:=3) m nd (iv (jv 2)) (cc (sx m (CY (mm:=W "enter") (cm 19 (W "Table") rfl rfl) (aX 0) (ja (jv 3) an)))
 c0))
 (cc (zS m (W "Table") Z.c_Table Z.a_Table_first_memory (aX 0) (pS fS gF Z.b_tuple (ja (jA m (own:=["piece"]) (cn:=[]) (aK:=[]) (one:=true) (gN (on:=(aJ (cC 18)).names) (N:=Ck) (by decide +kernel)) (iv (jU (W "Table") Z.c_Table Z.a_Table_pieces (aX 0))) (fun _ _ _ _=>(b1 (gn (show(["piece"]:List Str).Nodup by decide +kernel)))) (fun _ _ _ _=>qn) (fun _ _ _ _=>(mV (o:=.eq) u (bJ (jv 0) ji) js))) an)))
 (cc (zS m (W "Table") Z.c_Table Z.a_Table_remembered_rows (aX 0) (jA m (own:=["piece"]) (cn:=["self"]) (aK:=[0]) (one:=true) (gN (on:=(aJ (cC 18)).names) (N:=Ck) (by decide +kernel)) (iv (jU (W "Table") Z.c_Table Z.a_Table_pieces (aX 0))) (fun _ _ _ _=>(b1 (gn (show(["piece", "self"]:List Str).Nodup by decide +kernel)))) (fun _ _ _ _=>qn) (fun _ _ _ _=>(CY (mm:=W "remembered_row") ((cm 21 (W "Table") rfl rfl).oX) (aX 1) (ja (jv 0) an)))))
 c0)))))))
noncomputable abbrev Lg:List Str:=["self","saying","part","parts"]
theorem Iq {k:Nat}(T:TT K mg)(Z:Zt K mg)(IH:IT P w base T k):OT P w base T k 19 :=
 dZ 19 (fn:=wG) (N:=Lg) T IH rfl ⟨rfl,rfl,rfl,by decide +kernel,rfl,by decide +kernel,by decide +kernel⟩ rfl rfl rfl fun bF A outer s H E hr m u c cm ck nd=>by
 exact(cc (dJ m (Pk u (jv 1) (jU (W "Table") Z.c_Table Z.a_Table_row_of (aX 0))) (cc Pb
 c0) c0)
 (cc (MF (i:=2) m nd (iv (bX (c 3 rfl rfl) (ja (jv 1) an))) (cc (sx m (CY (mm:=W "enter") (cm 19 (W "Table") rfl rfl) (aX 0) (ja (jv 2) an)))
 c0))
 (cc (QK (i:=3) m nd (own:=["part"]) (cn:=["self"]) (aK:=[0]) (one:=true) (gN (on:=(aJ (cC 19)).names) (N:=Lg) (by decide +kernel)) (iv (bX (c 3 rfl rfl) (ja (jv 1) an))) (fun _ _ _ _=>(b1 (gn (show(["part","self"]:List Str).Nodup by decide +kernel)))) (fun _ _ _ _=>qn) (fun _ _ _ _=>(L8 u (jU (W "Table") Z.c_Table Z.a_Table_row_of (aX 1)) (jv 0))))
 (cc (Pl m u (jU (W "Table") Z.c_Table Z.a_Table_row_of (aX 0)) (jv 1) (eO cW fB Z.b_len (ja (jU (W "Table") Z.c_Table Z.a_Table_rows (aX 0)) an)))
 (cc (sx m (CU (jU (W "Table") Z.c_Table Z.a_Table_rows (aX 0)) (ja (jt m (ja (bJ (jv 1) ji) (ja (CY (mm:=W "place_of") (cm 20 (W "Table") rfl rfl) (aX 0) (ja (jv 1) an)) (ja (jv 3) an)))) an)))
 c0)))))
theorem Hz {k:Nat}(T:TT K mg)(Z:Zt K mg)(IH:IT P w base T k):OT P w base T k 20 :=
 dZ 20 (fn:=rH) (N:=["self","saying"]) T IH rfl ⟨rfl,rfl,rfl,by decide +kernel,rfl,by decide +kernel,by decide +kernel⟩ rfl rfl rfl fun bF A outer s H E hr m u c cm ck nd=>by
 exact(cc (dJ m (dI (o:=.eq) u (bJ (jv 1) ji) js) (cc (bU m (M3 m u (jU (W "Table") Z.c_Table Z.a_Table_names (jv 0)) (ja (bJ (jv 1) ji) an)))
 c0) c0)
 (cc (dJ m (dI (o:=.in_) u (bJ (jv 1) ji) (jg Z.g_PAST_WORDS)) (cc (bU m (M3 m u (jU (W "Table") Z.c_Table Z.a_Table_pieces (jv 0)) (ja (jv 1) an)))
 c0) c0)
 (cc (bU m jn)
 c0)))
theorem Io {k:Nat}(T:TT K mg)(Z:Zt K mg)(IH:IT P w base T k):OT P w base T k 21 :=
 dZ 21 (fn:=lM) (N:=["self","piece"]) T IH rfl ⟨rfl,rfl,rfl,by decide +kernel,rfl,by decide +kernel,by decide +kernel⟩ rfl rfl rfl fun bF A outer s H E hr m u c cm ck nd=>by
 exact(cc (dJ m (dI (o:=.eq) u (bJ (jv 1) ji) js) (cc (bU m (L8 u (jU (W "Table") Z.c_Table Z.a_Table_row_of (jv 0)) (bJ (jv 1) ji)))
 c0) c0)
 (cc (bU m (L8 u (jU (W "Table") Z.c_Table Z.a_Table_row_of (jv 0)) (jv 1)))
 c0))
noncomputable abbrev Lb:List Str:=["self","memory","setting","held","word","place","part_rows","parts"]
theorem Gf {k:Nat}(T:TT K mg)(Z:Zt K mg)(IH:IT P w base T k):OT P w base T k 22 :=
 dZ 22 (fn:=sG) (N:=Lb) T IH rfl ⟨rfl,rfl,rfl,by decide +kernel,rfl,by decide +kernel,by decide +kernel⟩ rfl rfl rfl fun bF A outer s H E hr m u c cm ck nd=>by
 exact(cc (wC (i:=3) m nd (jl an))
 (cc (sf m (iv (jU (W "Table") Z.c_Table Z.a_Table_rows (jv 0))) (gt (gc (gn (i:=4) nd) (gc (gn (i:=5) nd) (gc (gn (i:=6) nd) nn)))) (cc (QK (i:=7) m nd (own:=["row"]) (cn:=["held"]) (aK:=[3]) (one:=true) (gN (on:=(aJ (cC 22)).names) (N:=Lb) (by decide +kernel)) (iv (jv 6)) (fun _ _ _ _=>(b1 (gn (show(["row","held"]:List Str).Nodup by decide +kernel)))) (fun _ _ _ _=>qn) (fun _ _ _ _=>(bJ (aX 1) (jv 0))))
 (cc (dJ m (dI (o:=.eq) u (jv 4) js) (cc (sx m (CU (aX 3) (ja (bJ (jv 2) (jv 5)) an)))
 c0) (cc (dJ m (dI (o:=.in_) u (jv 4) (jg Z.g_PAST_WORDS)) (cc (sx m (CU (aX 3) (ja (bX (c 17 rfl rfl) (ja (jv 4) (ja (bJ (jv 1) (jv 5)) (ja (jv 7) an)))) an)))
 c0) (cc (sx m (CU (aX 3) (ja (bX (c 16 rfl rfl) (ja (jv 4) (ja (jv 7) an))) an)))
 c0))
 c0))
 c0)))
 (cc (bU m (aX 3))
 c0)))
theorem Gs {k:Nat}(T:TT K mg)(Z:Zt K mg)(IH:IT P w base T k):OT P w base T k 23 :=
 dZ 23 (fn:=nN) (N:=["self","held"]) T IH rfl ⟨rfl,rfl,rfl,by decide +kernel,rfl,by decide +kernel,by decide +kernel⟩ rfl rfl rfl fun bF A outer s H E hr m u c cm ck nd=>by
 exact(cc (bU m (pS fS gF Z.b_tuple (ja (jA m (own:=["row"]) (cn:=["held"]) (aK:=[1]) (one:=true) (gN (on:=(aJ (cC 23)).names) (N:=["self", "held"]) (by decide +kernel)) (iv (jU (W "Table") Z.c_Table Z.a_Table_remembered_rows (jv 0))) (fun _ _ _ _=>(b1 (gn (show(["row","held"]:List Str).Nodup by decide +kernel)))) (fun _ _ _ _=>qn) (fun _ _ _ _=>(bJ (aX 1) (jv 0)))) an)))
 c0)
theorem Hh {k:Nat}(T:TT K mg)(Z:Zt K mg)(IH:IT P w base T k):OT P w base T k 24 :=
 dZ 24 (fn:=rJ) (N:=["self","book"]) T IH rfl ⟨rfl,rfl,rfl,by decide +kernel,rfl,by decide +kernel,by decide +kernel⟩ rfl rfl rfl fun bF A outer s H E hr m u c cm ck nd=>by
 exact(cc (zS m (W "Rules") Z.c_Rules Z.a_Rules_table (aX 0) (ZR (ck 18 (W "Table") rfl rfl) (ja (cM (op:=.add) (bJ (jv 1) ji) (bJ (jv 1) ji)) (ja (bX (c 13 rfl rfl) (ja (bJ (jv 1) ji) (ja (bJ (jv 1) ji) (ja (bJ (jv 1) ji) an)))) an))))
 (cc (zS m (W "Rules") Z.c_Rules Z.a_Rules_promise_rows (aX 0) (jA m (own:=["saying"]) (cn:=["self"]) (aK:=[0]) (one:=true) (gN (on:=(aJ (cC 24)).names) (N:=["self", "book"]) (by decide +kernel)) (iv (bJ (jv 1) ji)) (fun _ _ _ _=>(b1 (gn (show(["saying", "self"]:List Str).Nodup by decide +kernel)))) (fun _ _ _ _=>qn) (fun _ _ _ _=>(L8 u (jU (W "Table") Z.c_Table Z.a_Table_row_of (jU (W "Rules") Z.c_Rules Z.a_Rules_table (aX 1))) (jv 0)))))
 (cc (zS m (W "Rules") Z.c_Rules Z.a_Rules_must_rows (aX 0) (jA m (own:=["saying"]) (cn:=["self"]) (aK:=[0]) (one:=true) (gN (on:=(aJ (cC 24)).names) (N:=["self", "book"]) (by decide +kernel)) (iv (bJ (jv 1) ji)) (fun _ _ _ _=>(b1 (gn (show(["saying", "self"]:List Str).Nodup by decide +kernel)))) (fun _ _ _ _=>qn) (fun _ _ _ _=>(L8 u (jU (W "Table") Z.c_Table Z.a_Table_row_of (jU (W "Rules") Z.c_Rules Z.a_Rules_table (aX 1))) (jv 0)))))
 (cc (zS m (W "Rules") Z.c_Rules Z.a_Rules_priced_rows (aX 0) (jA m (own:=["wish"]) (cn:=["self"]) (aK:=[0]) (one:=true) (gN (on:=(aJ (cC 24)).names) (N:=["self", "book"]) (by decide +kernel)) (iv (bJ (jv 1) ji)) (fun _ _ _ _=>(b1 (gn (show(["wish", "self"]:List Str).Nodup by decide +kernel)))) (fun _ _ _ _=>qn) (fun _ _ _ _=>(jt m (ja (bJ (jv 0) ji) (ja (L8 u (jU (W "Table") Z.c_Table Z.a_Table_row_of (jU (W "Rules") Z.c_Rules Z.a_Rules_table (aX 1))) (bJ (jv 0) ji)) an))))))
 c0))))
theorem Ir {k:Nat}(T:TT K mg)(Z:Zt K mg)(IH:IT P w base T k):OT P w base T k 25 :=
 dZ 25 (fn:=qC) (N:=["self","held"]) T IH rfl ⟨rfl,rfl,rfl,by decide +kernel,rfl,by decide +kernel,by decide +kernel⟩ rfl rfl rfl fun bF A outer s H E hr m u c cm ck nd=>by
 exact(cc (bU m (eO (iN hr.hd) nM Z.b_all (ja (jA m (own:=["row"]) (cn:=["held"]) (aK:=[1]) (one:=true) (gN (on:=(aJ (cC 25)).names) (N:=["self", "held"]) (by decide +kernel)) (iv (jU (W "Rules") Z.c_Rules Z.a_Rules_promise_rows (jv 0))) (fun _ _ _ _=>(b1 (gn (show(["row","held"]:List Str).Nodup by decide +kernel)))) (fun _ _ _ _=>qn) (fun _ _ _ _=>(bJ (aX 1) (jv 0)))) an)))
 c0)
theorem Ge {k:Nat}(T:TT K mg)(Z:Zt K mg)(IH:IT P w base T k):OT P w base T k 26 :=
 dZ 26 (fn:=mT) (N:=["self","held"]) T IH rfl ⟨rfl,rfl,rfl,by decide +kernel,rfl,by decide +kernel,by decide +kernel⟩ rfl rfl rfl fun bF A outer s H E hr m u c cm ck nd=>by
 exact(cc (bU m (eO (iN hr.hd) nM Z.b_all (ja (jA m (own:=["row"]) (cn:=["held"]) (aK:=[1]) (one:=true) (gN (on:=(aJ (cC 26)).names) (N:=["self", "held"]) (by decide +kernel)) (iv (jU (W "Rules") Z.c_Rules Z.a_Rules_must_rows (jv 0))) (fun _ _ _ _=>(b1 (gn (show(["row","held"]:List Str).Nodup by decide +kernel)))) (fun _ _ _ _=>qn) (fun _ _ _ _=>(bJ (aX 1) (jv 0)))) an)))
 c0)
theorem Iw {k:Nat}(T:TT K mg)(Z:Zt K mg)(IH:IT P w base T k):OT P w base T k 27 :=
 dZ 27 (fn:=sH) (N:=["self","held"]) T IH rfl ⟨rfl,rfl,rfl,by decide +kernel,rfl,by decide +kernel,by decide +kernel⟩ rfl rfl rfl fun bF A outer s H E hr m u c cm ck nd=>by
 exact(cc (bU m (eO (E9 hr.hd) Q8 Z.b_sum (ja (jA m (own:=["price", "row"]) (cn:=["held"]) (aK:=[1]) (one:=false) (gN (on:=(aJ (cC 27)).names) (N:=["self", "held"]) (by decide +kernel)) (iv (jU (W "Rules") Z.c_Rules Z.a_Rules_priced_rows (jv 0))) (fun _ _ _ _=>(bt (gc (gn (i:=0) (show(["price","row","held"]:List Str).Nodup by decide +kernel)) (gc (gn (i:=1) (show(["price","row","held"]:List Str).Nodup by decide +kernel)) nn)))) (fun _ _ _ _=>(qc (nV (tp (bJ (aX 2) (jv 1)))) qn)) (fun _ _ _ _=>(jv 0))) an)))
 c0)
theorem Ke {k:Nat}(T:TT K mg)(Z:Zt K mg)(IH:IT P w base T k):OT P w base T k 28 :=
 dZ 28 (fn:=xR) (N:=["thing","lamps"]) T IH rfl ⟨rfl,rfl,rfl,by decide +kernel,rfl,by decide +kernel,by decide +kernel⟩ rfl rfl rfl fun bF A outer s H E hr m u c cm ck nd=>by
 exact(cc (bU m (lJ (C6 (t:=.tuple) gF Z.b_isinstance Z.b_tuple (jv 0)) (lJ (mV (o:=.eq) u (eO cW fB Z.b_len (ja (jv 0) an)) (jv 1)) (kU (eO (iN hr.hd) nM Z.b_all (ja (jA m (own:=["part"]) (cn:=[]) (aK:=[]) (one:=true) (gN (on:=(aJ (cC 28)).names) (N:=["thing","lamps"]) (by decide +kernel)) (iv (jv 0)) (fun _ _ _ _=>(b1 (gn (show(["part"]:List Str).Nodup by decide +kernel)))) (fun _ _ _ _=>qn) (fun _ _ _ _=>(C6 (t:=.bool) LS Z.b_isinstance Z.b_bool (jv 0)))) an))))))
 c0)
noncomputable abbrev Lh:List Str:=["book","play","lamps"]
theorem Kd {k:Nat}(T:TT K mg)(Z:Zt K mg)(IH:IT P w base T k):OT P w base T k 29 :=
 dZ 29 (fn:=uC) (N:=Lh) T IH rfl ⟨rfl,rfl,rfl,by decide +kernel,rfl,by decide +kernel,by decide +kernel⟩ rfl rfl rfl fun bF A outer s H E hr m u c cm ck nd=>by
 exact(cc (wC (i:=2) m nd (cM (op:=.add) (eO cW fB Z.b_len (ja (bJ (jv 0) ji) an)) (eO cW fB Z.b_len (ja (bJ (jv 0) ji) an))))
 (cc (dJ m (tK (wD m (nV (tp (C6 (t:=.list) qM Z.b_isinstance Z.b_list (jv 1)))) (uK (nV (tp (eO (iN hr.hd) nM Z.b_all (ja (jA m (own:=["setting"]) (cn:=["lamps"]) (aK:=[2]) (one:=true) (gN (on:=(aJ (cC 29)).names) (N:=Lh) (by decide +kernel)) (iv (jv 1)) (fun _ _ _ _=>(b1 (gn (show(["setting","lamps"]:List Str).Nodup by decide +kernel)))) (fun _ _ _ _=>qn) (fun _ _ _ _=>(bX ((c 28 rfl rfl).oX) (ja (jv 0) (ja (aX 1) an))))) an))))))) (cc (Kv m)
 c0) c0)
 (cc (bU m (jv 1))
 c0)))
theorem Ib {k:Nat}(T:TT K mg)(Z:Zt K mg)(IH:IT P w base T k)(IL:Ej P w K mg base k):OT P w base T k 30 :=
 Na 30 (fn:=tV) (N:=["table","play","tell","told","memory","setting","held"]) T IH IL rfl ⟨rfl,rfl,rfl,by decide +kernel,rfl,by decide +kernel,by decide +kernel⟩ rfl rfl rfl fun bF A outer s H E hr m u c cm ck nd L=>by
 exact(cc (sn (i:=3) m nd (jl an))
 (cc (sn (i:=4) m nd (jU (W "Table") Z.c_Table Z.a_Table_first_memory (jv 0)))
 (cc (MF (i:=5) m nd (iv (jv 1)) (cc (sn (i:=6) m nd (CY (mm:=W "held_at") (cm 22 (W "Table") rfl rfl) (jv 0) (ja (jv 4) (ja (jv 5) an))))
 (cc (sx m (CU (jv 3) (ja (Oj 2 L (ja (jv 6) an)) an)))
 (cc (sn (i:=4) m nd (CY (mm:=W "memory_after") (cm 23 (W "Table") rfl rfl) (jv 0) (ja (jv 6) an)))
 c0))))
 (cc (bU m (jv 3))
 c0))))
theorem Ig {k:Nat}(T:TT K mg)(Z:Zt K mg)(IH:IT P w base T k):OT P w base T k 31 :=
 dZ 31 (fn:=nC) (N:=["kept"]) T IH rfl ⟨rfl,rfl,rfl,by decide +kernel,rfl,by decide +kernel,by decide +kernel⟩ rfl rfl rfl fun bF A outer s H E hr m u c cm ck nd=>by
 exact(cc (dJ m (dI (o:=.in_) u jb (jv 0)) (cc (bU m (M3 m u (jv 0) (ja jb an)))
 c0) c0)
 (cc (bU m jn)
 c0))
noncomputable abbrev Ez:List Str:=["book","play","rules","kept"]
theorem Gr {k:Nat}(T:TT K mg)(Z:Zt K mg)(IH:IT P w base T k)(B:rD mg base)(TC:∀ i,i<46->∀ c,LV i=some c->(T.fd i).code=.ref c):OT P w base T k 32 :=
 Ac 32 (fn:=tY) (N:=Ez) T IH (TC 32 (by decide) _ rfl) rfl ⟨rfl,rfl,rfl,by decide +kernel,rfl,by decide +kernel,by decide +kernel⟩ rfl rfl rfl fun A outer s H E hr m u c cm ck nd=>by
 exact(cc (sx m (bX (c 15 rfl rfl) (ja (jv 0) an)))
 (cc (sx m (bX (c 29 rfl rfl) (ja (jv 0) (ja (jv 1) an))))
 (cc (wC (i:=2) m nd (ZR (ck 24 (W "Rules") rfl rfl) (ja (jv 0) an)))
 (cc (sn (i:=3) m nd (Ll eF (c 30 rfl rfl) (jU (W "Rules") Z.c_Rules Z.a_Rules_table (aX 2)) (jv 1) B rfl rfl (fun _=>rfl)))
 (cc (bU m (jt m (ja (bX (c 31 rfl rfl) (ja (jA m (own:=["turn"]) (cn:=[]) (aK:=[]) (one:=true) (gN (on:=(aJ (cC 32)).names) (N:=Ez) (by decide +kernel)) (iv (jv 3)) (fun _ _ _ _=>(b1 (gn (show(["turn"]:List Str).Nodup by decide +kernel)))) (fun _ _ _ _=>qn) (fun _ _ _ _=>(bJ (jv 0) ji))) an)) (ja (bX (c 31 rfl rfl) (ja (jA m (own:=["turn"]) (cn:=[]) (aK:=[]) (one:=true) (gN (on:=(aJ (cC 32)).names) (N:=Ez) (by decide +kernel)) (iv (jv 3)) (fun _ _ _ _=>(b1 (gn (show(["turn"]:List Str).Nodup by decide +kernel)))) (fun _ _ _ _=>qn) (fun _ _ _ _=>(bJ (jv 0) ji))) an)) an))))
 c0)))))
theorem Jh {k:Nat}(T:TT K mg)(Z:Zt K mg)(IH:IT P w base T k)(B:rD mg base)(TC:∀ i,i<46->∀ c,LV i=some c->(T.fd i).code=.ref c):OT P w base T k 33 :=
 Ac 33 (fn:=KR) (N:=["book","play","rules"]) T IH (TC 33 (by decide) _ rfl) rfl ⟨rfl,rfl,rfl,by decide +kernel,rfl,by decide +kernel,by decide +kernel⟩ rfl rfl rfl fun A outer s H E hr m u c cm ck nd=>by
 exact(cc (sx m (bX (c 15 rfl rfl) (ja (jv 0) an)))
 (cc (sx m (bX (c 29 rfl rfl) (ja (jv 0) (ja (jv 1) an))))
 (cc (wC (i:=2) m nd (ZR (ck 24 (W "Rules") rfl rfl) (ja (jv 0) an)))
 (cc (bU m (Ll gY (c 30 rfl rfl) (jU (W "Rules") Z.c_Rules Z.a_Rules_table (aX 2)) (jv 1) B rfl rfl (fun _=>rfl)))
 c0))))
theorem Iu {k:Nat}(T:TT K mg)(Z:Zt K mg)(IH:IT P w base T k):OT P w base T k 34 :=
 dZ 34 (fn:=tN) (N:=["_law_script","_law_k"]) T IH rfl ⟨rfl,rfl,rfl,by decide +kernel,rfl,by decide +kernel,by decide +kernel⟩ rfl rfl rfl fun bF A outer s H E hr m u c cm ck nd=>by
 exact(cc (dJ m (dI (o:=.lt) u (jv 1) (eO cW fB Z.b_len (ja (jv 0) an))) (cc (bU m (bJ (jv 0) (jv 1)))
 c0) c0)
 (cc (dJ m (dI (o:=.eq) u (jv 0) (jl an)) (cc (bU m ji)
 c0) c0)
 (cc (bU m (cM (op:=.add) (cM (op:=.mul) (bJ (jv 0) (cM (op:=.mod) (jv 1) (eO cW fB Z.b_len (ja (jv 0) an)))) ji) (jv 1)))
 c0)))
theorem Gw {k:Nat}(T:TT K mg)(Z:Zt K mg)(IH:IT P w base T k):OT P w base T k 35 :=
 dZ 35 (fn:=yK) (N:=["_law_script","_law_k","_law_many","_law_drawn"]) T IH rfl ⟨rfl,rfl,rfl,by decide +kernel,rfl,by decide +kernel,by decide +kernel⟩ rfl rfl rfl fun bF A outer s H E hr m u c cm ck nd=>by
 exact(cc (sn (i:=3) m nd (cM (op:=.mod) (cM (op:=.mul) (cM (op:=.add) (cM (op:=.add) (bX (c 34 rfl rfl) (ja (jv 0) (ja (jv 1) an))) (cM (op:=.mul) ji (jv 1))) ji) ji) ji))
 (cc (bU m (cM (op:=.mod) (cM (op:=.mod) (cM (op:=.add) (cM (op:=.add) (cM (op:=.mul) (jv 3) (jv 3)) (cM (op:=.mul) ji (jv 3))) (jv 1)) ji) (jv 2)))
 c0))
theorem Gp {k:Nat}(T:TT K mg)(Z:Zt K mg)(IH:IT P w base T k):OT P w base T k 36 :=
 dZ 36 (fn:=zV) (N:=["_law_script","_law_m","_law_many"]) T IH rfl ⟨rfl,rfl,rfl,by decide +kernel,rfl,by decide +kernel,by decide +kernel⟩ rfl rfl rfl fun bF A outer s H E hr m u c cm ck nd=>by
 exact(cc (sg m (cM (op:=.add) (bJ (jv 1) ji) ji) (gi (jv 1) ji))
 (cc (bU m (bX (c 35 rfl rfl) (ja (jv 0) (ja (bJ (jv 1) ji) (ja (jv 2) an)))))
 c0))
theorem Gx {k:Nat}(T:TT K mg)(Z:Zt K mg)(IH:IT P w base T k):OT P w base T k 37 :=
 dZ 37 (fn:=yB) (N:=["_law_script","_law_m","_law_some","_law_turn","_law_row","_law_foe","_law_friend"]) T IH rfl ⟨rfl,rfl,rfl,by decide +kernel,rfl,by decide +kernel,by decide +kernel⟩ rfl rfl rfl fun bF A outer s H E hr m u c cm ck nd=>by
 exact(cc (sn (i:=2) m nd (jl (ja js (ja js (ja js (ja js (ja js (ja js (ja js (ja js an))))))))))
 (cc (sn (i:=3) m nd (bX (c 36 rfl rfl) (ja (jv 0) (ja (jv 1) (ja ji an)))))
 (cc (sn (i:=4) m nd (cM (op:=.add) (GJ (jv 2) (os (jv 3)) on) (GJ (jv 2) on (os (jv 3)))))
 (cc (sn (i:=5) m nd (cM (op:=.add) ji (bX (c 36 rfl rfl) (ja (jv 0) (ja (jv 1) (ja ji an))))))
 (cc (sn (i:=6) m nd (cM (op:=.add) ji (bX (c 36 rfl rfl) (ja (jv 0) (ja (jv 1) (ja ji an))))))
 (cc (bU m (jt m (ja (pS fS gF Z.b_tuple (ja (GJ (jv 4) on (os (jv 5))) an)) (ja (pS fS gF Z.b_tuple (ja (GJ (jv 4) (os (jv 5)) (os (cM (op:=.add) (jv 5) (jv 6)))) an)) an))))
 c0))))))
theorem Jk {k:Nat}(T:TT K mg)(Z:Zt K mg)(IH:IT P w base T k):OT P w base T k 38 :=
 dZ 38 (fn:=wH) (N:=["_law_script","_law_m","_law_names_here","_law_deep","_law_left","_law_way","_law_one"]) T IH rfl ⟨rfl,rfl,rfl,by decide +kernel,rfl,by decide +kernel,by decide +kernel⟩ rfl rfl rfl fun bF A outer s H E hr m u c cm ck nd=>by
 exact(cc (sn (i:=5) m nd (bX (c 36 rfl rfl) (ja (jv 0) (ja (jv 1) (ja ji an)))))
 (cc (dJ m (tK (wD m (dI (o:=.eq) u (jv 3) ji) (uK (dI (o:=.lt) u (jv 5) ji)))) (cc (bU m (jt m (ja js (ja (bJ (jv 2) (bX (c 36 rfl rfl) (ja (jv 0) (ja (jv 1) (ja (eO cW fB Z.b_len (ja (jv 2) an)) an))))) an))))
 c0) c0)
 (cc (dJ m (dI (o:=.eq) u (jv 5) ji) (cc (bU m (jt m (ja (bJ (jl (ja js (ja js an))) (bX (c 36 rfl rfl) (ja (jv 0) (ja (jv 1) (ja ji an))))) an)))
 c0) c0)
 (cc (dJ m (tK (ZM m (dI (o:=.gt) u (jv 5) ji) (uK (dI (o:=.gt) u (bJ (jv 4) ji) ji)))) (cc (sg m (cM (op:=.sub) (bJ (jv 4) ji) ji) (gi (jv 4) ji))
 (cc (sn (i:=6) m nd (bX (c 38 rfl rfl) (ja (jv 0) (ja (jv 1) (ja (jv 2) (ja (cM (op:=.sub) (jv 3) ji) (ja (jv 4) an)))))))
 (cc (dJ m (dI (o:=.eq) u (jv 5) ji) (cc (bU m (jt m (ja js (ja (jv 6) (ja (bX (c 38 rfl rfl) (ja (jv 0) (ja (jv 1) (ja (jv 2) (ja (cM (op:=.sub) (jv 3) ji) (ja (jv 4) an)))))) an)))))
 c0) c0)
 (cc (bU m (jt m (ja (bJ (jl (ja js (ja js (ja js an)))) (cM (op:=.sub) (jv 5) ji)) (ja (jv 6) an))))
 c0)))) c0)
 (cc (sn (i:=6) m nd (bX (c 38 rfl rfl) (ja (jv 0) (ja (jv 1) (ja (jv 2) (ja (cM (op:=.sub) (jv 3) ji) (ja (jv 4) an)))))))
 (cc (dJ m (tK (wD m (dI (o:=.eq) u (jv 5) ji) (uK (dI (o:=.gt) u (jv 5) ji)))) (cc (bU m (jt m (ja js (ja (jv 6) an))))
 c0) c0)
 (cc (bU m (jt m (ja (bJ (jl (ja js (ja js (ja js (ja js an))))) (cM (op:=.sub) (jv 5) ji)) (ja (jv 6) (ja (bX (c 38 rfl rfl) (ja (jv 0) (ja (jv 1) (ja (jv 2) (ja (cM (op:=.sub) (jv 3) ji) (ja (jv 4) an)))))) an)))))
 c0)))))))
theorem Fz {k:Nat}(T:TT K mg)(Z:Zt K mg)(IH:IT P w base T k):OT P w base T k 39 :=
 dZ 39 (fn:=uJ) (N:=["_law_script","_law_m","_law_foe","_law_names_here","_law_left","_law_one","_law_other"]) T IH rfl ⟨rfl,rfl,rfl,by decide +kernel,rfl,by decide +kernel,by decide +kernel⟩ rfl rfl rfl fun bF A outer s H E hr m u c cm ck nd=>by
 exact(cc (sn (i:=5) m nd (bX (c 38 rfl rfl) (ja (jv 0) (ja (jv 1) (ja (jv 2) (ja ji (ja (jl (ja ji an)) an)))))))
 (cc (dJ m (tK (ZM m (dI (o:=.gt) u (bJ (jv 4) ji) ji) (uK (dI (o:=.eq) u (bX (c 36 rfl rfl) (ja (jv 0) (ja (jv 1) (ja ji an)))) ji)))) (cc (sg m (cM (op:=.sub) (bJ (jv 4) ji) ji) (gi (jv 4) ji))
 (cc (sn (i:=6) m nd (bX (c 38 rfl rfl) (ja (jv 0) (ja (jv 1) (ja (jv 3) (ja ji (ja (jl (ja ji an)) an)))))))
 (cc (bU m (jt m (ja (bJ (jl (ja js (ja js (ja js an)))) (bX (c 36 rfl rfl) (ja (jv 0) (ja (jv 1) (ja ji an))))) (ja (jt m (ja js (ja (jv 6) an))) (ja (jv 5) an)))))
 c0))) c0)
 (cc (bU m (jv 5))
 c0)))
noncomputable abbrev En:List Str:=["_law_script","_law_at","_law_pieces","_law_musts","_law_m","_law_foe","_law_friend","_law_names_here","_law_left","_law_wishes","_law_k","_law_price","_law_some","_law_known"]
theorem Gd {k:Nat}(T:TT K mg)(Z:Zt K mg)(IH:IT P w base T k):OT P w base T k 40 :=
 dZ 40 (fn:=AU) (N:=En) T IH rfl ⟨rfl,rfl,rfl,by decide +kernel,rfl,by decide +kernel,by decide +kernel⟩ rfl rfl rfl fun bF A outer s H E hr m u c cm ck nd=>by
 exact(cc (wC (i:=4) m nd (jl (ja (jv 1) an)))
 (cc (sg m (bX (c 37 rfl rfl) (ja (aX 0) (ja (aX 4) an))) (gt (gc (Pf (i:=5) nd) (gc (gn (i:=6) nd) nn))))
 (cc (wC (i:=7) m nd (cM (op:=.add) (aX 5) (jv 6)))
 (cc (wC (i:=8) m nd (jl (ja (bX (c 36 rfl rfl) (ja (aX 0) (ja (aX 4) (ja (cM (op:=.add) (jv 2) ji) an)))) an)))
 (cc (sn (i:=9) m nd (jl an))
 (cc (MF (i:=10) m nd (KQ m Z.b_range (ja (cM (op:=.add) ji (bX (c 36 rfl rfl) (ja (aX 0) (ja (aX 4) (ja ji an))))) an)) (cc (sn (i:=11) m nd (cM (op:=.add) ji (bX (c 36 rfl rfl) (ja (aX 0) (ja (aX 4) (ja (bJ (jl (ja ji (ja ji (ja ji an)))) (bX (c 36 rfl rfl) (ja (aX 0) (ja (aX 4) (ja ji an))))) an))))))
 (cc (sx m (CU (jv 9) (ja (jt m (ja (jv 11) (ja (bX (c 38 rfl rfl) (ja (aX 0) (ja (aX 4) (ja (aX 7) (ja ji (ja (aX 8) an)))))) an))) an)))
 c0)))
 (cc (QK (i:=12) m nd (own:=["_law_k"]) (cn:=["_law_script","_law_m","_law_names_here","_law_left"]) (aK:=[0,4,7,8]) (one:=true) (gN (on:=(aJ (cC 40)).names) (N:=En) (by decide +kernel)) (KQ m Z.b_range (ja (bX (c 36 rfl rfl) (ja (aX 0) (ja (aX 4) (ja (cM (op:=.add) (jv 3) ji) an)))) an)) (fun _ _ _ _=>(b1 (gn (show(["_law_k","_law_script","_law_m","_law_names_here","_law_left"]:List Str).Nodup by decide +kernel)))) (fun _ _ _ _=>qn) (fun _ _ _ _=>(bX ((c 38 rfl rfl).oX) (ja (aX 1) (ja (aX 2) (ja (aX 3) (ja ji (ja (aX 4) an))))))))
 (cc (QK (i:=13) m nd (own:=["_law_k"]) (cn:=["_law_script","_law_m","_law_foe","_law_names_here","_law_left"]) (aK:=[0,4,5,7,8]) (one:=true) (gN (on:=(aJ (cC 40)).names) (N:=En) (by decide +kernel)) (KQ m Z.b_range (ja (bX (c 36 rfl rfl) (ja (aX 0) (ja (aX 4) (ja ji an)))) an)) (fun _ _ _ _=>(b1 (gn (show(["_law_k","_law_script","_law_m","_law_foe","_law_names_here","_law_left"]:List Str).Nodup by decide +kernel)))) (fun _ _ _ _=>qn) (fun _ _ _ _=>(bX ((c 39 rfl rfl).oX) (ja (aX 1) (ja (aX 2) (ja (aX 3) (ja (aX 4) (ja (aX 5) an))))))))
 (cc (bU m (jt m (ja (aX 5) (ja (jv 6) (ja (pS fS gF Z.b_tuple (ja (jv 13) an)) (ja (pS fS gF Z.b_tuple (ja (jv 12) an)) (ja (pS fS gF Z.b_tuple (ja (jv 9) an)) an)))))))
 c0)))))))))
noncomputable abbrev Ld:List Str:=["_law_script","_law_at","_law_lamps","_law_most","_law_seed","_law_made","_law_k","_law_drawn"]
theorem Kt {k:Nat}(T:TT K mg)(Z:Zt K mg)(IH:IT P w base T k):OT P w base T k 41 :=
 dZ 41 (fn:=AK) (N:=Ld) T IH rfl ⟨rfl,rfl,rfl,by decide +kernel,rfl,by decide +kernel,by decide +kernel⟩ rfl rfl rfl fun bF A outer s H E hr m u c cm ck nd=>by
 exact(cc (sn (i:=4) m nd (bX (c 35 rfl rfl) (ja (jv 0) (ja (jv 1) (ja (cM (op:=.pow) ji ji) an)))))
 (cc (sn (i:=5) m nd (jl an))
 (cc (MF (i:=6) m nd (KQ m Z.b_range (ja (bX (c 35 rfl rfl) (ja (jv 0) (ja (cM (op:=.add) (jv 1) ji) (ja (cM (op:=.add) (jv 3) ji) an)))) an)) (cc (wC (i:=7) m nd (cM (op:=.mod) (cM (op:=.mul) (cM (op:=.add) (cM (op:=.add) (jv 4) (cM (op:=.mul) (cM (op:=.mul) ji (jv 6)) (jv 6))) (cM (op:=.mul) ji (jv 6))) ji) ji))
 (cc (sx m (CU (jv 5) (ja (pS fS gF Z.b_tuple (ja (jA m (own:=["_law_j"]) (cn:=["_law_drawn"]) (aK:=[7]) (one:=true) (gN (on:=(aJ (cC 41)).names) (N:=Ld) (by decide +kernel)) (KQ m Z.b_range (ja (jv 2) an)) (fun _ _ _ _=>(b1 (gn (show(["_law_j","_law_drawn"]:List Str).Nodup by decide +kernel)))) (fun _ _ _ _=>qn) (fun _ _ _ _=>(mV (o:=.eq) u (cM (op:=.mod) (cM (op:=.fdiv) (aX 1) (bJ (jl (ja ji (ja ji (ja ji (ja ji an))))) (jv 0))) ji) ji))) an)) an)))
 c0)))
 (cc (bU m (jv 5))
 c0))))
noncomputable abbrev Fm:List Str:=["_law_names_here","_law_saying_here","_law_play_here","_law_turn","_law_head","_law_k","_law_one","_law_other"]
theorem Iz {k:Nat}(T:TT K mg)(Z:Zt K mg)(IH:IT P w base T k):OT P w base T k 42 :=
 dZ 42 (fn:=yA) (N:=Fm) T IH rfl ⟨rfl,rfl,rfl,by decide +kernel,rfl,by decide +kernel,by decide +kernel⟩ rfl rfl rfl fun bF A outer s H E hr m u c cm ck nd=>by
 exact(cc (sn (i:=4) m nd (bJ (aX 1) ji))
 (cc (dJ m (dI (o:=.eq) u (jv 4) js) (cc (bU m (bJ (bJ (aX 2) (jv 3)) (M3 m u (aX 0) (ja (bJ (aX 1) ji) an))))
 c0) c0)
 (cc (dJ m (tK (wD m (dI (o:=.eq) u (jv 4) js) (uK (dI (o:=.eq) u (jv 4) js)))) (cc (bU m (mV (o:=.eq) u (jv 4) js))
 c0) c0)
 (cc (dJ m (dI (o:=.eq) u (jv 4) js) (cc (bU m (lJ (mV (o:=.gt) u (jv 3) ji) (kU (bX (c 42 rfl rfl) (ja (aX 0) (ja (bJ (aX 1) ji) (ja (aX 2) (ja (cM (op:=.sub) (jv 3) ji) an))))))))
 c0) c0)
 (cc (dJ m (dI (o:=.eq) u (jv 4) js) (cc (bU m (mV (o:=.ne) u (jA m (own:=["_law_k"]) (cn:=["_law_names_here","_law_saying_here","_law_play_here"]) (aK:=[0,1,2]) (one:=true) (gN (on:=(aJ (cC 42)).names) (N:=Fm) (by decide +kernel)) (KQ m Z.b_range (ja (cM (op:=.add) (jv 3) ji) an)) (fun _ _ _ _=>(b1 (gn (show(["_law_k","_law_names_here","_law_saying_here","_law_play_here"]:List Str).Nodup by decide +kernel)))) (fun _ _ _ _=>(qc (tp (bX ((c 42 rfl rfl).oX) (ja (aX 1) (ja (bJ (aX 2) ji) (ja (aX 3) (ja (jv 0) an)))))) qn)) (fun _ _ _ _=>(jv 0))) (jl an)))
 c0) c0)
 (cc (dJ m (dI (o:=.eq) u (jv 4) js) (cc (bU m (mV (o:=.eq) u (jA m (own:=["_law_k"]) (cn:=["_law_names_here","_law_saying_here","_law_play_here"]) (aK:=[0,1,2]) (one:=true) (gN (on:=(aJ (cC 42)).names) (N:=Fm) (by decide +kernel)) (KQ m Z.b_range (ja (cM (op:=.add) (jv 3) ji) an)) (fun _ _ _ _=>(b1 (gn (show(["_law_k","_law_names_here","_law_saying_here","_law_play_here"]:List Str).Nodup by decide +kernel)))) (fun _ _ _ _=>(qc (nV (tp (bX ((c 42 rfl rfl).oX) (ja (aX 1) (ja (bJ (aX 2) ji) (ja (aX 3) (ja (jv 0) an))))))) qn)) (fun _ _ _ _=>(jv 0))) (jl an)))
 c0) c0)
 (cc (dJ m (dI (o:=.eq) u (jv 4) js) (cc (MF (i:=5) m nd (Pc m Z.b_range (ja (jv 3) (ja (Ky ji) (ja (Ky ji) an)))) (cc (dJ m (tp (bX (c 42 rfl rfl) (ja (aX 0) (ja (bJ (aX 1) ji) (ja (aX 2) (ja (jv 5) an)))))) (cc (bU m jb)
 c0) c0)
 (cc (dJ m (nV (tp (bX (c 42 rfl rfl) (ja (aX 0) (ja (bJ (aX 1) ji) (ja (aX 2) (ja (jv 5) an))))))) (cc (bU m jb)
 c0) c0)
 c0)))
 (cc (bU m jb)
 c0)) c0)
 (cc (sn (i:=6) m nd (bX (c 42 rfl rfl) (ja (aX 0) (ja (bJ (aX 1) ji) (ja (aX 2) (ja (jv 3) an))))))
 (cc (dJ m (dI (o:=.eq) u (jv 4) js) (cc (bU m (MK (jv 6)))
 c0) c0)
 (cc (sn (i:=7) m nd (bX (c 42 rfl rfl) (ja (aX 0) (ja (bJ (aX 1) ji) (ja (aX 2) (ja (jv 3) an))))))
 (cc (dJ m (dI (o:=.eq) u (jv 4) js) (cc (bU m (lJ (jv 6) (kU (jv 7))))
 c0) c0)
 (cc (dJ m (dI (o:=.eq) u (jv 4) js) (cc (bU m (MR (jv 6) (kU (jv 7))))
 c0) c0)
 (cc (dJ m (dI (o:=.eq) u (jv 4) js) (cc (bU m (MR (jv 7) (kU (MK (jv 6)))))
 c0) c0)
 (cc (bU m (mV (o:=.eq) u (jv 6) (jv 7)))
 c0))))))))))))))
noncomputable abbrev Lc:List Str:=["_law_names_here","_law_sayings","_law_play_here"]
theorem Jm {k:Nat}(T:TT K mg)(Z:Zt K mg)(IH:IT P w base T k):OT P w base T k 43 :=
 dZ 43 (fn:=AS) (N:=Lc) T IH rfl ⟨rfl,rfl,rfl,by decide +kernel,rfl,by decide +kernel,by decide +kernel⟩ rfl rfl rfl fun bF A outer s H E hr m u c cm ck nd=>by
 exact(cc (bU m (mV (o:=.eq) u (jA m (own:=["_law_saying_here"]) (cn:=["_law_names_here","_law_play_here"]) (aK:=[0,2]) (one:=true) (gN (on:=(aJ (cC 43)).names) (N:=Lc) (by decide +kernel)) (iv (jv 1)) (fun _ _ _ _=>(b1 (gn (show(["_law_saying_here","_law_names_here","_law_play_here"]:List Str).Nodup by decide +kernel)))) (fun _ _ _ _=>(qc (nV (tp (bX ((c 42 rfl rfl).oX) (ja (aX 1) (ja (jv 0) (ja (aX 2) (ja (cM (op:=.sub) (eO cW fB Z.b_len (ja (aX 2) an)) ji) an))))))) qn)) (fun _ _ _ _=>(jv 0))) (jl an)))
 c0)
noncomputable abbrev Lk:List Str:=["_law_book_here","_law_play_here","_law_names_here"]
theorem Ks {k:Nat}(T:TT K mg)(Z:Zt K mg)(IH:IT P w base T k):OT P w base T k 44 :=
 dZ 44 (fn:=zU) (N:=Lk) T IH rfl ⟨rfl,rfl,rfl,by decide +kernel,rfl,by decide +kernel,by decide +kernel⟩ rfl rfl rfl fun bF A outer s H E hr m u c cm ck nd=>by
 exact(cc (wC (i:=2) m nd (cM (op:=.add) (bJ (jv 0) ji) (bJ (jv 0) ji)))
 (cc (bU m (eO (E9 hr.hd) Q8 Z.b_sum (ja (jA m (own:=["_law_wish"]) (cn:=["_law_names_here","_law_play_here"]) (aK:=[2,1]) (one:=true) (gN (on:=(aJ (cC 44)).names) (N:=Lk) (by decide +kernel)) (iv (bJ (jv 0) ji)) (fun _ _ _ _=>(b1 (gn (show(["_law_wish","_law_names_here","_law_play_here"]:List Str).Nodup by decide +kernel)))) (fun _ _ _ _=>(qc (nV (tp (bX ((c 42 rfl rfl).oX) (ja (aX 1) (ja (bJ (jv 0) ji) (ja (aX 2) (ja (cM (op:=.sub) (eO cW fB Z.b_len (ja (aX 2) an)) ji) an))))))) qn)) (fun _ _ _ _=>(bJ (jv 0) ji))) an)))
 c0))
noncomputable abbrev Bn:List Str:=["_law_script","_law_book_here","_law_names_here","_law_play_here","_law_handed","_law_turns","_law_due","_law_some","_law_broken"]
theorem Jq {k:Nat}(T:TT K mg)(Z:Zt K mg)(IH:IT P w base T k):OT P w base T k 45 :=
 dZ 45 (fn:=VS) (N:=Bn) T IH rfl ⟨rfl,rfl,rfl,by decide +kernel,rfl,by decide +kernel,by decide +kernel⟩ rfl rfl rfl fun bF A outer s H E hr m u c cm ck nd=>by
 exact(cc (wC (i:=1) m nd (bX (c 40 rfl rfl) (ja (jv 0) (ja ji (ja ji (ja ji an))))))
 (cc (wC (i:=2) m nd (cM (op:=.add) (bJ (aX 1) ji) (bJ (aX 1) ji)))
 (cc (wC (i:=3) m nd (bX (c 41 rfl rfl) (ja (jv 0) (ja ji (ja (eO cW fB Z.b_len (ja (aX 2) an)) (ja ji an))))))
 (cc (sn (i:=4) m nd (pS vU qM Z.b_list (ja (aX 3) an)))
 (cc (sn (i:=5) m nd (Ph m Z.b_list Z.b_range (ja ji (ja (cM (op:=.add) (eO cW fB Z.b_len (ja (aX 3) an)) ji) an))))
 (cc (dJ m (dI (o:=.ne) u (bX (c 33 rfl rfl) (ja (aX 1) (ja (jv 4) an))) (jA m (own:=["_law_turn"]) (cn:=["_law_book_here","_law_play_here"]) (aK:=[1,3]) (one:=true) (gN (on:=(aJ (cC 45)).names) (N:=Bn) (by decide +kernel)) (iv (jv 5)) (fun _ _ _ _=>(b1 (gn (show(["_law_turn","_law_book_here","_law_play_here"]:List Str).Nodup by decide +kernel)))) (fun _ _ _ _=>qn) (fun _ _ _ _=>(bX ((c 44 rfl rfl).oX) (ja (aX 1) (ja (GJ (aX 2) on (os (jv 0))) an)))))) (cc (bU m jb)
 c0) c0)
 (cc (sn (i:=6) m nd (jl an))
 (cc (Mz (i:=7) m nd (iv (jt m (ja (bJ (aX 1) ji) (ja (bJ (aX 1) ji) an)))) (cc (QK (i:=8) m nd (own:=["_law_turn"]) (cn:=["_law_names_here","_law_some","_law_play_here"]) (aK:=[2,7,3]) (one:=true) (gN (on:=(aJ (cC 45)).names) (N:=Bn) (by decide +kernel)) (iv (jv 5)) (fun _ _ _ _=>(b1 (gn (show(["_law_turn","_law_names_here","_law_some","_law_play_here"]:List Str).Nodup by decide +kernel)))) (fun _ _ _ _=>(qc (nV (tp (bX ((c 43 rfl rfl).oX) (ja (aX 1) (ja (aX 2) (ja (GJ (aX 3) on (os (jv 0))) an)))))) qn)) (fun _ _ _ _=>(cM (op:=.sub) (jv 0) ji)))
 (cc (sx m (CU (jv 6) (ja (bJ (cM (op:=.add) (jv 8) (jl (ja jn an))) ji) an)))
 c0)))
 (cc (bU m (lJ (mV (o:=.eq) u (bX (c 32 rfl rfl) (ja (aX 1) (ja (jv 4) an))) (pS fS gF Z.b_tuple (ja (jv 6) an))) (kU (mV (o:=.eq) u (jv 4) (aX 3)))))
 c0)))))))))
theorem Kb {k:Nat}(T:TT K mg)(Z:Zt K mg)(IH:IT P w base T k):mN P w K mg base (2*k+1+1) (aM G (k+1)) 46 :=
 LP (T:=eF) (n:=2) (x:=(.tup [(.mcl (W "Rules") (W "foe_keeps") lE (.v 0) [(.v 1)]),(.mcl (W "Rules") (W "friend_keeps") jG (.v 0) [(.v 1)])])) rfl IY rfl rfl (fun _ _ _ _ us hl=>match us,hl with|[_],_=>rfl) fun clos a c' A outer s H hr=>by
 have m:=kX G (az k)
 have u:=B2 hr
 have c:=tG (X:=IS P w K mg base eF clos a c' A outer s H) T IH rfl rfl rfl rfl rfl hr
 have cm:=tU (X:=IS P w K mg base eF clos a c' A outer s H) T IH rfl rfl rfl rfl rfl hr
 exact(jt m (ja (CY (mm:=W "foe_keeps") (cm 25 (W "Rules") rfl rfl) (Ei 0) (ja (jv 1) an)) (ja (CY (mm:=W "friend_keeps") (cm 26 (W "Rules") rfl rfl) (Ei 0) (ja (jv 1) an)) an)))
theorem Gh {k:Nat}(T:TT K mg)(Z:Zt K mg)(IH:IT P w base T k):mN P w K mg base (2*k+1+1) (aM G (k+1)) 47 :=
 LP (T:=gY) (n:=2) (x:=(.mcl (W "Rules") (W "loss_at") nI (.v 0) [(.v 1)])) rfl IY rfl rfl (fun _ _ _ _ us hl=>match us,hl with|[_],_=>rfl) fun clos a c' A outer s H hr=>by
 have m:=kX G (az k)
 have u:=B2 hr
 have c:=tG (X:=IS P w K mg base gY clos a c' A outer s H) T IH rfl rfl rfl rfl rfl hr
 have cm:=tU (X:=IS P w K mg base gY clos a c' A outer s H) T IH rfl rfl rfl rfl rfl hr
 exact(CY (mm:=W "loss_at") (cm 27 (W "Rules") rfl rfl) (Ei 0) (ja (jv 1) an))
theorem Oi {k:Nat}(T:TT K mg)(Z:Zt K mg)(IH:IT P w base T k):∀ f Tx,LT f=some Tx->mN P w K mg base (2*k+1+1) (aM G (k+1)) f:=by
 intro f Tx h
 unfold LT at h
 split at h
 ·exact Kb T Z IH
 ·exact Gh T Z IH
 ·cases h
theorem Pj {k:Nat}(T:TT K mg)(Z:Zt K mg)(B:rD mg base)(TC:∀ i,i<46->∀ c,LV i=some c->(T.fd i).code=.ref c)(IH:IT P w base T k)(IL:Ej P w K mg base k):∀ i,i<46->OT P w base T k i
 |0,_=>Ni T Z IH
 |1,_=>Nl T Z IH
 |2,_=>Lq T Z IH
 |3,_=>Nx T Z IH
 |4,_=>Mt T Z IH
 |5,_=>Lw T Z IH
 |6,_=>Mo T Z IH
 |7,_=>Nj T Z IH
 |8,_=>Nv T Z IH
 |9,_=>Lr T Z IH
 |10,_=>Jr T Z IH
 |11,_=>Jf T Z IH
 |12,_=>Kf T Z IH
 |13,_=>Hb T Z IH
 |14,_=>Kh T Z IH
 |15,_=>Iy T Z IH
 |16,_=>Ha T Z IH
 |17,_=>Gc T Z IH
 |18,_=>Jx T Z IH
 |19,_=>Iq T Z IH
 |20,_=>Hz T Z IH
 |21,_=>Io T Z IH
 |22,_=>Gf T Z IH
 |23,_=>Gs T Z IH
 |24,_=>Hh T Z IH
 |25,_=>Ir T Z IH
 |26,_=>Ge T Z IH
 |27,_=>Iw T Z IH
 |28,_=>Ke T Z IH
 |29,_=>Kd T Z IH
 |30,_=>Ib T Z IH IL
 |31,_=>Ig T Z IH
 |32,_=>Gr T Z IH B TC
 |33,_=>Jh T Z IH B TC
 |34,_=>Iu T Z IH
 |35,_=>Gw T Z IH
 |36,_=>Gp T Z IH
 |37,_=>Gx T Z IH
 |38,_=>Jk T Z IH
 |39,_=>Fz T Z IH
 |40,_=>Gd T Z IH
 |41,_=>Kt T Z IH
 |42,_=>Iz T Z IH
 |43,_=>Jm T Z IH
 |44,_=>Ks T Z IH
 |45,_=>Jq T Z IH
 |n+46,h=>absurd h (by omega)
end
theorem S8:∀(ns:List Int)(st:aB),ns.length<=63->(∀ p∈[(eE,272),(gZ,277)],∃ P,st P=some (.cod p.1))->aM G 16 VH [.bI (ns.map .int)] st (fun d _=>d=.bl true) fun _ _=>False:=fun ns st _ hc =>
 Hm (k:=0) (G:=G) (κ1:=gZ) (κ2:=eE) (il:=VH) (ibo:=zQ) (ipl:=AO) (ils:=HU) (ill:=AL) (ik:=AF) (ibr:=tM) (inm:=xE) (dD:=cT) (is:=eG) (ipr:=tO) (im:=mU) (ic:=uL) (ibk:=wW) (ich:=xF) (icp:=oF) (ist:=xM) (iri:=lW) (iti:=qW) (io:=nF) (iz:=oK) (ie:=pP) (irr:=lN) (iw:=fN) (ipo:=rB) (ima:=nJ) (nU:=sD) (iph:=yP) (inh:=AJ) (itd:=nZ) (ilx:=qT) (ilo:=nI) (ibl:=lL) (ifk:=lE) (imk:=jG) (ift:=jP) (ih:=dY)
 (hc (gZ,277) (by simp)) (hc (eE,272) (by simp)) rfl rfl rfl rfl rfl rfl rfl rfl rfl
 (fun b B hs hd hc k st Q E hQ=>M1 (G:=G) (ir:=mC) (hX:=yF) (fE:=kS) (iy:=sY) (ia:=pQ) (iap:=uB) (io:=nF) (il:=AA) (iaw:=yC) (ipi:=oK) (ip:=C7) (iw:=GF) (ibk:=wW) (ih:=fN) (ib:=pV) rfl rfl rfl rfl rfl rfl rfl rfl rfl rfl rfl rfl rfl rfl rfl B hs hd hc hQ)
 rfl rfl rfl rfl rfl rfl rfl rfl rfl rfl rfl rfl rfl rfl rfl rfl rfl rfl rfl rfl rfl rfl rfl rfl rfl rfl rfl
theorem EY {α:Type}{P:List α->Prop}(h:∀ a0,P [a0]):∀ us:List α,us.length=1->P us
 |[a0],_=>h a0
theorem ln2 {α:Type}{P:List α->Prop}(h:∀ a0 a1,P [a0,a1]):∀ us:List α,us.length=2->P us
 |[a0,a1],_=>h a0 a1
theorem wO {α:Type}{P:List α->Prop}(h:∀ a0 a1 a2,P [a0,a1,a2]):∀ us:List α,us.length=3->P us
 |[a0,a1,a2],_=>h a0 a1 a2
theorem ZI {α:Type}{P:List α->Prop}(h:∀ a0 a1 a2 a3,P [a0,a1,a2,a3]):∀ us:List α,us.length=4->P us
 |[a0,a1,a2,a3],_=>h a0 a1 a2 a3
theorem Kz {α:Type}{P:List α->Prop}(h:∀ a0 a1 a2 a3 a4,P [a0,a1,a2,a3,a4]):∀ us:List α,us.length=5->P us
 |[a0,a1,a2,a3,a4],_=>h a0 a1 a2 a3 a4
theorem Ku:∀ i,i<46->DX (qB i) (fR i) (nG i) (cC i)
 |0,_=>fun _ _ _ _ _ _=>EY fun _=>rfl
 |1,_=>fun _ _ _ _ _ _=>ln2 fun _ _=>rfl
 |2,_=>fun _ _ _ _ _ _=>wO fun _ _ _=>rfl
 |3,_=>fun _ _ _ _ _ _=>EY fun _=>rfl
 |4,_=>fun _ _ _ _ _ _=>EY fun _=>rfl
 |5,_=>fun _ _ _ _ _ _=>wO fun _ _ _=>rfl
 |6,_=>fun _ _ _ _ _ _=>ln2 fun _ _=>rfl
 |7,_=>fun _ _ _ _ _ _=>wO fun _ _ _=>rfl
 |8,_=>fun _ _ _ _ _ _=>ln2 fun _ _=>rfl
 |9,_=>fun _ _ _ _ _ _=>wO fun _ _ _=>rfl
 |10,_=>fun _ _ _ _ _ _=>EY fun _=>rfl
 |11,_=>fun _ _ _ _ _ _=>ln2 fun _ _=>rfl
 |12,_=>fun _ _ _ _ _ _=>ln2 fun _ _=>rfl
 |13,_=>fun _ _ _ _ _ _=>wO fun _ _ _=>rfl
 |14,_=>fun _ _ _ _ _ _=>EY fun _=>rfl
 |15,_=>fun _ _ _ _ _ _=>EY fun _=>rfl
 |16,_=>fun _ _ _ _ _ _=>ln2 fun _ _=>rfl
 |17,_=>fun _ _ _ _ _ _=>wO fun _ _ _=>rfl
 |18,_=>fun _ _ _ _ _ _=>wO fun _ _ _=>rfl
 |19,_=>fun _ _ _ _ _ _=>ln2 fun _ _=>rfl
 |20,_=>fun _ _ _ _ _ _=>ln2 fun _ _=>rfl
 |21,_=>fun _ _ _ _ _ _=>ln2 fun _ _=>rfl
 |22,_=>fun _ _ _ _ _ _=>wO fun _ _ _=>rfl
 |23,_=>fun _ _ _ _ _ _=>ln2 fun _ _=>rfl
 |24,_=>fun _ _ _ _ _ _=>ln2 fun _ _=>rfl
 |25,_=>fun _ _ _ _ _ _=>ln2 fun _ _=>rfl
 |26,_=>fun _ _ _ _ _ _=>ln2 fun _ _=>rfl
 |27,_=>fun _ _ _ _ _ _=>ln2 fun _ _=>rfl
 |28,_=>fun _ _ _ _ _ _=>ln2 fun _ _=>rfl
 |29,_=>fun _ _ _ _ _ _=>ln2 fun _ _=>rfl
 |30,_=>fun _ _ _ _ _ _=>wO fun _ _ _=>rfl
 |31,_=>fun _ _ _ _ _ _=>EY fun _=>rfl
 |32,_=>fun _ _ _ _ _ _=>ln2 fun _ _=>rfl
 |33,_=>fun _ _ _ _ _ _=>ln2 fun _ _=>rfl
 |34,_=>fun _ _ _ _ _ _=>ln2 fun _ _=>rfl
 |35,_=>fun _ _ _ _ _ _=>wO fun _ _ _=>rfl
 |36,_=>fun _ _ _ _ _ _=>wO fun _ _ _=>rfl
 |37,_=>fun _ _ _ _ _ _=>ln2 fun _ _=>rfl
 |38,_=>fun _ _ _ _ _ _=>Kz fun _ _ _ _ _=>rfl
 |39,_=>fun _ _ _ _ _ _=>Kz fun _ _ _ _ _=>rfl
 |40,_=>fun _ _ _ _ _ _=>ZI fun _ _ _ _=>rfl
 |41,_=>fun _ _ _ _ _ _=>ZI fun _ _ _ _=>rfl
 |42,_=>fun _ _ _ _ _ _=>ZI fun _ _ _ _=>rfl
 |43,_=>fun _ _ _ _ _ _=>wO fun _ _ _=>rfl
 |44,_=>fun _ _ _ _ _ _=>ln2 fun _ _=>rfl
 |45,_=>fun _ _ _ _ _ _=>EY fun _=>rfl
 |n+46,h=>absurd h (by omega)
noncomputable abbrev FF (K:aa)(mg:Str->Option Value)(i:Nat):=uF K mg (qB i) (fR i) (cC i) (mR i) (LV i)
theorem Ow {K:aa}{mg:Str->Option Value}(F0:FF K mg 0)(F1:FF K mg 1)(F2:FF K mg 2)(F3:FF K mg 3)(F4:FF K mg 4)(F5:FF K mg 5)(F6:FF K mg 6)(F7:FF K mg 7)(F8:FF K mg 8)(F9:FF K mg 9)(F10:FF K mg 10)(F11:FF K mg 11)(F12:FF K mg 12)(F13:FF K mg 13)(F14:FF K mg 14)(F15:FF K mg 15)(F16:FF K mg 16)(F17:FF K mg 17)(F18:FF K mg 18)(F19:FF K mg 19)(F20:FF K mg 20)(F21:FF K mg 21)(F22:FF K mg 22)(F23:FF K mg 23)(F24:FF K mg 24)(F25:FF K mg 25)(F26:FF K mg 26)(F27:FF K mg 27)(F28:FF K mg 28)(F29:FF K mg 29)(F30:FF K mg 30)(F31:FF K mg 31)(F32:FF K mg 32)(F33:FF K mg 33)(F34:FF K mg 34)(F35:FF K mg 35)(F36:FF K mg 36)(F37:FF K mg 37)(F38:FF K mg 38)(F39:FF K mg 39)(F40:FF K mg 40)(F41:FF K mg 41)(F42:FF K mg 42)(F43:FF K mg 43)(F44:FF K mg 44)(F45:FF K mg 45):∀ i,i<46->uF K mg (qB i) (fR i) (cC i) (mR i) (LV i)
 |0,_=>F0
 |1,_=>F1
 |2,_=>F2
 |3,_=>F3
 |4,_=>F4
 |5,_=>F5
 |6,_=>F6
 |7,_=>F7
 |8,_=>F8
 |9,_=>F9
 |10,_=>F10
 |11,_=>F11
 |12,_=>F12
 |13,_=>F13
 |14,_=>F14
 |15,_=>F15
 |16,_=>F16
 |17,_=>F17
 |18,_=>F18
 |19,_=>F19
 |20,_=>F20
 |21,_=>F21
 |22,_=>F22
 |23,_=>F23
 |24,_=>F24
 |25,_=>F25
 |26,_=>F26
 |27,_=>F27
 |28,_=>F28
 |29,_=>F29
 |30,_=>F30
 |31,_=>F31
 |32,_=>F32
 |33,_=>F33
 |34,_=>F34
 |35,_=>F35
 |36,_=>F36
 |37,_=>F37
 |38,_=>F38
 |39,_=>F39
 |40,_=>F40
 |41,_=>F41
 |42,_=>F42
 |43,_=>F43
 |44,_=>F44
 |45,_=>F45
 |n+46,h=>absurd h (by omega)
theorem all_mk {P:br}{w:World}{K:aa}{mg:Str->Option Value}{fa:Addr}(hfa:mg "law" = some (.ref fa))(Z:Zt K mg)(F:∀ i,i<46->uF K mg (qB i) (fR i) (cC i) (mR i) (LV i)):
 ∃ fd:gj,(∀(s:af)(u:Value),yd s fd ⟨[u],[]⟩ [("_law_script", u)])/\∀ base:Heap,K.In base->base.Ns cj mg->rD mg base->fF P w K mg base dH (2*16) fa fd ["_law_script"] (fO K (aM G 16) 45):=by
 obtain⟨_,d,_⟩:=F 0 (by decide)
 obtain⟨T,TC⟩:=HA 46 Ku F d
 have e:=hfa.symm.trans (show mg "law" = some (.ref (T.a 45))from T.mg 45 (by decide))
 cases e
 exact⟨T.fd 45,ON (T.fn 45 (by decide)) (Ku 45 (by decide)),fun base _ _ B=>(EA T (fun k IH IL=>⟨Pj T Z B TC IH IL,Oi T Z IH⟩) 16).1 45 (by decide)⟩
end L3
open PySem PySem.W PyProof.Rows
local macro_rules|`(tactic| walk_at"ft")=>`(tactic| (refine' L3.rV.Cb (L3.Hu (by assumption) (by assumption) ?a ?l ?c ?k);(case a=>k_is);(case l=>k_is);(case c=>k_is);(case k=>k_is)))
local macro_rules|`(tactic| walk_at"fi")=>`(tactic| (refine' L3.rV.Cb (L3.Jc (by assumption) (by assumption) ?cl ?mk ?kp ?a ?fn ?l ?cc ?k);(case cl=>k_is);(case mk=>k_is);(case kp=>k_is);(case a=>k_is);(case fn=>k_is);(case l=>k_is);(case cc=>k_is);(case k=>k_is)))
local macro_rules|`(tactic| walk_at"fm")=>`(tactic| (refine' L3.rV.Cb (L3.Hd (by assumption) (by assumption) ?cl ?pg ?hd ?po ?sa ?a ?fn ?l ?cc ?k);(case cl=>k_is);(case pg=>k_is);(case hd=>k_is);(case po=>k_is);(case sa=>k_is);(case a=>k_is);(case fn=>k_is);(case l=>k_is);(case cc=>k_is);(case k=>k_is)))
local macro_rules|`(tactic| walk_at"fc")=>`(tactic| (refine' L3.Dk ?cl ?pg ?hd ?po ?sa;(case cl=>k_is);(case pg=>k_is);(case hd=>k_is);(case po=>k_is);(case sa=>k_is)))
local macro_rules|`(tactic| walk_at"fa")=>`(tactic| (refine' L3.Z4 ?cl ?na;(case cl=>k_is);(case na=>k_is)))
local macro_rules|`(tactic| walk_at"fn")=>`(tactic| (refine' PySem.W.mg_none_of (by assumption) (by assumption) ?x;(case x=>k_is)))
local macro_rules|`(tactic| walk_at"fg")=>`(tactic| (refine' L3.ZP (by assumption) (by assumption) ?a;(case a=>k_is)))
def PySem.W.Fast.tw7011451757282202979:Unit:=()
def PySem.W.Fast.tw15674873473064975019:Unit:=()
def PySem.W.Fast.tw8756012387664520734:Unit:=()
def PySem.W.Fast.tw6983134153602354359:Unit:=()
def PySem.W.Fast.tw1116435165640545838:Unit:=()
def PySem.W.Fast.tw9277513655523233868:Unit:=()
def PySem.W.Fast.tw7485726498581179954:Unit:=()
def PySem.W.Fast.tw13708139241242157680:Unit:=()
def PySem.W.Fast.tw12466859553144922972:Unit:=()
def PySem.W.Fast.tw14884410008077855685:Unit:=()
def PySem.W.Fast.tw15094119503447040004:Unit:=()
def PySem.W.Fast.tw1510364547035269663:Unit:=()
def PySem.W.Fast.tw454955873171191256:Unit:=()
def PySem.W.Fast.tw1411733435641402606:Unit:=()
def PySem.W.Fast.tw17864424004436611649:Unit:=()
def PySem.W.Fast.tw17741127286960227205:Unit:=()
def PySem.W.Fast.tw1847518913440010841:Unit:=()
def PySem.W.Fast.tw4513152763815404361:Unit:=()
def PySem.W.Fast.tw17060711175995945196:Unit:=()
def PySem.W.Fast.tw9739514976217839835:Unit:=()
def PySem.W.Fast.tw6670320786212022547:Unit:=()
def PySem.W.Fast.tw5947935734051031243:Unit:=()
def PySem.W.Fast.tw6986942538335629020:Unit:=()
def PySem.W.Fast.tw2230798996329320932:Unit:=()
def PySem.W.Fast.tw17317491632674024752:Unit:=()
def PySem.W.Fast.tw18169660686428049863:Unit:=()
def PySem.W.Fast.tw12177951045200970345:Unit:=()
def PySem.W.Fast.tw11868569573938748038:Unit:=()
def PySem.W.Fast.tw4029987097449031270:Unit:=()
def PySem.W.Fast.tw7627974886242093312:Unit:=()
def PySem.W.Fast.tw412579024335802405:Unit:=()
def PySem.W.Fast.tw10191541942351819997:Unit:=()
def PySem.W.Fast.tw5287685496990266704:Unit:=()
def PySem.W.Fast.tw9160674074129224560:Unit:=()
def PySem.W.Fast.tw16699850171962555086:Unit:=()
def PySem.W.Fast.tw5019254863372928307:Unit:=()
def PySem.W.Fast.tw4848783650029562506:Unit:=()
def PySem.W.Fast.tw17175338479264394511:Unit:=()
def PySem.W.Fast.tw12044925343791002554:Unit:=()
def PySem.W.Fast.tw13207313284200404843:Unit:=()
def PySem.W.Fast.tw12404781270540586173:Unit:=()
def PySem.W.Fast.tw1734487108044395375:Unit:=()
def PySem.W.Fast.tw278140025640531721:Unit:=()
def PySem.W.Fast.tw18431344687934985521:Unit:=()
def PySem.W.Fast.tw3063051985028518956:Unit:=()
def PySem.W.Fast.tw8717776332301746920:Unit:=()
def PySem.W.Fast.tw8487177373971927322:Unit:=()
def PySem.W.Fast.tw6550329481345889468:Unit:=()
def PySem.W.Fast.tw3852232258586410693:Unit:=()
def PySem.W.Fast.tw14742965437952998194:Unit:=()
def PySem.W.Fast.tw14962452242370387640:Unit:=()
def PySem.W.Fast.tw14383128895748893366:Unit:=()
def PySem.W.Fast.tw3782784476012674899:Unit:=()
def PySem.W.Fast.tw6195122427579757875:Unit:=()
def PySem.W.Fast.tw14359920996234879803:Unit:=()
def PySem.W.Fast.tw8626841949445153701:Unit:=()
def PySem.W.Fast.tw17058507779010832820:Unit:=()
def PySem.W.Fast.tw13611621645721730984:Unit:=()
def PySem.W.Fast.tw10092170735727226038:Unit:=()
def PySem.W.Fast.tw7006594402441078416:Unit:=()
def PySem.W.Fast.tw11530069585450930240:Unit:=()
def PySem.W.Fast.tw898224905625677010:Unit:=()
def PySem.W.Fast.tw4445145557954405675:Unit:=()
def PySem.W.Fast.tw15348725417446172621:Unit:=()
def PySem.W.Fast.tw17595573545919678821:Unit:=()
def PySem.W.Fast.tw16026313566873602746:Unit:=()
def PySem.W.Fast.tw15569620884435051164:Unit:=()
def PySem.W.Fast.tw12217259090622259752:Unit:=()
def PySem.W.Fast.tw8354886569739053484:Unit:=()
def PySem.W.Fast.tw16116336864249709765:Unit:=()
def PySem.W.Fast.tw16608069407196094242:Unit:=()
def PySem.W.Fast.tw9264349078429573653:Unit:=()
def PySem.W.Fast.tw9412998322805975470:Unit:=()
def PySem.W.Fast.tw422644243598737718:Unit:=()
def PySem.W.Fast.tw11636709035530143514:Unit:=()
def PySem.W.Fast.tw11940949834105932596:Unit:=()
def PySem.W.Fast.tw18045925674504620005:Unit:=()
def PySem.W.Fast.tw4384879023785746308:Unit:=()
def PySem.W.Fast.tw4687409940893737240:Unit:=()
def PySem.W.Fast.tw5698186279616627858:Unit:=()
def PySem.W.Fast.tw11477628596368305255:Unit:=()
def PySem.W.Fast.tw3741513345883294515:Unit:=()
def PySem.W.Fast.tw2981731220072258126:Unit:=()
def PySem.W.Fast.tw17882428735116466362:Unit:=()
def PySem.W.Fast.tw9130458453465093970:Unit:=()
def PySem.W.Fast.tw4154137647923592131:Unit:=()
def PySem.W.Fast.tw6982865496502928959:Unit:=()
def PySem.W.Fast.tw14345535125377585658:Unit:=()
def PySem.W.Fast.tw8513734802337622126:Unit:=()
def PySem.W.Fast.tw2982915057313254885:Unit:=()
def PySem.W.Fast.tw3588317166257730636:Unit:=()
def PySem.W.Fast.tw2704281477191619219:Unit:=()
def PySem.W.Fast.tw4334989948227847254:Unit:=()
def PySem.W.Fast.tw2449142967952329664:Unit:=()
def PySem.W.Fast.tw13557745411288653082:Unit:=()
set_option maxRecDepth 100000 in
set_option maxHeartbeats 0 in
theorem PySem.Challenge.cw_leastloss_k06_losses_holds : PySem.Challenge.rw_leastloss_k06_losses.Holds := by
 w_on;o_law;k_head;(case hw=>w_witness2)
 k_fill
 refine L3.Gq (tabs:=[(L3.eE,272),(L3.gZ,277)]) (l:=PySem.Challenge.rw_leastloss_k06_losses) (x :="_law_script") (r:=2*16) (k:=16) (f:=45) (G:=L3.G) ⟨rfl,by decide,by decide⟩ L3.S8 (by decide) rfl rfl (fun w h Y=>PySem.W.km_in_of Y) (fun w h Y=>List.forall_mem_cons.mpr ⟨PySem.W.km_tabs_of Y 272 (by decide),List.forall_mem_cons.mpr ⟨PySem.W.km_tabs_of Y 277 (by decide),fun _ h=>nomatch h⟩⟩) ?t2 ?t3 ?F
 case t2=>intro w;refine List.forall_mem_cons.mpr ⟨?_,List.forall_mem_cons.mpr ⟨?_,fun _ h=>nomatch h⟩⟩<;>kernel_rfl
 case t3=>intro w;refine List.forall_mem_cons.mpr ⟨?_,List.forall_mem_cons.mpr ⟨?_,fun _ h=>nomatch h⟩⟩<;>kernel_rfl
 case F =>
 intro w mg fa h KX G hmg
 refine L3.all_mk hmg ?Z (L3.Ow ?F0 ?F1 ?F2 ?F3 ?F4 ?F5 ?F6 ?F7 ?F8 ?F9 ?F10 ?F11 ?F12 ?F13 ?F14 ?F15 ?F16 ?F17 ?F18 ?F19 ?F20 ?F21 ?F22 ?F23 ?F24 ?F25 ?F26 ?F27 ?F28 ?F29 ?F30 ?F31 ?F32 ?F33 ?F34 ?F35 ?F36 ?F37 ?F38 ?F39 ?F40 ?F41 ?F42 ?F43 ?F44 ?F45)
 case Z =>
  refine⟨?b_isinstance,?b_str,?b_len,?b_all,?b_tuple,?b_list,?b_reversed,?b_set,?b_any,?b_int,?b_bool,?b_sum,?b_range,?g_NO_NAMES,?g_LONGEST_NAME,?g_LETTERS,?g_DEEPEST,?g_SAYINGS_WITHIN,?g_PAST_WORDS,?g_MOST_LAMPS,?g_MOST_PROMISES,?g_HIGHEST_PRICE,?g_MOST_WISHES,?g_MOST_MUSTS,?g_MOST_PIECES,?c_Table,?c_Rules,?a_Table_names,?a_Table_pieces,?a_Table_rows,?a_Table_row_of,?a_Table_first_memory,?a_Table_remembered_rows,?a_Rules_table,?a_Rules_promise_rows,?a_Rules_must_rows,?a_Rules_priced_rows⟩
  case b_isinstance=>walk_at"fn"
  case b_str=>walk_at"fn"
  case b_len=>walk_at"fn"
  case b_all=>walk_at"fn"
  case b_tuple=>walk_at"fn"
  case b_list=>walk_at"fn"
  case b_reversed=>walk_at"fn"
  case b_set=>walk_at"fn"
  case b_any=>walk_at"fn"
  case b_int=>walk_at"fn"
  case b_bool=>walk_at"fn"
  case b_sum=>walk_at"fn"
  case b_range=>walk_at"fn"
  case g_NO_NAMES=>refine' L3.QP KX G ?NO_NAMESa ?NO_NAMESl ?NO_NAMESf ?NO_NAMESz;(case NO_NAMESa=>k_is);(case NO_NAMESl=>k_is);(case NO_NAMESf=>kernel_rfl);(case NO_NAMESz=>kernel_rfl)
  case g_LONGEST_NAME=>walk_at"fg"
  case g_LETTERS=>refine' L3.Eo KX G ?LETTERSa ?LETTERSe;(case LETTERSa=>k_is);(case LETTERSe=>rfl)
  case g_DEEPEST=>walk_at"fg"
  case g_SAYINGS_WITHIN=>refine' L3.Cg KX G ?SAYINGS_WITHINa ?SAYINGS_WITHINl ?SAYINGS_WITHINf;(case SAYINGS_WITHINa=>k_is);(case SAYINGS_WITHINl=>k_is);(case SAYINGS_WITHINf=>kernel_rfl)
  case g_PAST_WORDS=>refine' L3.QP KX G ?PAST_WORDSa ?PAST_WORDSl ?PAST_WORDSf ?PAST_WORDSz;(case PAST_WORDSa=>k_is);(case PAST_WORDSl=>k_is);(case PAST_WORDSf=>kernel_rfl);(case PAST_WORDSz=>kernel_rfl)
  case g_MOST_LAMPS=>walk_at"fg"
  case g_MOST_PROMISES=>walk_at"fg"
  case g_HIGHEST_PRICE=>walk_at"fg"
  case g_MOST_WISHES=>walk_at"fg"
  case g_MOST_MUSTS=>walk_at"fg"
  case g_MOST_PIECES=>walk_at"fg"
  case c_Table=>walk_at"fc"
  case c_Rules=>walk_at"fc"
  case a_Table_names=>walk_at"fa"
  case a_Table_pieces=>walk_at"fa"
  case a_Table_rows=>walk_at"fa"
  case a_Table_row_of=>walk_at"fa"
  case a_Table_first_memory=>walk_at"fa"
  case a_Table_remembered_rows=>walk_at"fa"
  case a_Rules_table=>walk_at"fa"
  case a_Rules_promise_rows=>walk_at"fa"
  case a_Rules_must_rows=>walk_at"fa"
  case a_Rules_priced_rows=>walk_at"fa"
 case F0=>walk_at"ft"
 case F1=>walk_at"ft"
 case F2=>walk_at"ft"
 case F3=>walk_at"ft"
 case F4=>walk_at"ft"
 case F5=>walk_at"ft"
 case F6=>walk_at"ft"
 case F7=>walk_at"ft"
 case F8=>walk_at"ft"
 case F9=>walk_at"ft"
 case F10=>walk_at"ft"
 case F11=>walk_at"ft"
 case F12=>walk_at"ft"
 case F13=>walk_at"ft"
 case F14=>walk_at"ft"
 case F15=>walk_at"ft"
 case F16=>walk_at"ft"
 case F17=>walk_at"ft"
 case F18=>walk_at"fi"
 case F19=>walk_at"fm"
 case F20=>walk_at"fm"
 case F21=>walk_at"fm"
 case F22=>walk_at"fm"
 case F23=>walk_at"fm"
 case F24=>walk_at"fi"
 case F25=>walk_at"fm"
 case F26=>walk_at"fm"
 case F27=>walk_at"fm"
 case F28=>walk_at"ft"
 case F29=>walk_at"ft"
 case F30=>walk_at"ft"
 case F31=>walk_at"ft"
 case F32=>refine' L3.QR KX G ?a32 ?l32 ?c32 ?k32;(case a32=>k_is);(case l32=>k_is);(case c32=>k_is);(case k32=>k_is)
 case F33=>refine' L3.QR KX G ?a33 ?l33 ?c33 ?k33;(case a33=>k_is);(case l33=>k_is);(case c33=>k_is);(case k33=>k_is)
 case F34=>walk_at"ft"
 case F35=>walk_at"ft"
 case F36=>walk_at"ft"
 case F37=>walk_at"ft"
 case F38=>walk_at"ft"
 case F39=>walk_at"ft"
 case F40=>walk_at"ft"
 case F41=>walk_at"ft"
 case F42=>walk_at"ft"
 case F43=>walk_at"ft"
 case F44=>walk_at"ft"
 case F45=>walk_at"ft"
