import PyProof.Rows.All
import Wide.All
import OpenK.AllK
import Wide.FinOn
import Lean
import PyProof.EqAt
import PyProof.EqKinds
import PyProof.TupleCall
import PySem.Challenge.RW_leastloss_k08_whole_game
open List renaming length_map→aa, mem_singleton→ah, replicate→ai, getElem?_eq_getElem→aj, map_cons→av, size_toArray→aw, nil_append→az, range→a9, length_nil→ba, getElem?_map→bc, length_cons→be, mem_of_getElem?→bf, length_append→bh, not_mem_nil→bp, getElem?_append_left→bq, drop_eq_getElem_cons→bw, append_nil→b7, mem_cons→b9, cons_append→cw, map_append→cx, lookup_cons→c9, getElem?_eq_none→de, set_cons_zero→dg, getElem?_append_right→di, mem_cons_of_mem→dj, set_cons_succ→du, filterMap_cons→eh, mem_append_right→ek, map_nil→e9, mem_cons_self→fb, drop_eq_nil_of_le→fk, length_filter_le→fu, filter_cons→gb, replicate_succ→gq, getElem?_set_ne→gV, lookup→g8, getElem?_replicate→g9, length_range→ij, idxOf_cons→i7, any_cons→jk, getElem?_set_self→kc, range_succ_eq_map→kf, any_map→kg, length_replicate→ki, reverse_cons→kn, flatten_cons→ko, getElem?_eq_some_iff→lh, all_cons→lx, foldl_cons→l0, range_succ→l4, mem_append→l5, contains_cons→l8, filter_append→md, getElem?_cons_zero→mi, getElem?_cons_succ→mj, filter_cons_of_neg→mo, filter_cons_of_pos→mq, append_assoc→ni, nodup_append→nq, flatMap_cons→nt, foldl_append→nu, length_take→ny, foldl→nz, isEmpty_nil→n4, prefix_refl→oa, mem_append_left→oj, map→oq, forIn_cons→oy, filter_nil→pf, length_reverse→pk, map_congr_left→pq, all_map→p8, mem_map→p9, drop_zero→qp, zip_cons_cons→qt, extract_eq_take_drop→qx, any_eq_false→rf, length_filterMap_le→sh, length_drop→td, map_map→vb, of_mem_zip→vf, length_zip→vp, dropLast_eq_take→vw, length→wc, range'→wx, nodup_nil→wy, drop_succ_cons→xf, flatMap_append→xj, isEmpty_cons→yp, ext_getElem?→yz, sum_nil→zc, isEmpty_iff→zk, take_length→zl, mem_flatMap→zt, length_set→zv, forIn_nil→Qt, any→Qy
open PySem.W renaming Frag→ab, findIn→dz, keepIn→fw, kia_one→f6, emptyDict→gh, instObj→iu, fnOf→je, nsIn→jf, plainGet→j5, hasDictIn→kl, codeIn→kr, mg_of→lz, plainOver→mx, plainGet_of→ph, isFn→px, lookIn→qf, callWith_K→qh, methodObj→qz, kitx_bool→rk, cellsFrom_some→uf, takerIn→vd, makesIn→ve, methodCall_KW→vt, handedIn→zf, kitx_int→zm, kitx_str→zo, OpenLaw→zx, kitOne→Qu, WalkO→Rg, OpenLaw→Ta
open PySem renaming wpAny_bind→ae, Shared→af, wpAny_pure→ao, starEach→ar, Spec→bj, Program→br, bootBuiltins→cf, Around→cg, mainGlobals→cj, wpAny_ite_split→cq, backTo→dq, builtinLookup_eq_fast→dw, assignEach→ee, wpAny_call_entry→ff, attributeBase→fx, wpAny_specialOf→fz, wpAny_Call_Name_kw→f7, wpAny_holding→gf, foldedSetIterable→gg, wpAny_newObj_type→gk, typeLookup_type→gr, FuncData→gw, binaryOp→g7, wpAny_callSpecial?_slot→h9, wpAny_isNot_other→ig, mem_of_lookup→jc, isSubtype_type→jq, wpAny_passesOwn→ju, sizeLine_eq→jx, keywordEach→jy, wpAny_field→jz, wpAny_mono→j2, holding→j4, wpAny_is_other→j6, wpAny_of_eq→j8, behindInMarks→kh, wpAny_truthy_bool→kj, swapsWith→ku, codeAny→kv, wpAny_isInstance→kz, assign→lj, call_meets→l6, sliceBounds→mh, standAt→mr, backToKw→my, codeAny_mono→mz, eqIsQuiet_byValue→nk, sysModules→nv, wpAny_standAt→oe, swapsWithSole→og, swappedStores→oh, letOwnedTupleGo→ou, wpAny_updateSeq→ox, codeAny_builtin→oz, Keyword→pz, PassesOwn→qa, typeLookup→qk, wpAny_pyIter_tuple→qs, wpAny_binaryOp_repeat_ref→qw, wpAny_sequenceKey→rh, wpAny_mkInt→rj, rawInt→rl, wpAny_comprehension_free→rz, wpAny_attempt→r8, compareOp→sj, getMethod→sk, NameKind→sv, noFill_tuple_add→sy, wpAny_forIn_list→tm, scanBound→tw, pyNext→ua, pyIter→ub, wpAny_pyNext_range_end→uc, wpAny_pyIter_rangeiter→ue, IsPart→ug, getItem→uh, wpAny_typeOf→uj, wpAny_Call_method_late→ur, callerA→uw, wpAny_rule→uz, wpAny_execs_nil→vc, wpAny_isTrue_Compare1→vz, IsRangeIter→wa, callWith→wb, seqIndex_of→we, wpAny_setField→wt, BindsTo→w6, seq_tuple_add→xm, signature?_of→xt, wpAny_pyIter_range→xy, typeIs_int→ye, wpAny_tupleItemsOf→yf, strKind_is→yg, Within→yi, wpAny_assign_Name→yk, concat_meets→yn, seqIndex_neg→yo, slot_dict_getitem→yu, wpAny_pyIter_list→yv, isTrue→ze, beq_builtin_none→zj, entryFor_of_tree→zp, codeAny_of_tree→z0, spliced→z9, ItemsOf→Qe, builtinsNs→Qg, GenState→Qh, wpAny_Name→Qi, wpAny_call→Qj, fitsIndex_both→Ql, call→Qm, reduceHash→Qn, PyData→Qo, wpAny_seqItems→Qs, callType_codes→Qv, argsOk→Qw, firstArgMember→Qx, intBits_le_64→Ra, evalPart_none→Rb, call_list_seq→Rf, cellsFrom→Rm, updateSeq→Rn, Paired→Ro, setItem→Rp, Result→Rq, bindArgs→Sd, compPost→Sh, cLine→Si, entryFor→Sj, truthy→Sq, typeOf→Sr, Params→Ss, newExc→Su, BoolOp→Sv, release→Sw, getAttr→Sz
open Bool renaming false_eq_true→ag, and_eq_true→ay, and_false→bu, and_self→df, false_ne_true→dr, not_false→d5, not_true→d7, true_and→fe, false_and→fv, or_eq_true→ow, or_false→xo, and_true→xw, and_assoc→Qq, or_self→Ru
open PySem.Heap renaming get?_push_of_some→ak, get?_push_size→bg, lt_size→bo, get?_update_other→fh, get?_update_self→gy, size_push→jm, SameBut→j9, ExtBut→Sk
open Nat renaming le_refl→bb, le_trans→bz, ne_of_lt→cb, lt_of_lt_of_le→cp, zero_le→cu, pow_le_pow_right→cy, lt_succ_self→f9, lt_irrefl→jj, lt_succ_of_lt→j1, add_assoc→oi, ne_of_gt→pw, lt_of_le_of_lt→qm, add_sub_cancel_left→tq, le_max_right→tx, le_of_lt→tz, le_max_left→vn, add_min_add_right→vy, blt→w9, zero_add→yw, pow_succ→yx, le_of_not_lt→zh, le_succ→zu, mul_le_mul→Qp, le_of_eq→Rr, lt_trans→Rt
open True renaming intro→cv
open Ne renaming symm→cz
open Option renaming map_eq_some_iff→dh, map_some→gu, getD_some→j7, getD_none→zg
open PySem.Builtin.List renaming listTooLong→dt, listExtendWith→jh, listLengthHint→kq, listSameRef→r0, listItems→va
open Option.some renaming inj→dy
open PyProof.Rows renaming callWith_type1→ey, slot_tuple_getitem→gv, subscriptTail_builtinR→nh, envOfC→qi, AllBare→rb, IntsAre→uu, foldl_rep→w8, entry_tuple_getitem→xa, tupleItemsOf_→xn, args_tuple_getitem→yc, slicePart_none→Qk, subscriptTail→Rc, len_tuple→Rk
open PySem.Around renaming in1_units→fj, under_plainId→ot, under→yl
open PySem.Builtin.Tuple renaming tupleHashOf→fo, tupleExact→fy, tupleItemsOf→gj, tupleTooMany→qo, tupleIsExact→qr
open PySem.Value renaming type→fq, ref→gz, none→iq, bool→qb, str→zd, int→Rj, bytes→Rv, float→Rw
open False renaming elim→i5
open Array renaming length_toList→i9, getElem?_eq_getElem→qy, toList_extract→wo, forIn_toList→yh, toList→yj
open PyProof.Rows.F renaming plain_set_update_loop→jd, entry_set_update_loop→ll
open PySem.Obj renaming mapSeq→jo, data_mapFields→l9, isFreed_of_fields→v8, mapFields→xv
open PySem.Builtin.Slice renaming slicePlaces→jr, sliceAdjust→lb, sliceApplied→qj
open ForInStep renaming yield→jw
open PySem.Str renaming ofString→j0, length→j3, empty→Rl, cps→Tc
open PySem.Calls renaming callWith_builtin→ke, evalArgs_plain→om, Name_function_global→qe, spliced_cons→qg, spliced_nil→rg
open Int renaming natCast_zero→la, toNat_of_nonneg→pj, emod_lt_of_pos→qv, emod_nonneg→vj, le_refl→So
open PySem.F renaming args_tuple_add_2→lu, entry_tuple_add→mf, plainAttrs_list→mn, slot_tuple_add→ng, slot_tuple_index→se, slot_tuple_hash→tj, slot_list_index→tu, slot_int_rmul→vx, args_list_extend_2→wg, plain_reversed_new→wq, entry_list_extend→xb, plain_extend_loop→xg, slot_list_extend→yd, slot_int_rmul→zw
open PySem.NameKind renaming free→ly, cell→xr
open PySem.Builtin.Str renaming occurrences→me, subAt→yt
open Function renaming comp_def→nj, comp→Ri
open PyProof.Rows.KTD renaming datumAt→oo, flatLooks→rm, tabLook→wj
open List.cons renaming injEq→pe
open PySem.AutoSeq1 renaming wpAny_loadPart'→rq
open PySem.Builtin.Range renaming rangeSize→si
open PyProof.Rows.KTD.Dat renaming flat→u4
open PySem.SeqAt.EqAt renaming bool_tuple→vg, bool_bool→wk, str_tuple→wm, bool_str→xp, str_bool→xq, str_str→yq, of_refs→yr, same→zi, tuple_bool→zy, tuple_str→Qr
open PySem.PassesOwn renaming never→vh
open Sum renaming inl→wz, inr→w5
open PySem.Heap.SameBut renaming update→xi
open List.IsPrefix renaming trans→xk
open PySem.Code renaming isFrame→ym, frames→Sb
open Std.Legacy renaming Range→zr
open PySem.Paired renaming length→Qz
open PySem.Shared renaming TypeIs→Rh
open PySem.Data renaming fields→Ry
open PySem.Walks renaming range→Rz, tuple→Sg
open PySem.IsRange renaming new→Sa
open PySem.SeqAt.RcAt renaming tuples→Sf
open PySem.SeqAt renaming str_beq→Tb
set_option Elab.async false
set_option tactic.hygienic false
set_option genSizeOf false
set_option bootstrap.genMatcherCode false
set_option compiler.extract_closed false
set_option linter.all false
set_option maxRecDepth 100000
set_option maxHeartbeats 4000000
section
namespace L2
open PySem PySem.Spec PyProof.Rows
noncomputable abbrev Key:=Sum Int Str
noncomputable def V7:Key->Value->Bool
 |.inl k,v=>Value.isInt k v
 |.inr x,v=>Value.isStrOf x v
noncomputable def Ni (w:World):Key->Int
 |.inl k=>hashInt k
 |.inr x=>hashStr w x
theorem fV:∀{k:Key}{v:Value},V7 k v=true->(∃ i t,k=wz i/\v=Rj i t)∨(∃ x t,k=w5 x/\v=zd x t)
 |.inl i,v,h=>by
  obtain⟨t,e⟩:=Value.isInt_shape (k:=i) (v:=v) h
  exact .inl ⟨i,t,rfl,e⟩
 |.inr x,v,h=>by
  obtain⟨t,e⟩:=Value.isStrOf_shape (x:=x) (v:=v) h
  exact .inr ⟨x,t,rfl,e⟩
theorem ZR (a b:Int):decide ((wz a:Key)=wz b)=(a==b):=by
 by_cases e:a=b
 ·subst e;simp
 ·have h:¬(wz a:Key)=wz b:=fun q=>e (Sum.inl.inj q)
  rw[decide_eq_false h]
  exact(beq_eq_false_iff_ne.mpr e).symm
theorem Dm (a b:Str):decide ((w5 a:Key)=w5 b)=decide (a=b):=by
 by_cases e:a=b
 ·subst e;simp
 ·have h:¬(w5 a:Key)=w5 b:=fun q=>e (Sum.inr.inj q)
  rw[decide_eq_false h,decide_eq_false e]
theorem Cn (a:Int)(b:Str):decide ((wz a:Key)=w5 b)=false:=decide_eq_false (fun q=>nomatch q)
theorem Cr (a:Str)(b:Int):decide ((w5 a:Key)=wz b)=false:=decide_eq_false (fun q=>nomatch q)
noncomputable def EI (prog:br)(w:World):PySem.KeyKind prog w Key where
 is:=V7
 hash:=Ni w
 inj:=fun v a b ha hb=>by
  rcases fV ha with⟨i,t,rfl,rfl⟩|⟨x,t,rfl,rfl⟩
  ·rcases fV hb with⟨j,u,rfl,e⟩|⟨y,u,rfl,e⟩
   ·injection e with e1 _;rw[e1]
   ·exact nomatch e
  ·rcases fV hb with⟨j,u,rfl,e⟩|⟨y,u,rfl,e⟩
   ·exact nomatch e
   ·injection e with e1 _;rw[e1]
 byValue:=fun k v h=>by
  rcases fV h with⟨i,t,rfl,rfl⟩|⟨x,t,rfl,rfl⟩<;>rfl
 pyHash:=fun hv h=>by
  rcases fV hv with⟨i,t,rfl,rfl⟩|⟨x,t,rfl,rfl⟩
  ·exact wpAny_pyHash_int h
  ·exact wpAny_pyHash_str h
 eqBool:=fun hu hv h=>by
  rcases fV hu with⟨i,t,rfl,rfl⟩|⟨x,t,rfl,rfl⟩
  ·rcases fV hv with⟨j,u,rfl,rfl⟩|⟨y,u,rfl,rfl⟩
   ·rw[ZR]at h;exact wpAny_eqBool_int h
   ·rw[Cn]at h;exact SeqAt.EqAt.int_str i t y u _ _ _ _ h
  ·rcases fV hv with⟨j,u,rfl,rfl⟩|⟨y,u,rfl,rfl⟩
   ·rw[Cr]at h;exact SeqAt.EqAt.str_int x t j u _ _ _ _ h
   ·rw[Dm]at h;exact wpAny_eqBool_str h
 «strs»:=fun k x t v h=>by
  rcases fV h with⟨i,u,rfl,e⟩|⟨y,u,rfl,e⟩
  ·exact nomatch e
  ·injection e with e1 _
   subst e1
   cases v<;>rfl
end L2
namespace L2
open PySem PySem.Spec PyProof.Rows
inductive V where
 |non|bl (b:Bool)|int (i:Int)|str (x:Str)|byt (b:Array UInt8)|flt (b:UInt64)|ref (a:Addr)|ty (n:String)
 deriving DecidableEq
noncomputable def RelV:V->Value->Prop
 |.non,u=>u=iq
 |.bl b,u=>u=qb b
 |.int i,u=>∃ t,u=Rj i t
 |.str x,u=>∃ t,u=zd x t
 |.byt b,u=>∃ t,u=Rv b t
 |.flt b,u=>∃ t,u=Rw b t
 |.ref a,u=>u=gz a
 |.ty n,u=>u=fq n
noncomputable abbrev aQ:List V->List Value->Prop:=Ro RelV
theorem aQ.length {xs:List V}{us:List Value}(r:aQ xs us):xs.length=us.length:=Qz r
theorem aQ.get:∀{xs:List V}{us:List Value}{i:Nat}{x:V},aQ xs us->xs[i]? = some x->∃ u,us[i]? = some u/\RelV x u
 |_,_,_,_,.nil,e=>by simp at e
 |_,_,0,_,.cons r _,e=>by simp at e;subst e;exact⟨_,rfl,r⟩
 |_,_,i+1,x,.cons _ t,e=>by
  obtain⟨u,h1,h2⟩:=aQ.get (i:=i) (x:=x) t (by simpa using e)
  exact⟨u,by simpa using h1,h2⟩
theorem aQ.set {x:V}{u:Value}(r:RelV x u):∀{xs:List V}{us:List Value}(i:Nat),aQ xs us->aQ (xs.set i x) (us.set i u)
 |_,_,_,.nil=>.nil
 |_,_,0,.cons _ t=>.cons r t
 |_,_,i+1,.cons q t=>.cons q (aQ.set r i t)
theorem aQ.append:∀{xs ys:List V}{us ws:List Value},aQ xs us->aQ ys ws->aQ (xs++ys) (us++ws)
 |_,_,_,_,.nil,s=>s
 |_,_,_,_,.cons r t,s=>.cons r (aQ.append t s)
theorem aQ.take:∀{xs:List V}{us:List Value}(n:Nat),aQ xs us->aQ (xs.take n) (us.take n)
 |_,_,0,_=>.nil
 |_,_,_+1,.nil=>.nil
 |_,_,n+1,.cons r t=>.cons r (aQ.take n t)
theorem aQ.drop:∀{xs:List V}{us:List Value}(n:Nat),aQ xs us->aQ (xs.drop n) (us.drop n)
 |_,_,0,r=>r
 |_,_,_+1,.nil=>.nil
 |_,_,n+1,.cons _ t=>aQ.drop n t
noncomputable def uC:Option V->Option Value->Prop
 |some v,some u=>RelV v u
 |none,none=>True
 |_,_=>False
noncomputable def KV {κ:Type}:List (κ×V)->List (κ×Value)->Prop:=Ro fun(p:κ×V)(q:κ×Value)=>p.1=q.1/\RelV p.2 q.2
noncomputable def kV:Key->V
 |.inl i=>.int i
 |.inr x=>.str x
inductive HO where
 /-- a list -/
 |lst (xs:List V)
 /-- a tuple (never changes) -/
 |tup (xs:List V)
 /-- a dict whose keys are ints and texts; one whose keys are tuples of ints and texts (the empty one is both) -/
 |dK (iK:List (Key×V))|dT (iK:List (List Key×V))
 /-- a set of ints: aD members, aD size -/
 |set (S:Int->Bool)(n:Nat)
 /-- an instance of the class at C, aD dict at dx, aD attributes -/
 |ins (C dx:Addr)(fs:List (Str×V))
 /-- the dict of the instance at x -/
 |own (x:Addr)
 /-- the dict of an exception -/
 |xd (fs:List (Str×V))
 /-- a bound method, f of x -/
 |met (f x:Addr)
 /-- a range object lo, lo + 1, .. below hi -/
 |rng (lo hi:Int)
 /-- a thing that is known to the object (the script; a dict while a loop walks it): read, never written while it is so -/
 |frz (o:Obj)(u:HO)
 /-- a code object's table -/
 |tbl (ps:Array Value)
 /-- any other thing, by what is true of aD one object (a def of one's own: SetO a S n := HO.ext fun h => ..) -/
 |ext (φ:br->World->Heap->Prop)
noncomputable abbrev Hp:=Addr->Option HO
noncomputable def upd (H:Hp)(a:Addr)(o:HO):Hp:=fun b=>if b=a then some o else H b
theorem eI {H:Hp}{a:Addr}{o:HO}:upd H a o a=some o:=by unfold upd;rw[if_pos rfl]
theorem cA {H:Hp}{a b:Addr}{o:HO}(h:b≠a):upd H a o b=H b:=by unfold upd;rw[if_neg h]
theorem NN {H:Hp}{a b:Addr}{o u:HO}(h:H a=some o)(h':H b=some u)(d:o≠u):a≠b:=by
 intro e;subst e;rw[h]at h';exact d (dy h')
theorem iQ {H:Hp}{a b:Addr}{o:HO}(h:H a=some o)(h':H b=none):a≠b:=by
 intro e;subst e;rw[h]at h';cases h'
noncomputable def pX (h:Heap)(a:Addr)(aD:Array Value):Prop:=∃ o,h.get? a=some o/\o.cls=.type "tuple" /\ (∃ n,o.data=.seq aD n)/\o.dict=none
theorem pX.tup {h:Heap}{a:Addr}{aD:Array Value}:pX h a aD->IsTup h a aD:=fun⟨o,e,c,d,_⟩=>⟨o,e,c,d⟩
theorem pX.lt {h:Heap}{a:Addr}{aD:Array Value}(x:pX h a aD):a<h.objs.size:=x.tup.lt
theorem pX.new (h:Heap)(items:Array Value):pX (h.push { cls:=.type "tuple", data:=.seq items }) h.objs.size items:=⟨_,bg _ rfl,rfl,⟨_,rfl⟩,rfl⟩
section
variable (P:br)(w:World)
noncomputable def jV (H:Hp)(h:Heap)(a:Addr):HO->Prop
 |.lst xs=>xs.length<=sizeLine/\∃(aD:List Value)(n:Nat),aQ xs aD/\h.get? a=some { cls:=.type "list", data:=.seq aD.toArray n }
 |.tup xs=>xs.length<=sizeLine/\∃ aD:List Value,aQ xs aD/\pX h a aD.toArray
 |.dK iK=>iK.length<=sizeLine/\(a==nv)=false/\∃ vs,KV iK vs/\h.DictOf (EI P w) a vs
 |.dT iK=>iK.length<=sizeLine/\(a==nv)=false/\∃ xs:List (List Key×Addr×Value),
  Ro (fun(p:List Key×V)(q:List Key×Addr×Value)=>p.1=q.1/\H q.2.1=some (.tup (p.1.map kV))/\RelV p.2 q.2.2) iK xs /\
  ∃ o es ep,h.get? a=some o/\o.ExactDict/\o.data=.dict es ep/\es.toList=xs.map (entryOfKey (tupleKind (EI P w)))/\(xs.map (·.1)).Nodup
 |.set S n=>h.SetOf (intKind P w) a S n
 |.ins C dx fs=>H dx=some (.own a)/\fs.length<=1000/\dx≠a/\h.get? a=some (iu C dx) /\
  ∃ mA,h.Ns1 dx mA/\(∀ f,uC (fs.lookup f) (mA f))/\yi mA (fs.map (·.1))
 |.own _=>∃ o,h.get? a=some o
 |.xd fs=>∃ mA,h.Ns1 a mA/\∀ f,uC (fs.lookup f) (mA f)
 |.rng lo hi=>∃ t u v,h.get? a=some { cls:=.type "range", data:=.fields #[.int lo t,.int hi u,.int 1 v] }
 |.frz o u=>h.get? a=some o/\jV H h a u
 |.tbl ps=>h.get? a=some { cls:=.none,data:=.fields ps }
 |.met f x=>h.get? a=some (qz (.ref f) (.ref x))
 |.ext φ=>φ P w h/\(∃ o,h.get? a=some o)/\∀ h1 h2:Heap,φ P w h1->(∀ o,h1.get? a=some o->h2.get? a=some o)->φ P w h2
noncomputable def jF (H:Hp)(h:Heap):Prop:=∀ a o,H a=some o->jV P w H h a o
end
section
variable {P:br}{w:World}{H H':Hp}{h h':Heap}{a:Addr}{o:HO}
theorem jV.lt (x:jV P w H h a o):a<h.objs.size:=by
 cases o with
 |lst xs=>obtain⟨_,_,_,_,e⟩:=x;exact bo e
 |tup xs=>obtain⟨_,_,_,p⟩:=x;exact p.lt
 |dK iK=>obtain⟨_,_,_,_,o,_,_,e,_⟩:=x;exact bo e
 |dT iK=>obtain⟨_,_,_,_,o,_,_,e,_⟩:=x;exact bo e
 |set S n=>obtain⟨o,_,_,_,e,_⟩:=x;exact bo e
 |ins C dx fs=>obtain⟨_,_,_,e,_⟩:=x;exact bo e
 |own y=>obtain⟨_,e⟩:=x;exact bo e
 |xd fs=>obtain⟨_,⟨_,_,_,e,_⟩,_⟩:=x;exact bo e
 |rng lo hi=>obtain⟨_,_,_,e⟩:=x;exact bo e
 |frz ob u=>obtain⟨e,_⟩:=x;exact bo e
 |tbl ps=>exact bo (show h.get? a=some _ from x)
 |met f y=>exact bo (show h.get? a=some _ from x)
 |ext φ=>obtain⟨_,⟨_,e⟩,_⟩:=x;exact bo e
theorem Paired.Ek {α β:Type}{F G:α->β->Prop}:∀{l₁:List α}{l₂:List β},Ro F l₁ l₂->(∀ a b,F a b->G a b)->Ro G l₁ l₂
 |_,_,.nil,_=>.nil
 |_,_,.cons r t,f=>.cons (f _ _ r) (Paired.Ek t f)
theorem jV.B9 (x:jV P w H h a o)(k:∀ b u,(b=a∨H b=some (.own a))->h.get? b=some u->h'.get? b=some u)
 (ho:∀ b,H b=some (.own a)->H' b=some (.own a))(ht:∀ b xs,H b=some (.tup xs)->H' b=some (.tup xs)):jV P w H' h' a o:=by
 induction o with
 |lst xs=>obtain⟨z,aD,n,r,e⟩:=x;exact⟨z,aD,n,r,k _ _ (.inl rfl) e⟩
 |tup xs=>obtain⟨z,aD,r,ob,e,c⟩:=x;exact⟨z,aD,r,ob,k _ _ (.inl rfl) e,c⟩
 |dK iK=>obtain⟨z,y,vs,r,ob,es,ep,e,c⟩:=x;exact⟨z,y,vs,r,ob,es,ep,k _ _ (.inl rfl) e,c⟩
 |dT iK =>
 obtain⟨z,y,xs,r,ob,es,ep,e,c⟩:=x
 exact⟨z,y,xs,Paired.Ek r fun p q z=>⟨z.1,ht _ _ z.2.1,z.2.2⟩,ob,es,ep,k _ _ (.inl rfl) e,c⟩
 |set S n=>obtain⟨ob,es,ep,t,e,c⟩:=x;exact⟨ob,es,ep,t,k _ _ (.inl rfl) e,c⟩
 |ins C dx fs =>
 obtain⟨d,z,ne,e,mA,⟨od,es,ep,e2,c⟩,r⟩:=x
 exact⟨ho _ d,z,ne,k _ _ (.inl rfl) e,mA,⟨od,es,ep,k _ _ (.inr d) e2,c⟩,r⟩
 |own y=>obtain⟨ob,e⟩:=x;exact⟨ob,k _ _ (.inl rfl) e⟩
 |xd fs=>obtain⟨mA,⟨od,es,ep,e,c⟩,r⟩:=x;exact⟨mA,⟨od,es,ep,k _ _ (.inl rfl) e,c⟩,r⟩
 |rng lo hi=>obtain⟨t,u,v,e⟩:=x;exact⟨t,u,v,k _ _ (.inl rfl) e⟩
 |frz ob u ih=>obtain⟨e,q⟩:=x;exact⟨k _ _ (.inl rfl) e,ih q⟩
 |tbl ps =>
 have e:h.get? a=some { cls:=.none,data:=.fields ps }:=x
 show h'.get? a=some { cls:=.none,data:=.fields ps }
 exact k a _ (.inl rfl) e
 |met f y =>
 have e:h.get? a=some (qz (.ref f) (.ref y)):=x
 show h'.get? a=some (qz (.ref f) (.ref y))
 exact k a _ (.inl rfl) e
 |ext φ=>obtain⟨p,⟨o,e⟩,st⟩:=x;exact⟨st _ _ p fun o q=>k _ _ (.inl rfl) q,⟨o,k _ _ (.inl rfl) e⟩,st⟩
theorem jF.lt (x:jF P w H h)(e:H a=some o):a<h.objs.size:=(x a o e).lt
theorem jF.fresh (x:jF P w H h)(e:h.objs.size<=a):H a=none:=by
 cases q:H a with
 |none=>rfl
 |some u=>exact absurd (cp (x.lt q) e) (jj _)
theorem jF.kept (x:jF P w H h)(k:∀ b u,h.get? b=some u->h'.get? b=some u):jF P w H h':=fun a o e =>
 (x a o e).B9 (fun b u _ q=>k b u q) (fun _ q=>q) fun _ _ q=>q
theorem jF.laid (x:jF P w H h)(k:∀ b u,h.get? b=some u->h'.get? b=some u)(hp:h.objs.size<=a)(new:jV P w (upd H a o) h' a o):jF P w (upd H a o) h':=fun b u e=>by
 have hn:=x.fresh hp
 by_cases hb:b=a
 ·subst hb;rw[eI]at e;cases e;exact new
 ·rw[cA hb]at e
  exact(x b u e).B9 (fun c v _ q=>k c v q) (fun c q=>by rw[cA (iQ q hn)];exact q) fun c xs q=>by rw[cA (iQ q hn)];exact q
end
noncomputable def Rd (H:Hp)(a:Addr)(u:HO):Prop:=H a=some u∨∃ o,H a=some (.frz o u)
theorem Rd.ok {P:br}{w:World}{H:Hp}{h:Heap}{a:Addr}{u:HO}(r:Rd H a u)(x:jF P w H h):jV P w H h a u:=by
 rcases r with r|⟨o,r⟩
 ·exact x a u r
 ·obtain⟨_,q⟩:=x a _ r
  exact q
noncomputable def V6:Option HO->Prop
 |some (.lst _)=>True
 |some (.dK _)=>True
 |some (.dT _)=>True
 |some (.set _ _)=>True
 |some (.ins _ _ _)=>True
 |some (.ext _)=>True
 |_=>False
section
variable {P:br}{w:World}{H:Hp}{h h':Heap}{x e:Addr}{o':HO}
theorem jF.write (ok:jF P w H h)(mu:V6 (H x))(he:e=x∨H e=some (.own x))(k:∀ b u,b≠e->h.get? b=some u->h'.get? b=some u)(heo:∃ u,h'.get? e=some u)
  (new:jV P w (upd H x o') h' x o'):jF P w (upd H x o') h':=fun b u q=>by
 have nown:∀ c y,H c=some (.own y)->c≠x:=fun c y r z=>by subst z;rw[r]at mu;exact mu
 have ntup:∀ c xs,H c=some (.tup xs)->c≠x:=fun c xs r z=>by subst z;rw[r]at mu;exact mu
 by_cases hb:b=x
 ·subst hb;rw[eI]at q;cases q;exact new
 ·rw[cA hb]at q
  by_cases hbe:b=e
  ·have q':H b=some (.own x):=by
    rcases he with z|z
    ·exact absurd (hbe.trans z) hb
    ·rw[hbe];exact z
   rw[q]at q';cases q'
   obtain⟨v,hv⟩:=heo
   exact⟨v,by rw[hbe];exact hv⟩
  ·refine(ok b u q).B9 (fun c v hc r=>k c v ?_ r) (fun c r=>by rw[cA (nown c b r)];exact r) fun c xs r=>by rw[cA (ntup c xs r)];exact r
   rcases hc with rfl|hc
   ·exact hbe
   ·rintro rfl
    rcases he with z|z
    ·exact nown c b hc z
    ·rw[hc]at z;cases z;exact hb rfl
end
structure Un (fs ex:List Addr)(H H':Hp)(h h':Heap):Prop where
 keep:∀ b o,h.get? b=some o->H b=none->b∉fs->b∉ex->h'.get? b=some o
 slot:∀ b o,h.get? b=some o->H b=none->b∈fs->b∉ex->∃ sl,h'.get? b=some { o with slots:=sl }
 free:∀ b o,h.get? b=some o->H b=none->b∉ex->H' b=none
 there:∀ b o,h.get? b=some o->b∉ex->∃ o',h'.get? b=some o'
 xM:∀ b xs,H b=some (.tup xs)->H' b=some (.tup xs)
 uD:∀ b o u,H b=some (.frz o u)->H' b=some (.frz o u)
 xN:∀ b ps,H b=some (.tbl ps)->∃ more,H' b=some (.tbl (ps++more))
section
variable {fs fs' ex ex':List Addr}{H H1 H2:Hp}{h h1 h2 h':Heap}{a x e:Addr}{o:HO}
theorem Un.any (u:Un fs ex H H1 h h1){b:Addr}{ob:Obj}(q:h.get? b=some ob)(n:H b=none)(hx:b∉ex):∃ sl,h1.get? b=some { ob with slots:=sl }:=by
 by_cases hb:b∈fs
 ·exact u.slot b ob q n hb hx
 ·exact⟨ob.slots,u.keep b ob q n hb hx⟩
theorem Un.kept (k:∀ b u,h.get? b=some u->h'.get? b=some u):Un fs ex H H h h' :=
 ⟨fun b ob q _ _ _=>k b ob q,fun b ob q _ _ _=>⟨ob.slots,k b ob q⟩,fun _ _ _ n _=>n,fun b ob q _=>⟨ob,k b ob q⟩,fun _ _ q=>q,fun _ _ _ q=>q,fun _ ps q=>⟨#[],by rw[q];simp⟩⟩
theorem Un.refl:Un fs ex H H h h:=Un.kept fun _ _ q=>q
theorem Un.laid (k:∀ b u,h.get? b=some u->h'.get? b=some u)(hp:h.objs.size<=a)(hn:H a=none):Un fs ex H (upd H a o) h h' where
 keep:=fun b u q _ _ _=>k b u q
 slot:=fun b u q _ _ _=>⟨u.slots,k b u q⟩
 free:=fun b u q n _=>by rw[cA (cb (cp (bo q) hp))];exact n
 there:=fun b u q _=>⟨u,k b u q⟩
 xM:=fun b xs q=>by rw[cA (iQ q hn)];exact q
 uD:=fun b u xs q=>by rw[cA (iQ q hn)];exact q
 xN:=fun b ps q=>⟨#[],by rw[cA (iQ q hn),q];simp⟩
theorem Un.write (mu:V6 (H x))(he:e=x∨H e=some (.own x))(k:∀ b u,b≠e->h.get? b=some u->h'.get? b=some u)(heo:∃ u,h'.get? e=some u):Un fs ex H (upd H x o) h h':=by
 have hx:∀ b,H b=none->b≠x:=fun b n z=>by subst z;rw[n]at mu;exact mu
 have hb:∀ b,H b=none->b≠e:=fun b n z=>by
  subst z
  rcases he with r|r
  ·exact hx b n r
  ·rw[n]at r;cases r
 have hm:∀ b u,H b=some u->¬V6 (some u)->b≠x:=fun b u q nm z=>by subst z;rw[q]at mu;exact nm mu
 refine⟨fun b u q n _ _=>k b u (hb b n) q,fun b u q n _ _=>⟨u.slots,k b u (hb b n) q⟩,fun b u q n _=>by rw[cA (hx b n)];exact n,fun b u q _=>?_,
  fun b xs q=>by rw[cA (hm b _ q fun z=>z)];exact q,fun b u xs q=>by rw[cA (hm b _ q fun z=>z)];exact q,fun b ps q=>⟨#[],by rw[cA (hm b _ q fun z=>z),q];simp⟩⟩
 by_cases hbe:b=e
 ·subst hbe;exact heo
 ·exact⟨u,k b u hbe q⟩
end
noncomputable def VV (h:Heap)(H:Hp):List Addr:=(a9 h.objs.size).filter fun a=>(H a).isSome
noncomputable def vY (h:Heap)(H:Hp):Heap:=PySem.W.hideAll h (VV h H)
theorem RI (h:Heap)(H:Hp):(vY h H).objs.size=h.objs.size:=PySem.W.hideAll_size _ _
theorem S1 {h:Heap}{H:Hp}{b:Addr}{o:Obj}(e:h.get? b=some o)(n:H b=none):(vY h H).get? b=some o :=
 PySem.W.hideAll_get _ e fun hm=>by
 have q:(H b).isSome=true:=(List.mem_filter.mp hm).2
 rw[n]at q;simp at q
theorem ZJ {h:Heap}{H:Hp}{b:Addr}{o:Obj}(e:(vY h H).get? b=some o):h.get? b=some o/\H b=none:=by
 have e':h.get? b=some o:=PySem.W.of_hideAll (VV h H) e
 refine⟨e',?_⟩
 cases q:H b with
 |none=>rfl
 |some x =>
 have hm:b∈VV h H:=List.mem_filter.mpr ⟨List.mem_range.mpr (bo e'),by simp [q]⟩
 have z:(vY h H).get? b=none:=PySem.W.hideAll_none (VV h H) hm
 rw[z]at e;cases e
noncomputable def XI (g h:Heap)(L:Addr):List (Addr×Obj):=(a9 h.objs.size).filterMap fun a=>if a=L∨(g.get? a).isSome=true then none else(h.get? a).map fun o=>(a,o)
noncomputable def rest (g h:Heap)(L d:Addr):List (Addr×Obj):=(XI g h L).filter fun p=>decide (p.1≠d)
end L2
namespace L2
open PySem PySem.Spec PyProof.Rows
structure Mod (K:ab)(mg:Str->Option Value)(base:Heap):Prop where
 kin:K.In base
 glob:base.Ns cj mg
 blt:∃ mb,base.Ns Qg mb/\∀ x:Str,x ≠"__name__" -> mb x=cf x
 nolimit:base.NoLimit
structure Cx where
 prog:br
 w:World
 K:ab
 mg:Str->Option Value
 base:Heap
 A:cg
 N:List Str
 s₀:af
 H₀:Hp
 env:Env
 outer:List Env
 stack:List Env
 ex:List Addr
 fn:Str->Bool
 calm:Bool
 pn:List (Addr×Obj)
 xe:Value->af->Prop
noncomputable def yK (l:List Env):List Addr:=l.filterMap (·.frame)
noncomputable abbrev Cx.fs (X:Cx):List Addr:=yK X.outer
noncomputable def Dl (sc:Scope)(x:Str):Prop:=sc.names.lookup x=some .local∨sc.names.lookup x=some .cell∨sc.names.lookup x=some .free
noncomputable def Loc (sc:Scope)(x:Str):Prop:=sc.names.lookup x=some .local∨sc.names.lookup x=some .cell
noncomputable def Look (env:Env)(h:Heap)(m:Str->Option Value)(x:Str)(u:Value):Prop :=
 (env.kindOf x=some .local/\m x=some u)∨((env.kindOf x=some .cell∨env.kindOf x=some .free)/\∃ c,env.cells.lookup x=some c/\h.IsCell c (some u))
structure Cx.Ok (X:Cx):Prop where
 mod:Mod X.K X.mg X.base
 kind:X.env.scope.kind=.function
 glob:X.env.globals=cj
 blt:X.env.builtins=Qg
 above:X.s₀.heap.objs.size<=X.env.locals
 inj:∀ x y c,X.env.cells.lookup x=some c->X.env.cells.lookup y=some c->x=y
 has:∀ x,(X.env.kindOf x=some .cell∨X.env.kindOf x=some .free)->∃ c,X.env.cells.lookup x=some c
 cab:∀ x c,X.fn x=true->X.env.cells.lookup x=some c->X.s₀.heap.objs.size<=c
 hd:X.calm=true->X.A.handled=none
 frames:X.A.frames=some X.stack
 stk:X.stack=X.outer∨(X.stack=X.env::X.outer/\X.env.frame=some X.env.locals)
 exf:∀ b∈X.ex,b≠X.env.locals/\∀ x c,X.env.cells.lookup x=some c->c≠b
 bs:∀ b o,X.base.get? b=some o->X.s₀.heap.get? b=some o/\X.H₀ b=none
 bsz:X.base.objs.size<=X.s₀.heap.objs.size
 noex:∀ b o,X.base.get? b=some o->b∉X.ex
 exfs:∀ b∈X.ex,b∉X.fs
 oI:X.s₀.heap.FunFrames X.base X.outer
 frf:∀ b∈X.fs,X.H₀ b=none
structure Inv (X:Cx)(pins:List (Addr×Obj))(σ:List (Option V))(H:Hp)(s:af):Prop where
 ok:X.Ok
 os:s.os=X.s₀.os
 bare:rb s.gens
 base:Un X.fs X.ex X.H₀ H X.s₀.heap s.heap
 loc:∃ m,s.heap.Ns X.env.locals m/\∀(i:Nat)(x:Str)(v:V),X.N[i]? = some x->σ[i]? = some (some v)->Dl X.env.scope x->∃ u,RelV v u/\Look X.env s.heap m x u
 cell:∀ x c,X.env.cells.lookup x=some c->∃ v,s.heap.IsCell c v
 free:H X.env.locals=none
 mD:∀ x c,X.env.cells.lookup x=some c->H c=none
 pin:∀ p∈X.pn++pins,s.heap.get? p.1=some p.2/\H p.1=none/\p.1≠X.env.locals/\p.1∉X.fs/\∀ v,p.2.data≠.cell v
 cG:jF X.prog X.w H s.heap
 len:σ.length=X.N.length
section
variable {X:Cx}{pins:List (Addr×Obj)}{σ:List (Option V)}{H H':Hp}{s:af}{h':Heap}
theorem Cx.Ok.Nx (ok:X.Ok){b:Addr}{o:Obj}(e:X.base.get? b=some o):b∉X.fs:=fun hb=>by
 have:=(ok.oI.mem hb).1
 rw[e]at this;cases this
theorem Inv.bs (I:Inv X pins σ H s):∀ b o,X.base.get? b=some o->s.heap.get? b=some o/\H b=none:=fun b o e =>
 ⟨I.base.keep b o (I.ok.bs b o e).1 (I.ok.bs b o e).2 (I.ok.Nx e) (I.ok.noex b o e),I.base.free b o (I.ok.bs b o e).1 (I.ok.bs b o e).2 (I.ok.noex b o e)⟩
theorem Inv.bk (I:Inv X pins σ H s):∀ b o,X.base.get? b=some o->s.heap.get? b=some o:=fun b o e=>(I.bs b o e).1
theorem Inv.mod (I:Inv X pins σ H s):Mod X.K X.mg X.base:=I.ok.mod
theorem Inv.kG (I:Inv X pins σ H s):X.K.In s.heap:=I.ok.mod.kin.keeps I.bk
theorem Inv.fr (I:Inv X pins σ H s):∃ m,Fr X.base X.env.locals s.heap m :=
 let⟨m,hn,_⟩:=I.loc
 ⟨m,hn,I.bk,bz I.ok.bsz I.ok.above⟩
theorem Inv.lt (I:Inv X pins σ H s):X.env.locals<s.heap.objs.size:=let⟨_,hn,_⟩:=I.loc;hn.lt
theorem Inv.sz (I:Inv X pins σ H s):X.s₀.heap.objs.size<=s.heap.objs.size:=bz I.ok.above (tz I.lt)
theorem Inv.Cc (I:Inv X pins σ H s){a:Addr}(h:s.heap.objs.size<=a):a∉X.fs:=fun hb=>by
 obtain⟨_,o,ho,_⟩:=I.ok.oI.mem hb
 exact absurd (cp (bo ho) (bz I.sz h)) (jj _)
theorem Inv.JJ (I:Inv X pins σ H s):∀ x c,X.env.cells.lookup x=some c->c≠X.env.locals:=fun x c e z=>by
 obtain⟨v,o,ho,hd⟩:=I.cell x c e
 obtain⟨m,⟨o',es,ep,ho',hd',_⟩,_⟩:=I.loc
 rw[z,ho']at ho;cases ho;rw[hd']at hd;cases hd
theorem Inv.oI (I:Inv X pins σ H s):s.heap.FunFrames X.base X.outer:=by
 have all:∀(l:List Env),(∀ b∈yK l,b∈X.fs)->X.s₀.heap.FunFrames X.base l->s.heap.FunFrames X.base l:=by
  intro l
  induction l with
  |nil=>intro _ _;trivial
  |cons env r ih =>
   intro hs hl
   obtain⟨hk,⟨L,o,hf,hn,ho,hd⟩,hr⟩:=hl
   have hL:L∈X.fs:=hs L (by unfold yK;rw[eh,hf];exact fb)
   obtain⟨sl,e⟩:=I.base.slot L o ho (I.ok.frf L hL) hL fun z=>I.ok.exfs L z hL
   exact⟨hk,⟨L,_,hf,hn,e,hd⟩,ih (fun b hb=>hs b (by unfold yK;rw[eh,hf];exact dj _ hb)) hr⟩
 exact all X.outer (fun _ hb=>hb) I.ok.oI
theorem Inv.stack (I:Inv X pins σ H s):s.heap.FunFrames X.base X.stack:=by
 rcases I.ok.stk with e|⟨e,hf⟩
 ·rw[e];exact I.oI
 ·rw[e]
  obtain⟨m,hn,_⟩:=I.loc
  refine .cons (by rw[I.ok.kind];decide) hf hn ?_ I.oI
  exact Heap.get?_none_of_le (bz I.ok.bsz I.ok.above)
theorem Inv.IS (I:Inv X pins σ H s):∀ b∈yK X.stack,b∈X.env.locals::X.fs:=fun b hb=>by
 rcases I.ok.stk with e|⟨e,hf⟩
 ·rw[e]at hb;exact dj _ hb
 ·rw[e]at hb
  unfold yK at hb
  rw[eh,hf]at hb
  exact hb
theorem Inv.MK (I:Inv X pins σ H s):∀ b∈yK X.stack,H b=none:=fun b hb=>by
 rcases List.mem_cons.mp (I.IS b hb)with e|hb
 ·rw[e];exact I.free
 ·obtain⟨_,o,ho,_⟩:=I.ok.oI.mem hb
  exact I.base.free b o ho (I.ok.frf b hb) fun z=>I.ok.exfs b z hb
theorem Inv.step {g':Array Qh}{t':Nat}{d':Drawn}{ch:List Addr}(I:Inv X pins σ H s)
  (hch:∀ b∈ch,(b∈X.ex∨X.s₀.heap.objs.size<=b)/\b≠X.env.locals/\(∀ x c,X.env.cells.lookup x=some c->c≠b)/\∀ p∈X.pn++pins,p.1≠b)
  (keep:∀ b o,b≠X.env.locals->b∉X.fs->b∉ch->s.heap.get? b=some o->H b=none->h'.get? b=some o)
  (slot:∀ b o,b≠X.env.locals->b∈X.fs->b∉ch->s.heap.get? b=some o->H b=none->∃ sl,h'.get? b=some { o with slots:=sl })(free:∀ b o,b∉ch->s.heap.get? b=some o->H b=none->H' b=none)
  (there:∀ b o,b∉ch->s.heap.get? b=some o->∃ o',h'.get? b=some o')
  (xM:∀ b xs,H b=some (.tup xs)->H' b=some (.tup xs))(uD:∀ b o u,H b=some (.frz o u)->H' b=some (.frz o u))(xN:∀ b ps,H b=some (.tbl ps)->∃ more,H' b=some (.tbl (ps++more)))
  (ns:∀ m,s.heap.Ns X.env.locals m->h'.Ns X.env.locals m)(cG:jF X.prog X.w H' h')(hg:rb g'):
  Inv X pins σ H' { s with heap:=h',gens:=g',drawn:=d',toks:=t' }:=by
 have neL:∀ b o,X.s₀.heap.get? b=some o->b≠X.env.locals:=fun b o e=>cb (cp (bo e) I.ok.above)
 have neC:∀ b o,X.s₀.heap.get? b=some o->b∉X.ex->b∉ch:=fun b o e hx hb=>by
  rcases(hch b hb).1 with z|z
  ·exact hx z
  ·exact absurd (cp (bo e) z) (jj _)
 have cellK:∀ x c,X.env.cells.lookup x=some c->∀ v,s.heap.IsCell c v->h'.IsCell c v:=fun x c e v ⟨o,ho,hd⟩=>by
  have nch:c∉ch:=fun z=>(hch c z).2.2.1 x c e rfl
  by_cases hc:c∈X.fs
  ·obtain⟨sl,q⟩:=slot c o (I.JJ x c e) hc nch ho (I.mD x c e)
   exact⟨_,q,hd⟩
  ·exact⟨o,keep c o (I.JJ x c e) hc nch ho (I.mD x c e),hd⟩
 refine⟨I.ok,I.os,hg,⟨fun b o e n hb hx=>?_,fun b o e n hb hx=>?_,fun b o e n hx=>?_,fun b o e hx=>?_,fun b xs e=>xM b xs (I.base.xM b xs e),fun b o xs e=>uD b o xs (I.base.uD b o xs e),fun b ps e=>?_⟩,?_,fun x c e=>?_,?_,fun x c e=>?_,fun p hp=>?_,cG,I.len⟩
 ·exact keep b o (neL b o e) hb (neC b o e hx) (I.base.keep b o e n hb hx) (I.base.free b o e n hx)
 ·obtain⟨sl,e1⟩:=I.base.slot b o e n hb hx
  obtain⟨sl',e2⟩:=slot b _ (neL b o e) hb (neC b o e hx) e1 (I.base.free b o e n hx)
  exact⟨sl',e2⟩
 ·obtain⟨o',e1⟩:=I.base.there b o e hx
  exact free b o' (neC b o e hx) e1 (I.base.free b o e n hx)
 ·obtain⟨o',e1⟩:=I.base.there b o e hx
  exact there b o' (neC b o e hx) e1
 ·obtain⟨m1,e1⟩:=I.base.xN b ps e
  obtain⟨m2,e2⟩:=xN b _ e1
  exact⟨m1++m2,by rw[e2,Array.append_assoc]⟩
 ·obtain⟨m,hn,hl⟩:=I.loc
  refine⟨m,ns m hn,fun i x v e1 e2 e3=>?_⟩
  obtain⟨u,r,l⟩:=hl i x v e1 e2 e3
  refine⟨u,r,?_⟩
  rcases l with l|⟨k,c,e,z⟩
  ·exact .inl l
  ·exact .inr ⟨k,c,e,cellK x c e _ z⟩
 ·obtain⟨v,z⟩:=I.cell x c e
  exact⟨v,cellK x c e v z⟩
 ·obtain⟨m,⟨o,_,_,ho,_⟩,_⟩:=I.loc
  exact free _ o (fun z=>(hch _ z).2.1 rfl) ho I.free
 ·obtain⟨v,o,ho,hd⟩:=I.cell x c e
  exact free c o (fun z=>(hch c z).2.2.1 x c e rfl) ho (I.mD x c e)
 ·obtain⟨e,n,ne,nf,d⟩:=I.pin p hp
  have nch:p.1∉ch:=fun z=>(hch p.1 z).2.2.2 p hp rfl
  exact⟨keep p.1 p.2 ne nf nch e n,free p.1 p.2 nch e n,ne,nf,d⟩
theorem Inv.un {t':Nat}(I:Inv X pins σ H s)(u:Un X.fs [] H H' s.heap h')(cG:jF X.prog X.w H' h'):Inv X pins σ H' { s with heap:=h',toks:=t' }:=by
 obtain⟨m,⟨o,es,ep,ho,r⟩,_⟩:=id I.loc
 obtain⟨sl,hL⟩:=u.any ho I.free (by simp)
 exact I.step (g':=s.gens) (d':=s.drawn) (ch:=[]) (fun _ z=>nomatch z) (fun b o _ hb _ e n=>u.keep b o e n hb (by simp)) (fun b o _ hb _ e n=>u.slot b o e n hb (by simp)) (fun b o _ e n=>u.free b o e n (by simp)) (fun b o _ e=>u.there b o e (by simp)) u.xM u.uD u.xN (fun m' hm=>by
 obtain⟨o',es',ep',ho',r'⟩:=hm
 rw[ho]at ho';cases ho'
 exact⟨_,es',ep',hL,r'⟩) cG I.bare
theorem Inv.call {g':Array Qh}{t':Nat}{d':Drawn}{ch:List Addr}(I:Inv X pins σ H s)(u:Un (yK X.stack) ch H H' s.heap h')(cG:jF X.prog X.w H' h')(hg:rb g')
 (hch:∀ b∈ch,(b∈X.ex∨X.s₀.heap.objs.size<=b)/\b≠X.env.locals/\(∀ x c,X.env.cells.lookup x=some c->c≠b)/\∀ p∈X.pn++pins,p.1≠b):
 Inv X pins σ H' { s with heap:=h',gens:=g',drawn:=d',toks:=t' }:=by
 obtain⟨m,⟨o,es,ep,ho,r⟩,_⟩:=id I.loc
 obtain⟨sl,hL⟩:=u.any ho I.free fun z=>(hch _ z).2.1 rfl
 exact I.step (ch:=ch) hch (fun b o hL hb hc e n=>u.keep b o e n (fun z=>(List.mem_cons.mp (I.IS b z)).elim hL hb) hc) (fun b o _ _ hc e n=>u.any e n hc) (fun b o hc e n=>u.free b o e n hc) (fun b o hc e=>u.there b o e hc) u.xM u.uD u.xN (fun m' hm=>by
 obtain⟨o',es',ep',ho',r'⟩:=hm
 rw[ho]at ho';cases ho'
 exact⟨_,es',ep',hL,r'⟩) cG hg
theorem Inv.turned {t':Nat}{it:Addr}(I:Inv X pins σ H s)(k:∀ b o,b≠it->s.heap.get? b=some o->h'.get? b=some o)(hn:H it=none)(hL:it≠X.env.locals)
  (h1:it∈X.ex∨X.s₀.heap.objs.size<=it)(h2:∀ x c,X.env.cells.lookup x=some c->c≠it)(h3:∀ p∈X.pn++pins,p.1≠it):Inv X pins σ H { s with heap:=h',toks:=t' }:=by
 have nit:∀ b u,H b=some u->b≠it:=fun b u e z=>by rw[z,hn]at e;cases e
 refine I.step (g':=s.gens) (d':=s.drawn) (ch:=[it]) (fun b hb=>?_) (fun b o _ _ hc e _=>k b o (fun z=>hc (by simp [z])) e) (fun b o _ _ hc e _=>⟨o.slots,k b o (fun z=>hc (by simp [z])) e⟩) (fun _ _ _ _ n=>n)
  (fun b o hc e=>⟨o,k b o (fun z=>hc (by simp [z])) e⟩) (fun _ _ e=>e) (fun _ _ _ e=>e) (fun b ps e=>⟨#[],by rw[e];simp⟩) (fun m hm=>?_) (fun b u e=>?_) I.bare
 ·have e:b=it:=by simpa using hb
  subst e
  exact⟨h1,hL,h2,h3⟩
 ·obtain⟨o,es,ep,ho,r⟩:=hm
  exact⟨o,es,ep,k _ o (cz hL) ho,r⟩
 ·refine(I.cG b u e).B9 (fun c v hc q=>k c v ?_ q) (fun _ q=>q) fun _ _ q=>q
  rcases hc with z|z
  ·rw[z];exact nit b u e
  ·exact nit c _ z
theorem Inv.tok (I:Inv X pins σ H s)(t:Nat):Inv X pins σ H { s with toks:=t }:=I.un (h':=s.heap) (t':=t) Un.refl I.cG
theorem Inv.kept {t':Nat}(I:Inv X pins σ H s)(k:∀ b u,s.heap.get? b=some u->h'.get? b=some u):Inv X pins σ H { s with heap:=h',toks:=t' }:=I.un (Un.kept k) (I.cG.kept k)
theorem Inv.laid {a:Addr}{o:HO}{t':Nat}(I:Inv X pins σ H s)(k:∀ b u,s.heap.get? b=some u->h'.get? b=some u)(hp:s.heap.objs.size<=a)(new:jV X.prog X.w (upd H a o) h' a o):
 Inv X pins σ (upd H a o) { s with heap:=h',toks:=t' }:=I.un (Un.laid k hp (I.cG.fresh hp)) (I.cG.laid k hp new)
theorem Inv.write {x e:Addr}{o:HO}{t':Nat}(I:Inv X pins σ H s)(mu:V6 (H x))(he:e=x∨H e=some (.own x))(k:∀ b u,b≠e->s.heap.get? b=some u->h'.get? b=some u)(heo:∃ u,h'.get? e=some u)
 (new:jV X.prog X.w (upd H x o) h' x o):Inv X pins σ (upd H x o) { s with heap:=h',toks:=t' }:=I.un (Un.write mu he k heo) (I.cG.write mu he k heo new)
theorem Inv.weak {σ':List (Option V)}(I:Inv X pins σ H s)(hl:σ'.length=σ.length)(w:∀(i:Nat) v,σ'[i]? = some (some v)->σ[i]? = some (some v)):Inv X pins σ' H s :=
 ⟨I.ok,I.os,I.bare,I.base,let⟨m,hn,hl'⟩:=I.loc;⟨m,hn,fun i x v e1 e2 e3=>hl' i x v e1 (w i v e2) e3⟩,I.cell,I.free,I.mD,I.pin,I.cG,hl.trans I.len⟩
theorem Inv.MN {pins':List (Addr×Obj)}(I:Inv X pins σ H s)(h:∀ p∈pins',s.heap.get? p.1=some p.2/\H p.1=none/\p.1≠X.env.locals/\p.1∉X.fs/\∀ v,p.2.data≠.cell v):Inv X pins' σ H s :=
 ⟨I.ok,I.os,I.bare,I.base,I.loc,I.cell,I.free,I.mD,fun p hp=>(List.mem_append.mp hp).elim (fun z=>I.pin p (oj _ z)) (h p),I.cG,I.len⟩
theorem LN {N:List Str}(hN:N.Nodup){i j:Nat}{x:Str}(a:N[i]? = some x)(b:N[j]? = some x):i=j:=by
 obtain⟨h1,e1⟩:=List.getElem?_eq_some_iff.mp a
 obtain⟨h2,e2⟩:=List.getElem?_eq_some_iff.mp b
 exact(List.getElem_inj hN).mp (e1.trans e2.symm)
theorem GH {M:Model}{A:cg}{E:Value->af->Prop}{i:Nat}{x:Str}{v:V}{u:Value}{Q:Unit->af->Prop}(I:Inv X pins σ H s)(hN:X.N.Nodup)(hi:X.N[i]? = some x)(hx:Loc X.env.scope x)(r:RelV v u)
  (h:∀ s',Inv X pins (σ.set i (some v)) H s'->(∃ a,j9 a s.heap s'.heap/\(a=X.env.locals∨X.env.cells.lookup x=some a))->Q () s')(hf:X.fn x=true∨X.env.scope.names.lookup x=some .local:=by first|exact .inl rfl|exact .inr rfl|assumption):wpAny M A (storeName X.env x u) Q E s:=by
 obtain⟨m,hn,hl⟩:=id I.loc
 have hcls:(X.env.scope.kind == .class||(X.env.scope.kind == .module&&X.env.locals != X.env.globals))=false:=by rw[I.ok.kind];rfl
 have hiσ:i<σ.length:=by rw[I.len];exact(List.getElem?_eq_some_iff.mp hi).1
 have JJ:=I.JJ
 have tracked:∀{a:Addr}{h':Heap},(∃ o,s.heap.get? a=some o/\H a=none)->j9 a s.heap h'->jF X.prog X.w H h':=fun{a h'} ha hs b ob e=>by
  obtain⟨_,_,hfree⟩:=ha
  refine(I.cG b ob e).B9 (fun c w' hc q=>(hs.2 c ?_).trans q) (fun _ q=>q) fun _ _ q=>q
  rintro rfl
  rcases hc with rfl|hc
  ·rw[hfree]at e;cases e
  ·rw[hfree]at hc;cases hc
 rcases hx with hk|hk
 ·refine wpAny_storeName_local hk hn (fun h' hn' hs=>?_) hcls
  obtain⟨oL,_,_,hoL,_⟩:=id hn
  refine h _ ⟨I.ok,I.os,I.bare,⟨fun b o e n hb hx=>?_,fun b o e n hb hx=>?_,I.base.free,fun b o e hx=>?_,I.base.xM,I.base.uD,I.base.xN⟩,⟨_,hn',fun j y v' e1 e2 e3=>?_⟩,fun y c e=>?_,I.free,I.mD,fun p hp=>?_,tracked ⟨oL,hoL,I.free⟩ hs,by simpa using I.len⟩ ⟨_,hs,.inl rfl⟩
  ·exact(hs.2 b (cb (cp (bo e) I.ok.above))).trans (I.base.keep b o e n hb hx)
  ·obtain⟨sl,e1⟩:=I.base.slot b o e n hb hx
   exact⟨sl,(hs.2 b (cb (cp (bo e) I.ok.above))).trans e1⟩
  ·obtain⟨o',e1⟩:=I.base.there b o e hx
   exact⟨o',(hs.2 b (cb (cp (bo e) I.ok.above))).trans e1⟩
  ·by_cases hj:j=i
   ·subst hj
    rw[hi]at e1;cases e1
    rw[kc hiσ]at e2
    cases e2
    exact⟨u,r,.inl ⟨hk,by simp⟩⟩
   ·rw[gV (cz hj)]at e2
    obtain⟨u',r',q⟩:=hl j y v' e1 e2 e3
    refine⟨u',r',?_⟩
    rcases q with⟨k,e⟩|⟨k,c,e,z⟩
    ·refine .inl ⟨k,?_⟩
     have:y≠x:=fun e=>hj (LN hN e1 (e▸hi))
     simp [this,e]
    ·exact .inr ⟨k,c,e,z.sameBut hs (JJ y c e)⟩
  ·obtain⟨w',z⟩:=I.cell y c e
   exact⟨w',z.sameBut hs (JJ y c e)⟩
  ·obtain⟨e,n,ne,nf,d⟩:=I.pin p hp
   exact⟨(hs.2 p.1 ne).trans e,n,ne,nf,d⟩
 ·have hfn:X.fn x=true:=by
   rcases hf with z|z
   ·exact z
   ·rw[z]at hk;cases hk
  obtain⟨c,hc⟩:=I.ok.has x (.inl hk)
  obtain⟨w',z⟩:=I.cell x c hc
  refine wpAny_storeName_cell I.ok.kind hk hc z (fun h' hc' hs=>?_)
  obtain⟨oc,hoc,hocd⟩:=id z
  refine h { s with heap:=h' } ⟨I.ok,I.os,I.bare,⟨fun b o e n hb hx=>?_,fun b o e n hb hx=>?_,I.base.free,fun b o e hx=>?_,I.base.xM,I.base.uD,I.base.xN⟩,⟨m,hn.sameBut hs (cz (JJ x c hc)),fun j y v' e1 e2 e3=>?_⟩,fun y c' e=>?_,I.free,I.mD,fun p hp=>?_,tracked ⟨oc,hoc,I.mD x c hc⟩ hs,by simpa using I.len⟩ ⟨c,hs,.inr hc⟩
  ·exact(hs.2 b (cb (cp (bo e) (I.ok.cab x c hfn hc)))).trans (I.base.keep b o e n hb hx)
  ·obtain⟨sl,e1⟩:=I.base.slot b o e n hb hx
   exact⟨sl,(hs.2 b (cb (cp (bo e) (I.ok.cab x c hfn hc)))).trans e1⟩
  ·obtain⟨o',e1⟩:=I.base.there b o e hx
   exact⟨o',(hs.2 b (cb (cp (bo e) (I.ok.cab x c hfn hc)))).trans e1⟩
  ·by_cases hj:j=i
   ·subst hj
    rw[hi]at e1;cases e1
    rw[kc hiσ]at e2
    cases e2
    exact⟨u,r,.inr ⟨.inl hk,c,hc,hc'⟩⟩
   ·rw[gV (cz hj)]at e2
    obtain⟨u',r',q⟩:=hl j y v' e1 e2 e3
    refine⟨u',r',?_⟩
    rcases q with q|⟨k,c',e,z'⟩
    ·exact .inl q
    ·refine .inr ⟨k,c',e,z'.sameBut hs ?_⟩
     rintro rfl
     exact hj (LN hN e1 (I.ok.inj _ _ _ e hc▸hi))
  ·by_cases hcc:c'=c
   ·subst hcc;exact⟨_,hc'⟩
   ·obtain⟨w2,z2⟩:=I.cell y c' e
    exact⟨w2,z2.sameBut hs hcc⟩
  ·obtain⟨e,n,ne,nf,d⟩:=I.pin p hp
   refine⟨(hs.2 p.1 ?_).trans e,n,ne,nf,d⟩
   intro q
   rw[q,hoc]at e
   have q':oc=p.2:=dy e
   exact d w' (by rw[<-q'];exact hocd)
theorem S5 {M:Model}{A:cg}{E:Value->af->Prop}{i:Nat}{x:Str}{v:V}{u:Value}{Q:Unit->af->Prop}(I:Inv X pins σ H s)(hN:X.N.Nodup)(hi:X.N[i]? = some x)(hx:Loc X.env.scope x)(r:RelV v u)
 (h:∀ s',Inv X pins (σ.set i (some v)) H s'->Q () s')(hf:X.fn x=true∨X.env.scope.names.lookup x=some .local:=by first|exact .inl rfl|exact .inr rfl|assumption):wpAny M A (storeName X.env x u) Q E s :=
 GH I hN hi hx r (fun s' I' _=>h s' I') hf
theorem Inv.Ha {s':af}{ch:List Addr}(I:Inv X pins σ H s)(ho:s'.os=s.os)(u:Un (yK X.stack) ch H H' s.heap s'.heap)(cG:jF X.prog X.w H' s'.heap)(hg:rb s'.gens)
 (hch:∀ b∈ch,(b∈X.ex∨X.s₀.heap.objs.size<=b)/\b≠X.env.locals/\(∀ x c,X.env.cells.lookup x=some c->c≠b)/\∀ p∈X.pn++pins,p.1≠b):Inv X pins σ H' s':=by
 obtain⟨h',g',d',t',o'⟩:=s'
 have e:o'=s.os:=ho
 subst e
 exact I.call (g':=g') (t':=t') (d':=d') u cG hg hch
end
noncomputable abbrev XK:=Value->Option Addr->Hp->Prop
noncomputable abbrev St:=List (Option V)
noncomputable abbrev VK:=V->Hp->Prop
noncomputable abbrev TE:=St->Hp->VK->Prop
noncomputable abbrev TT:=St->Hp->(Bool->Hp->Prop)->Prop
noncomputable abbrev TA:=St->Hp->(List V->Hp->Prop)->Prop
structure Ends where
 nx:St->Hp->Prop
 rt:VK
 bk:St->Hp->Prop:=fun _ _=>False
 ct:St->Hp->Prop:=fun _ _=>False
noncomputable abbrev TS:=Ends->St->Hp->Prop
inductive EP (X:Cx)(pins:List (Addr×Obj))(σ:St)(Q:VK)(u:Value)(s':af):Prop
 |mk (v:V)(H':Hp)(i:Inv X pins σ H' s')(r:RelV v u)(q:Q v H')
inductive TP (X:Cx)(pins:List (Addr×Obj))(σ:St)(Q:Bool->Hp->Prop)(b:Bool)(s':af):Prop
 |mk (H':Hp)(i:Inv X pins σ H' s')(q:Q b H')
inductive AP (X:Cx)(pins:List (Addr×Obj))(σ:St)(Q:List V->Hp->Prop)(us:List Value)(s':af):Prop
 |mk (vs:List V)(H':Hp)(i:Inv X pins σ H' s')(r:aQ vs us)(q:Q vs H')
noncomputable def SP (X:Cx)(pins:List (Addr×Obj))(D:Ends)(f:Flow)(s':af):Prop :=
 match f with
 |.next=>∃ σ' H',Inv X pins σ' H' s'/\D.nx σ' H'
 |.brk=>∃ σ' H',Inv X pins σ' H' s'/\D.bk σ' H'
 |.cont=>∃ σ' H',Inv X pins σ' H' s'/\D.ct σ' H'
 |.ret u=>∃ v σ' H',Inv X pins σ' H' s'/\RelV v u/\D.rt v H'
noncomputable def PE (X:Cx)(e:Expr)(t:TE):Prop :=
 ∀(pins:List (Addr×Obj))(s:af)(σ:St)(H:Hp)(Q:VK),Inv X pins σ H s->t σ H Q->wpAny (model X.prog X.w) X.A (eval e X.env) (EP X pins σ Q) X.xe s
noncomputable def PT (X:Cx)(e:Expr)(t:TT):Prop :=
 ∀(pins:List (Addr×Obj))(s:af)(σ:St)(H:Hp)(Q:Bool->Hp->Prop),Inv X pins σ H s->t σ H Q->wpAny (model X.prog X.w) X.A (ze e X.env (eval e X.env)) (TP X pins σ Q) X.xe s
noncomputable def PW (X:Cx)(e:Expr)(t:TT):Prop :=
 ∀(whole:Sem Value)(pins:List (Addr×Obj))(s:af)(σ:St)(H:Hp)(Q:Bool->Hp->Prop),Inv X pins σ H s->t σ H Q->wpAny (model X.prog X.w) X.A (ze e X.env whole) (TP X pins σ Q) X.xe s
theorem PW.pt {X:Cx}{e:Expr}{t:TT}(h:PW X e t):PT X e t:=h _
noncomputable def PA (X:Cx)(es:List Expr)(t:TA):Prop :=
 ∀(pos:Pos)(pins:List (Addr×Obj))(s:af)(σ:St)(H:Hp)(Q:List V->Hp->Prop),Inv X pins σ H s->t σ H Q->wpAny (model X.prog X.w) X.A (z9 (dq pos (ar es X.env))) (AP X pins σ Q) X.xe s
noncomputable def PS (X:Cx)(st:Stmt)(t:TS):Prop :=
 ∀(pins:List (Addr×Obj))(s:af)(σ:St)(H:Hp)(D:Ends),Inv X pins σ H s->t D σ H->wpAny (model X.prog X.w) X.A (exec st X.env) (SP X pins D) X.xe s
noncomputable def lI (X:Cx)(st:List Stmt)(t:TS):Prop :=
 ∀(pins:List (Addr×Obj))(s:af)(σ:St)(H:Hp)(D:Ends),Inv X pins σ H s->t D σ H->wpAny (model X.prog X.w) X.A (execs st X.env) (SP X pins D) X.xe s
theorem bE {α:Type}{t:Sem α}{Q Q':α->af->Prop}{M:Model}{A:cg}{E:Value->af->Prop}{s:af}(h:wpAny M A t Q E s)(hQ:∀ a s,Q a s->Q' a s):wpAny M A t Q' E s:=j2 h hQ fun _ _ x=>x
end L2
namespace L2
open PySem PySem.Spec PyProof.Rows
section
variable {X:Cx}
theorem bin {a b:Expr}{ta tb:TE}(ha:PE X a ta)(hb:PE X b tb){pins:List (Addr×Obj)}{s:af}{σ:St}{H:Hp}{R:V->V->Hp->Prop}(I:Inv X pins σ H s)(h:ta σ H fun x H1=>tb σ H1 fun y H2=>R x y H2)
 {α:Type}{Q:α->af->Prop}{f:Value->Value->Sem α}
 (hf:∀ v u s2 x y H2,Inv X pins σ H2 s2->RelV x v->RelV y u->R x y H2->wpAny (model X.prog X.w) X.A (f v u) Q X.xe s2):
 wpAny (model X.prog X.w) X.A (eval a X.env) (fun v s₁=>wpAny (model X.prog X.w) X.A (eval b X.env) (fun u s₂=>wpAny (model X.prog X.w) X.A (f v u) Q X.xe s₂) X.xe s₁) X.xe s:=by
 refine bE (ha pins s σ H _ I h) fun v s1 ⟨x,H1,I1,r1,q1⟩=>?_
 refine bE (hb pins s1 σ H1 _ I1 q1) fun u s2 ⟨y,H2,I2,r2,q2⟩=>?_
 exact hf v u s2 x y H2 I2 r1 r2 q2
noncomputable def SW (i:Nat):TE:=fun σ H Q=>∃ v,σ[i]? = some (some v)/\Q v H
noncomputable def tC (v:V):TE:=fun _ H Q=>Q v H
theorem Ed {i:Nat}{x:Str}{pos:Pos}(hN:X.N[i]? = some x)(hv:Dl X.env.scope x)(hd:(x==("__debug__" : Str))=false:=by decide)(hcd:(x==("__classdict__" : Str))=false:=by decide):PE X (.Name x pos) (SW i):=by
 intro pins s σ H Q I h
 obtain⟨v,e,h⟩:=h
 obtain⟨m,hn,hl⟩:=I.loc
 obtain⟨u,r,l⟩:=hl i x v hN e hv
 have fin:EP X pins σ Q u s:=⟨v,H,I,r,h⟩
 rcases l with⟨hk,hm⟩|⟨hk,c,hc,hcell⟩
 ·exact Qi (wpAny_loadName_local I.ok.kind hk hn hm fin) hd
 ·rcases hk with hk|hk
  ·exact Qi (wpAny_loadName_cell I.ok.kind hk hc hcell fin) hd
  ·exact Qi (wpAny_loadName_free I.ok.kind hk hc hcell fin hcd) hd
theorem Z1 {i j pos}:PE X (.Constant (.int i) j pos) (tC (.int i)):=fun _ _ _ H _ I h=>wpAny_Constant_int ⟨.int i,H,I.tok _,⟨_,rfl⟩,h⟩
theorem Ie {b j pos}:PE X (.Constant (.bool b) j pos) (tC (.bl b)):=fun _ _ _ H _ I h=>Constant_bool ⟨.bl b,H,I,rfl,h⟩
theorem Aw {j pos}:PE X (.Constant .none j pos) (tC .non):=fun _ _ _ H _ I h=>Constant_none ⟨.non,H,I,rfl,h⟩
theorem Bn {x j pos}:PE X (.Constant (.str x) j pos) (tC (.str x)):=fun _ _ _ H _ I h=>Calls.Constant_str ⟨.str x,H,I.tok _,⟨_,rfl⟩,h⟩
noncomputable def Gl (X:Cx)(x:Str):Prop:=X.env.kindOf x=some .globalImplicit
theorem EO {E:Value->af->Prop}{pins:List (Addr×Obj)}{s:af}{σ:St}{H:Hp}{x:Str}{u:Value}{pos:Pos}{Q:Value->af->Prop}(I:Inv X pins σ H s)(hg:Gl X x)(hm:X.mg x=some u)(h:Q u s)
 (hd:(x==("__debug__" : Str))=false:=by decide):wpAny (model X.prog X.w) X.A (eval (.Name x pos) X.env) Q E s :=
 qe I.ok.kind hg (Calls.loadGlobal_global (by rw[I.ok.glob];exact I.mod.glob.keeps I.bk) hm h) hd
theorem nU {E:Value->af->Prop}{pins:List (Addr×Obj)}{s:af}{σ:St}{H:Hp}{x:Str}{u:Value}{pos:Pos}{Q:Value->af->Prop}(I:Inv X pins σ H s)(hg:Gl X x)(hm:X.mg x=none)(hv:cf x=some u)(h:Q u s)
 (hn:x ≠"__name__":=by decide)(hd:(x==("__debug__" : Str))=false:=by decide):wpAny (model X.prog X.w) X.A (eval (.Name x pos) X.env) Q E s:=by
 obtain⟨mb,h1,h2⟩:=I.mod.blt
 exact qe I.ok.kind hg (Calls.loadGlobal_builtin (by rw[I.ok.glob];exact I.mod.glob.keeps I.bk) hm (by rw[I.ok.blt];exact h1.keeps I.bk) ((h2 x hn).trans hv) h) hd
theorem XW {x:Str}{v:V}{u:Value}{pos:Pos}(hg:Gl X x)(hm:X.mg x=some u)(r:RelV v u)(hd:(x==("__debug__" : Str))=false:=by decide):PE X (.Name x pos) (tC v) :=
 fun _ _ _ H _ I h=>EO I hg hm ⟨v,H,I,r,h⟩ hd
theorem ZC {x:Str}{v:V}{u:Value}{pos:Pos}(hg:Gl X x)(hm:X.mg x=none)(hv:cf x=some u)(r:RelV v u)(hn:x ≠"__name__":=by decide)(hd:(x==("__debug__" : Str))=false:=by decide):PE X (.Name x pos) (tC v) :=
 fun _ _ _ H _ I h=>nU I hg hm hv ⟨v,H,I,r,h⟩ hn hd
variable {a b:Expr}{ta tb:TE}{pos:Pos}
theorem RelV.VD {x:V}{v:Value}(r:RelV x v):(v==iq)=decide (x=.non):=by
 cases x with
 |non=>cases r;rfl
 |bl _=>cases r;rfl
 |int _=>obtain⟨t,rfl⟩:=r;rfl
 |str _=>obtain⟨t,rfl⟩:=r;rfl
 |byt _=>obtain⟨t,rfl⟩:=r;rfl
 |flt _=>obtain⟨t,rfl⟩:=r;rfl
 |ref _=>cases r;rfl
 |ty _=>cases r;rfl
variable {tA tB':TT}{rest:List Expr}
noncomputable def Mm (t u:TT):TT:=fun σ H Q=>t σ H fun c H1=>if c=true then u σ H1 Q else Q false H1
noncomputable def Pa (t u:TT):TT:=fun σ H Q=>t σ H fun c H1=>if c=true then Q true H1 else u σ H1 Q
noncomputable def Mr (t:TT):TT:=fun σ H Q=>t σ H fun c H1=>Q (!c) H1
theorem WU (ha:PT X a tA):PW X (.BoolOp .And [a] pos) tA:=by
 intro wh pins s σ H Q I h
 refine isTrue_and (bE (ha pins s σ H Q I h) fun c s1 e=>?_)
 cases c with
 |true=>exact isTrue_and_nil e
 |false=>exact e
theorem Ce (ha:PT X a tA):PW X (.BoolOp .Or [a] pos) tA:=by
 intro wh pins s σ H Q I h
 refine isTrue_or (bE (ha pins s σ H Q I h) fun c s1 e=>?_)
 cases c with
 |false=>exact isTrue_or_nil e
 |true=>exact e
theorem Ft (ha:PT X a tA)(hb:PW X (.BoolOp .And (b::rest) pos) tB'):PW X (.BoolOp .And (a::b::rest) pos) (Mm tA tB'):=by
 intro wh pins s σ H Q I h
 refine isTrue_and (bE (ha pins s σ H _ I h) fun c s1 ⟨H1,I1,q1⟩=>?_)
 cases c with
 |true=>exact hb wh pins s1 σ H1 Q I1 q1
 |false=>exact⟨H1,I1,q1⟩
theorem Jh (ha:PT X a tA)(hb:PW X (.BoolOp .Or (b::rest) pos) tB'):PW X (.BoolOp .Or (a::b::rest) pos) (Pa tA tB'):=by
 intro wh pins s σ H Q I h
 refine isTrue_or (bE (ha pins s σ H _ I h) fun c s1 ⟨H1,I1,q1⟩=>?_)
 cases c with
 |true=>exact⟨H1,I1,q1⟩
 |false=>exact hb wh pins s1 σ H1 Q I1 q1
theorem Eh (ha:PT X a tA):PT X (.UnaryOp .Not a pos) (Mr tA):=by
 intro pins s σ H Q I h
 exact isTrue_not (bE (ha pins s σ H (fun c H1=>Q (!c) H1) I h) fun c s1 ⟨H1,I1,q⟩=>⟨H1,I1,q⟩)
theorem Dt {op}{t:TE}(h:PE X a t):PE X (.BoolOp op [a] pos) t:=fun pins s σ H Q I hw=>BoolOp_one (h pins s σ H Q I hw)
end
end L2
namespace L2
open PySem PySem.Spec PyProof.Rows
noncomputable def dQ (K:ab)(H:Hp)(a:Addr)(xs:List V):Prop :=
 Rd H a (.lst xs) ∨
 ∃(o:Obj)(aD:Array Value)(n:Nat),K.lookup a=some o/\o.cls=.type "list" /\ o.dict=none/\o.data=.seq aD n/\aD.size<=sizeLine/\aQ xs aD.toList
noncomputable def eS (K:ab)(H:Hp)(a:Addr)(xs:List V):Prop :=
 Rd H a (.tup xs) ∨
 ∃(o:Obj)(aD:Array Value)(n:Nat),K.lookup a=some o/\o.cls=.type "tuple" /\ o.dict=none/\o.data=.seq aD n/\aD.size<=sizeLine/\aQ xs aD.toList
noncomputable def Oa:Value->Option V
 |.none=>some .non
 |.bool b=>some (.bl b)
 |.int i _=>some (.int i)
 |.str x _=>some (.str x)
 |.bytes b _=>some (.byt b)
 |.float b _=>some (.flt b)
 |.ref a=>some (.ref a)
 |.type n=>some (.ty n)
 |_=>none
theorem RelV.abs {x:V}{u:Value}(r:RelV x u):Oa u=some x:=by
 cases x with
 |non=>cases r;rfl
 |bl _=>cases r;rfl
 |int _=>obtain⟨t,rfl⟩:=r;rfl
 |str _=>obtain⟨t,rfl⟩:=r;rfl
 |byt _=>obtain⟨t,rfl⟩:=r;rfl
 |flt _=>obtain⟨t,rfl⟩:=r;rfl
 |ref _=>cases r;rfl
 |ty _=>cases r;rfl
theorem RelV.inj {x y:V}{u:Value}(r:RelV x u)(q:RelV y u):x=y:=dy (r.abs.symm.trans q.abs)
theorem aQ.inj:∀{xs ys:List V}{us:List Value},aQ xs us->aQ ys us->xs=ys
 |_,_,_,.nil,.nil=>rfl
 |_,_,_,.cons r t,.cons r' t'=>by rw[r.inj r',aQ.inj t t']
section
variable {X:Cx}{pins:List (Addr×Obj)}{σ:St}{H:Hp}{s:af}{a:Addr}{xs ys:List V}
theorem dQ.of {K:ab}(h:H a=some (.lst xs)):dQ K H a xs:=.inl (.inl h)
theorem eS.of {K:ab}(h:H a=some (.tup xs)):eS K H a xs:=.inl (.inl h)
theorem Inv.list (I:Inv X pins σ H s)(h:dQ X.K H a xs):∃ aD:List Value,aQ xs aD/\PlainL s.heap a aD.toArray/\xs.length<=sizeLine:=by
 rcases h with h|⟨o,aD,n,hk,hc,hd,hs,hz,r⟩
 ·obtain⟨z,aD,n,r,e⟩:=h.ok I.cG
  exact⟨aD,r,⟨_,n,e,rfl,rfl,rfl⟩,z⟩
 ·refine⟨aD.toList,r,⟨o,n,I.kG a o hk,hc,hd,by simpa using hs⟩,?_⟩
  have e:=r.length
  simp only[i9]at e
  omega
theorem Inv.tuple (I:Inv X pins σ H s)(h:eS X.K H a xs):∃ aD:List Value,aQ xs aD/\IsTup s.heap a aD.toArray/\xs.length<=sizeLine:=by
 rcases h with h|⟨o,aD,n,hk,hc,_,hs,hz,r⟩
 ·obtain⟨z,aD,r,p⟩:=h.ok I.cG
  exact⟨aD,r,p.tup,z⟩
 ·refine⟨aD.toList,r,⟨o,I.kG a o hk,hc,n,by simpa using hs⟩,?_⟩
  have e:=r.length
  simp only[i9]at e
  omega
theorem Inv.rF (I:Inv X pins σ H s)(h:dQ X.K H a xs)(h':dQ X.K H a ys):xs=ys:=by
 obtain⟨aD,r,⟨o,n,e,_,_,d⟩,_⟩:=I.list h
 obtain⟨lR,r',⟨o',n',e',_,_,d'⟩,_⟩:=I.list h'
 rw[e]at e';cases e'
 rw[d]at d'
 injection d' with d1 _
 have:aD=lR:=by simpa using congrArg yj d1
 subst this
 exact r.inj r'
theorem Inv.Gq (I:Inv X pins σ H s)(h:eS X.K H a xs):∃ o,s.heap.get? a=some o/\o.dict=none:=by
 rcases h with h|⟨o,aD,n,hk,hc,hd,hs,hz,r⟩
 ·obtain⟨z,aD,r,o,e,_,_,d⟩:=h.ok I.cG
  exact⟨o,e,d⟩
 ·exact⟨o,I.kG a o hk,hd⟩
theorem Inv.tQ (I:Inv X pins σ H s)(h:eS X.K H a xs)(h':eS X.K H a ys):xs=ys:=by
 obtain⟨aD,r,⟨o,e,_,n,d⟩,_⟩:=I.tuple h
 obtain⟨lR,r',⟨o',e',_,n',d'⟩,_⟩:=I.tuple h'
 rw[e]at e';cases e'
 rw[d]at d'
 injection d' with d1 _
 have:aD=lR:=by simpa using congrArg yj d1
 subst this
 exact r.inj r'
end
noncomputable abbrev Cx.tW (X:Cx)(E:Value->af->Prop):Cx:={ X with xe:=E }
noncomputable abbrev Cx.yB (X:Cx):Cx:=X.tW fun _ _=>False
theorem Cx.Ok.tW {X:Cx}(ok:X.Ok)(E:Value->af->Prop):(X.tW E).Ok :=
 ⟨ok.mod,ok.kind,ok.glob,ok.blt,ok.above,ok.inj,ok.has,ok.cab,ok.hd,ok.frames,ok.stk,ok.exf,ok.bs,ok.bsz,ok.noex,ok.exfs,ok.oI,ok.frf⟩
theorem Cx.Ok.oY {X:Cx}{E:Value->af->Prop}(ok:(X.tW E).Ok):X.Ok :=
 ⟨ok.mod,ok.kind,ok.glob,ok.blt,ok.above,ok.inj,ok.has,ok.cab,ok.hd,ok.frames,ok.stk,ok.exf,ok.bs,ok.bsz,ok.noex,ok.exfs,ok.oI,ok.frf⟩
section
variable {X:Cx}{pins:List (Addr×Obj)}{σ:St}{H:Hp}{s:af}{E:Value->af->Prop}
theorem Inv.tW (I:Inv X pins σ H s)(E:Value->af->Prop):Inv (X.tW E) pins σ H s:=⟨I.ok.tW E,I.os,I.bare,I.base,I.loc,I.cell,I.free,I.mD,I.pin,I.cG,I.len⟩
theorem Inv.oY (I:Inv (X.tW E) pins σ H s):Inv X pins σ H s:=⟨I.ok.oY,I.os,I.bare,I.base,I.loc,I.cell,I.free,I.mD,I.pin,I.cG,I.len⟩
theorem SP.oY {D:Ends}{f:Flow}{s':af}(h:SP (X.tW E) pins D f s'):SP X pins D f s':=by
 cases f with
 |next=>obtain⟨σ',H',I,q⟩:=h;exact⟨σ',H',I.oY,q⟩
 |brk=>obtain⟨σ',H',I,q⟩:=h;exact⟨σ',H',I.oY,q⟩
 |cont=>obtain⟨σ',H',I,q⟩:=h;exact⟨σ',H',I.oY,q⟩
 |ret u=>obtain⟨v,σ',H',I,r,q⟩:=h;exact⟨v,σ',H',I.oY,r,q⟩
theorem lI.yB {st:List Stmt}{t:TS}(h:lI X.yB st t):lI X st t:=fun pins s σ H D I hw =>
 j2 (h pins s σ H D (I.tW _) hw) (fun _ _ q=>q.oY) fun _ _ z=>i5 z
end
section
variable {X:Cx}{st:Stmt}{rest:List Stmt}{t u:TS}{e:Expr}{te:TE}{pos:Pos}
noncomputable def Gu:TS:=fun D σ H=>D.nx σ H
noncomputable def Mu (t u:TS):TS:=fun D σ H=>t { D with nx:=u D } σ H
theorem WL:lI X [] Gu:=fun _ _ σ H _ I h=>vc ⟨σ,H,I,h⟩
theorem U1 (h1:PS X st t)(h2:lI X rest u):lI X (st::rest) (Mu t u):=by
 intro pins s σ H D I h
 refine wpAny_execs_cons (bE (h1 pins s σ H { D with nx:=u D } I h) fun f s1 q=>?_)
 cases f with
 |next =>
 obtain⟨σ',H',I',q⟩:=q
 exact h2 pins s1 σ' H' D I' q
 |ret v=>exact q
 |brk=>exact q
 |cont=>exact q
theorem Inv.quiet {pins:List (Addr×Obj)}{σ:St}{H:Hp}{s:af}(I:Inv X pins σ H s):interactive X.env=false:=by simp [interactive,I.ok.kind]
noncomputable def Hc (te:TE):TS:=fun D σ H=>te σ H fun _ H1=>D.nx σ H1
theorem XZ (he:PE X e te)(hs:ku e none pos.line X.env=pure false:=by rfl):PS X (.Expr e pos) (Hc te):=by
 intro pins s σ H D I h
 exact wpAny_Expr_any (bE (he pins s σ H _ I h) fun v s1 ⟨x,H1,I1,r1,q1⟩=>⟨σ,H1,I1,q1⟩) I.quiet hs
noncomputable def Np (te:TE):TS:=fun D σ H=>te σ H D.rt
theorem Ep (he:PE X e te):PS X (.Return (some e) pos) (Np te):=by
 intro pins s σ H D I h
 exact wpAny_Return_some (bE (he pins s σ H _ I h) fun v s1 ⟨x,H1,I1,r1,q1⟩=>⟨x,σ,H1,I1,r1,q1⟩)
noncomputable def Jo:TS:=fun D _ H=>D.rt .non H
theorem XJ:PS X (.Return none pos) Jo:=fun _ _ σ H _ I h=>wpAny_Return_none ⟨.non,σ,H,I,rfl,h⟩
noncomputable def Nk (c:TT)(t u:TS):TS:=fun D σ H=>c σ H fun b H1=>if b=true then t D σ H1 else u D σ H1
theorem Gv {c:Expr}{a b:List Stmt}{tc:TT}(hc:PT X c tc)(ha:lI X a t)(hb:lI X b u):PS X (.If c a b pos) (Nk tc t u):=by
 intro pins s σ H D I h
 refine wpAny_If (bE (hc pins s σ H _ I h) fun d s1 ⟨H1,I1,q1⟩=>?_)
 cases d with
 |true=>exact ha pins s1 σ H1 D I1 q1
 |false=>exact hb pins s1 σ H1 D I1 q1
noncomputable def Ci:TS:=fun _ _ _=>False
theorem TU:PS X st Ci:=fun _ _ _ _ _ _ h=>h.elim
end
noncomputable abbrev TG:=V->St->Hp->(St->Hp->Prop)->Prop
noncomputable abbrev HI:=List V->St->Hp->(St->Hp->Prop)->Prop
noncomputable def PG (X:Cx)(target:Expr)(t:TG):Prop :=
 ∀(pins:List (Addr×Obj))(s:af)(σ:St)(H:Hp)(v:V)(u:Value)(Q:St->Hp->Prop),Inv X pins σ H s->RelV v u->t v σ H Q ->
 wpAny (model X.prog X.w) X.A (lj target X.env u) (fun _ s'=>∃ σ' H',Inv X pins σ' H' s'/\Q σ' H') X.xe s
noncomputable def CY (X:Cx)(ts:List Expr)(t:HI):Prop :=
 ∀(pins:List (Addr×Obj))(s:af)(σ:St)(H:Hp)(vs:List V)(us:List Value)(Q:St->Hp->Prop),Inv X pins σ H s->aQ vs us->t vs σ H Q ->
 wpAny (model X.prog X.w) X.A (assignInOrder ((ee ts X.env).map (·.2)) us) (fun _ s'=>∃ σ' H',Inv X pins σ' H' s'/\Q σ' H') X.xe s
noncomputable abbrev UA:=V->V->V->Hp->(Hp->Prop)->Prop
noncomputable def En (X:Cx)(t:UA):Prop :=
 ∀(pins:List (Addr×Obj))(s:af)(σ:St)(H:Hp)(o i v:V)(ov iv u:Value)(Q:Hp->Prop),Inv X pins σ H s->RelV o ov->RelV i iv->RelV v u->t o i v H Q ->
 wpAny (model X.prog X.w) X.A (Rp ov iv u) (fun _ s'=>∃ H',Inv X pins σ H' s'/\Q H') X.xe s
section
variable {X:Cx}{pos:Pos}
noncomputable def DQ (i:Nat):TG:=fun v σ H Q=>Q (σ.set i (some v)) H
theorem uI {i:Nat}{x:Str}(hN:X.N.Nodup)(hi:X.N[i]? = some x)(hx:Loc X.env.scope x)(hf:X.fn x=true∨X.env.scope.names.lookup x=some .local:=by first|exact .inl rfl|exact .inr rfl|assumption):PG X (.Name x pos) (DQ i):=by
 intro pins s σ H v u Q I r h
 exact yk (S5 I hN hi hx r (fun s' I'=>⟨_,H,I',h⟩) hf)
noncomputable def Oi:HI:=fun vs σ H Q=>vs=[]/\Q σ H
noncomputable def Hv (t:TG)(u:HI):HI:=fun vs σ H Q=>∃ v r,vs=v::r/\t v σ H fun σ' H'=>u r σ' H' Q
theorem YN:CY X [] Oi:=by
 intro pins s σ H vs us Q I r h
 obtain⟨e,h⟩:=h
 subst e
 cases r
 exact assignInOrder_nil ⟨σ,H,I,h⟩
theorem S7 {e:Expr}{es:List Expr}{t:TG}{u:HI}(h1:PG X e t)(h2:CY X es u)
 (hs:(ee (e::es) X.env).map (·.2)=lj e X.env::(ee es X.env).map (·.2):=by rfl):CY X (e::es) (Hv t u):=by
 intro pins s σ H vs us Q I r h
 obtain⟨v,vr,e1,h⟩:=h
 subst e1
 cases r with
 |cons r rr =>
 rw[hs]
 refine assignInOrder_cons (bE (h1 pins s σ H _ _ _ I r h) fun _ s1 ⟨σ1,H1,I1,q1⟩=>?_)
 exact h2 pins s1 σ1 H1 _ _ Q I1 rr q1
noncomputable def Co (K:ab)(n:Nat)(t:HI):TG:=fun v σ H Q=>∃ a xs,v=.ref a/\eS K H a xs/\xs.length=n/\t xs σ H Q
theorem QT {es:List Expr}{k:Nat}{t:HI}{n:Nat}(hc:X.calm=true)(h:CY X es t)
 (hn:(ee es X.env).length=n:=by rfl)(fF:(ee es X.env).findIdx? (·.1)=none:=by rfl):PG X (.Tuple es k pos) (Co X.K n t):=by
 intro pins s σ H v u Q I r hw
 obtain⟨a,xs,e1,hq,hl,hw⟩:=hw
 subst e1
 cases r
 obtain⟨aD,rv,ht,hz⟩:=I.tuple hq
 refine assign_Tuple_tuple (I.ok.hd hc) ht (by simp [hn,<-hl,rv.length]) fF fun h' hx=>?_
 have I1:Inv X pins σ H { s with heap:=h' }:=I.kept (t':=s.toks) fun b o e=>hx b o (cb (bo e)) e
 exact h pins _ σ H xs _ Q I1 (by simpa using rv) hw
noncomputable def Nm (to ti:TE)(t:UA):TG:=fun v σ H Q=>to σ H fun o H1=>ti σ H1 fun i H2=>t o i v H2 fun H3=>Q σ H3
theorem ZY {o i:Expr}{to ti:TE}{t:UA}(ho:PE X o to)(hi:PE X i ti)(hs:En X t)
 (ha:∀ v,lj (.Subscript o i pos) X.env v=(do
  let ov <-j4 [v] (eval o X.env)
  let iv <-j4 [v,ov] (eval i X.env)
  mr pos
  j4 [v,ov,iv] (Rp ov iv v)
  Sw [v,ov,iv] []):=by intro _;rfl):PG X (.Subscript o i pos) (Nm to ti t):=by
 intro pins s σ H v u Q I r h
 rw[ha]
 refine ae (gf (bE (ho pins s σ H _ I h) fun ov s1 ⟨x,H1,I1,r1,q1⟩=>?_))
 refine ae (gf (bE (hi pins s1 σ H1 _ I1 q1) fun iv s2 ⟨y,H2,I2,r2,q2⟩=>?_))
 refine ae (oe (ae (gf (bE (hs pins s2 σ H2 x y v ov iv u _ I2 r1 r2 r q2) fun _ s3 ⟨H3,I3,q3⟩=>?_))))
 exact wpAny_release ⟨σ,H3,I3,q3⟩
noncomputable def Ov (te:TE)(g:TG):TS:=fun D σ H=>te σ H fun x H1=>g x σ H1 D.nx
theorem Bu {tg e:Expr}{te:TE}{g:TG}(he:PE X e te)(hg:PG X tg g)(hs:og [tg] e pos.line X.env=pure false:=by rfl)(hw:oh [tg] e X.env=pure none:=by rfl)
 (h1:(ee [tg] X.env).map (·.2)=[lj tg X.env]:=by rfl):PS X (.Assign [tg] e pos) (Ov te g):=by
 intro pins s σ H D I h
 refine wpAny_Assign_stores (bE (he pins s σ H _ I h) fun v s1 ⟨x,H1,I1,r1,q1⟩=>?_) hs hw
 rw[h1]
 exact bE (hg pins s1 σ H1 x v _ I1 r1 q1) fun _ s2 q=>q
end
section
variable {X:Cx}{pos:Pos}
noncomputable def Ab (c:TT)(tb:TS):TS:=fun D σ H=>∃ W:Nat->St->Hp->Prop,(∃ m,W m σ H)/\∀ m σ H,W m σ H ->
 c σ H fun b H1=>if b=true then ∃ N:St->Hp->Prop,(∀ σ' H',N σ' H'->∃ m',m'<m/\W m' σ' H')/\tb { D with nx:=N,ct:=N,bk:=D.nx } σ H1 else D.nx σ H1
theorem SX {c:Expr}{body:List Stmt}{tc:TT}{tb:TS}(hp:qa (model X.prog X.w) X.A X.env X.xe)(hc:PT X c tc)(hb:lI X body tb):PS X (.While c body [] pos) (Ab tc tb):=by
 intro pins s σ H D I h
 obtain⟨W,⟨m0,w0⟩,turn⟩:=h
 refine wpAny_While (codeAny_whileLoop (fun n s'=>∃ σ' H',Inv X pins σ' H' s'/\W n σ' H') ?_ m0 ⟨σ,H,I,w0⟩)
 rintro n s1 ⟨σ1,H1,I1,w1⟩
 refine ju hp (bE (hc pins s1 σ1 H1 _ I1 (turn n σ1 H1 w1)) fun b s2 ⟨H2,I2,q2⟩=>?_)
 cases b with
 |true =>
  obtain⟨N,hN,q2⟩:=q2
  rw[if_pos rfl]
  refine ju hp (bE (hb pins s2 σ1 H2 _ I2 q2) fun f s3 q3=>?_)
  cases f with
  |next =>
   obtain⟨σ3,H3,I3,n3⟩:=q3
   obtain⟨m',hm,w3⟩:=hN σ3 H3 n3
   exact⟨m',hm,σ3,H3,I3,w3⟩
  |cont =>
   obtain⟨σ3,H3,I3,n3⟩:=q3
   obtain⟨m',hm,w3⟩:=hN σ3 H3 n3
   exact⟨m',hm,σ3,H3,I3,w3⟩
  |brk=>exact q3
  |ret v=>exact q3
 |false =>
  rw[if_neg dr]
  exact vc ⟨σ1,H2,I2,q2⟩
end
structure It where
 go:Nat->Hp->Prop
 yld:Nat->Hp->V->Hp->Prop
 stop:Nat->Hp->Prop
noncomputable def nD (X:Cx)(pins:List (Addr×Obj))(H:Hp)(b:Addr):Prop :=
 H b=none/\b≠X.env.locals/\b∉X.fs/\(b∈X.ex∨X.s₀.heap.objs.size<=b)/\(∀ x c,X.env.cells.lookup x=some c->c≠b)/\∀ p∈X.pn++pins,p.1≠b
theorem Inv.KQ {X:Cx}{pins:List (Addr×Obj)}{σ:St}{H H':Hp}{s:af}{b:Addr}(I:Inv X pins σ H s)(hb:s.heap.objs.size<=b)(hn:H' b=none):nD X pins H' b:=by
 refine⟨hn,pw (cp I.lt hb),I.Cc hb,.inr (bz I.sz hb),fun x c e z=>?_,fun p hp z=>?_⟩
 ·obtain⟨v,q⟩:=I.cell x c e
  exact absurd (cp q.lt (by rw[z];exact hb)) (jj _)
 ·exact absurd (cp (bo (I.pin p hp).1) (by rw[z];exact hb)) (jj _)
structure Turn (P:br)(w:World)(K:ab)(tg:Expr)(J:It)(fp:List Addr)(it:Addr)(tn:Nat->Heap->Prop):Prop where
 mem:it∈fp
 obj:∀ i h,tn i h->∀ b∈fp,∃ o,h.get? b=some o/\∀ v,o.data≠.cell v
 keep:∀ i h h',tn i h->(∀ b∈fp,∀ o,h.get? b=some o->h'.get? b=some o)->tn i h'
 item:∀(X:Cx),X.prog=P->X.w=w->X.K=K->X.calm=true->∀(i:Nat)(pins:List (Addr×Obj))(s:af)(σ:St)(H:Hp)(E:Value->af->Prop),Inv X pins σ H s->(∀ b∈fp,nD X pins H b)->tn i s.heap->J.go i H ->
 wpAny (model P w) X.A (ua (.ref it)) (fun r s1=>∃ u,r=some u /\
  wpAny (model P w) X.A (ou tg (.ref it) u) (fun _ s2=>∃ x H',Inv X pins σ H' s2/\RelV x u/\J.yld i H x H'/\tn (i+1) s2.heap/\∀ b∈fp,H' b=none) E s1) E s
 done:∀(X:Cx),X.prog=P->X.w=w->X.K=K->X.calm=true->∀(i:Nat)(pins:List (Addr×Obj))(s:af)(σ:St)(H:Hp)(E:Value->af->Prop),Inv X pins σ H s->(∀ b∈fp,nD X pins H b)->tn i s.heap->J.stop i H ->
 wpAny (model P w) X.A (ua (.ref it)) (fun r s1=>r=none/\Inv X pins σ H s1) E s
 self:∀(A:cg)(i:Nat)(s:af)(Q:Value->af->Prop)(E:Value->af->Prop),tn i s.heap->Q (.ref it) s->wpAny (model P w) A (ub (.ref it)) Q E s
noncomputable abbrev TI:=St->Hp->(It->Hp->Prop)->Prop
noncomputable def Q4 (X:Cx)(pins:List (Addr×Obj))(σ:St)(tg:Expr)(R:It->Hp->Prop)(itv:Value)(s2:af):Prop :=
 ∃(it:Addr)(fp:List Addr)(tn:Nat->Heap->Prop)(J:It)(H':Hp),itv=.ref it/\Inv X pins σ H' s2/\Turn X.prog X.w X.K tg J fp it tn/\tn 0 s2.heap/\(∀ b∈fp,nD X pins H' b)/\R J H'
noncomputable def PI (X:Cx)(tg iter:Expr)(wi:TI):Prop :=
 ∀(pins:List (Addr×Obj))(s:af)(σ:St)(H:Hp)(R:It->Hp->Prop),Inv X pins σ H s->wi σ H R ->
 wpAny (model X.prog X.w) X.A (eval iter X.env) (fun v s1=>wpAny (model X.prog X.w) X.A (ub v) (Q4 X pins σ tg R) X.xe s1) X.xe s
theorem C6 {M:Model}{A:cg}{E:Value->af->Prop}{s:af}{tg:Expr}{it:Addr}{u:Value}{o:Obj}{n:String}{vs:Array Value}{Q:Unit->af->Prop}(ho:s.heap.get? it=some o)(hc:o.cls=.type n)(hd:o.data=.fields vs)
    (hn:["enumerate","zip","dict_itemiterator","dict_reverseitemiterator","odict_iterator","itertools.zip_longest","itertools.pairwise"].contains n=false)(hQ:Q () s):wpAny M A (ou tg (.ref it) u) Q E s:=by
  unfold ou
  cases tg<;>first
    |exact ao hQ
    |(cases u<;>first
        |exact ao hQ
        | (refine ae (wpAny_load ho ?_)
           rw[hc,hd]
           show wpAny M A (if(["enumerate","zip","dict_itemiterator","dict_reverseitemiterator","odict_iterator","itertools.zip_longest","itertools.pairwise"].contains n&&vs[0]? == some (rl _))=true then _ else _) Q E s
           rw[if_neg (by intro h;rw[hn,fv]at h;cases h)]
           exact ao hQ))
noncomputable def VH (K:ab)(a:Addr):It :=
 ⟨fun i H=>∃ xs x,dQ K H a xs/\xs[i]? = some x,fun i H x H'=>H'=H/\∀ xs,dQ K H a xs->xs[i]? = some x,fun i H=>∃ xs,dQ K H a xs/\xs.length<=i⟩
noncomputable def Z0 (K:ab)(a:Addr):It :=
 ⟨fun i H=>∃ xs x,eS K H a xs/\xs[i]? = some x,fun i H x H'=>H'=H/\∀ xs,eS K H a xs->xs[i]? = some x,fun i H=>∃ xs,eS K H a xs/\xs.length<=i⟩
noncomputable def WC (lo:Int)(n:Nat):It:=⟨fun i _=>i<n,fun i H x H'=>H'=H/\x=.int (lo+i),fun i _=>n<=i⟩
theorem RC {P:br}{w:World}{K:ab}{tg:Expr}(a it:Addr):Turn P w K tg (VH K a) [it] it (fun i h=>h.IsListIter it a i) where
 mem:=by simp
 obj:=fun i h st b hb=>by
  have e:b=it:=by simpa using hb
  subst e
  obtain⟨o,e,c,d⟩:=st
  exact⟨o,e,fun v z=>by rw[d]at z;cases z⟩
 keep:=fun i h h' st k=>st.at fun o e=>k it (by simp) o e
 item:=by
  intro X hP hw hK hc i pins s σ H E I hf st hg
  subst hP hw hK
  obtain⟨xs,x,hq,hx⟩:=hg
  obtain⟨aD,rv,p,hz⟩:=I.list hq
  obtain⟨u,hu,ru⟩:=rv.get hx
  obtain⟨f0,f1,f2,f3,f4,f5⟩:=hf it (by simp)
  refine wpAny_pyNext_list_item st p.isList (x:=u) (by simpa using hu) fun h' aA sb=>?_
  have I1:Inv X pins σ H { s with heap:=h' }:=I.turned (t':=s.toks) (fun b o hb e=>(sb.2 b hb).trans e) f0 f1 f3 f4 f5
  obtain⟨o,e,c,d⟩:=id aA
  exact⟨u,rfl,C6 (s:={ s with heap:=h' }) e c d (by decide) ⟨x,H,I1,ru,⟨rfl,fun ys hy=>by rw[I.rF hy hq];exact hx⟩,aA,fun b hb=>(hf b hb).1⟩⟩
 done:=by
  intro X hP hw hK hc i pins s σ H E I hf st hg
  subst hP hw hK
  obtain⟨xs,hq,hx⟩:=hg
  obtain⟨aD,rv,p,hz⟩:=I.list hq
  obtain⟨f0,f1,f2,f3,f4,f5⟩:=hf it (by simp)
  have hl:=rv.length
  exact wpAny_pyNext_list_end (I.ok.hd hc) st p.isList (by simp;omega) fun h' eb=>⟨rfl,I.turned (t':=s.toks) (fun b o hb e=>eb b o hb e) f0 f1 f3 f4 f5⟩
 self:=fun _ _ _ _ _ st h=>wpAny_pyIter_listiter st h
theorem OD {P:br}{w:World}{K:ab}{tg:Expr}(a it:Addr):Turn P w K tg (Z0 K a) [it] it (fun i h=>h.IsTupleIter it a i) where
 mem:=by simp
 obj:=fun i h st b hb=>by
  have e:b=it:=by simpa using hb
  subst e
  obtain⟨o,e,c,d⟩:=st
  exact⟨o,e,fun v z=>by rw[d]at z;cases z⟩
 keep:=fun i h h' st k=>st.at fun o e=>k it (by simp) o e
 item:=by
  intro X hP hw hK hc i pins s σ H E I hf st hg
  subst hP hw hK
  obtain⟨xs,x,hq,hx⟩:=hg
  obtain⟨aD,rv,p,hz⟩:=I.tuple hq
  obtain⟨u,hu,ru⟩:=rv.get hx
  obtain⟨f0,f1,f2,f3,f4,f5⟩:=hf it (by simp)
  refine wpAny_pyNext_tuple_item st (show s.heap.IsTuple a aD.toArray from p) (x:=u) (by simpa using hu) fun h' aA sb=>?_
  have I1:Inv X pins σ H { s with heap:=h' }:=I.turned (t':=s.toks) (fun b o hb e=>(sb.2 b hb).trans e) f0 f1 f3 f4 f5
  obtain⟨o,e,c,d⟩:=id aA
  exact⟨u,rfl,C6 (s:={ s with heap:=h' }) e c d (by decide) ⟨x,H,I1,ru,⟨rfl,fun ys hy=>by rw[I.tQ hy hq];exact hx⟩,aA,fun b hb=>(hf b hb).1⟩⟩
 done:=by
  intro X hP hw hK hc i pins s σ H E I hf st hg
  subst hP hw hK
  obtain⟨xs,hq,hx⟩:=hg
  obtain⟨aD,rv,p,hz⟩:=I.tuple hq
  obtain⟨f0,f1,f2,f3,f4,f5⟩:=hf it (by simp)
  have hl:=rv.length
  exact wpAny_pyNext_tuple_end (I.ok.hd hc) st (show s.heap.IsTuple a aD.toArray from p) (by simp;omega) fun h' eb=>⟨rfl,I.turned (t':=s.toks) (fun b o hb e=>eb b o hb e) f0 f1 f3 f4 f5⟩
 self:=fun _ _ _ _ _ st h=>wpAny_pyIter_tupleiter st h
theorem OI {P:br}{w:World}{K:ab}{tg:Expr}(it:Addr)(lo:Int)(n:Nat):Turn P w K tg (WC lo n) [it] it (fun i h=>wa h it (lo+(i:Nat)*1) ((n:Int)-(i:Nat)) 1) where
 mem:=by simp
 obj:=fun i h st b hb=>by
  have e:b=it:=by simpa using hb
  subst e
  exact⟨_,st,fun v z=>by
   have z':Ry _=Data.cell v:=z
   cases z'⟩
 keep:=fun i h h' st k=>k it (by simp) _ st
 item:=by
  intro X hP hw hK hc i pins s σ H E I hf st hg
  subst hP hw hK
  obtain⟨f0,f1,f2,f3,f4,f5⟩:=hf it (by simp)
  have W:=Rz (prog:=X.prog) (w:=X.w) (I.ok.hd hc) it lo 1 n
  refine W.item i s _ _ hg st fun v h' tk hv aA kk=>?_
  obtain⟨t,rfl⟩:=hv
  have I1:Inv X pins σ H { s with heap:=h',toks:=tk }:=I.turned (fun b o hb e=>kk b o (by simpa using hb) e) f0 f1 f3 f4 f5
  refine⟨_,rfl,C6 (s:={ s with heap:=h',toks:=tk }) (n :="range_iterator") aA rfl rfl (by decide) ⟨.int (lo+i),H,I1,⟨t,?_⟩,⟨rfl,rfl⟩,aA,fun b hb=>(hf b hb).1⟩⟩
  rw[Int.mul_one]
 done:=by
  intro X hP hw hK hc i pins s σ H E I hf st hg
  subst hP hw hK
  obtain⟨f0,f1,f2,f3,f4,f5⟩:=hf it (by simp)
  exact uc (I.ok.hd hc) st (by have:n<=i:=hg;omega) fun h' eb=>⟨rfl,I.turned (t':=s.toks) (fun b o hb e=>eb b o hb e) f0 f1 f3 f4 f5⟩
 self:=fun _ _ _ _ _ st h=>ue st h
end L2
namespace L2
open PySem PySem.Spec PyProof.Rows
section
variable {X:Cx}{tg:Expr}
theorem S9 {pins:List (Addr×Obj)}{σ:St}{H:Hp}{s:af}{R:It->Hp->Prop}{E:Value->af->Prop}{lo hi:Int}{t u v:Tok}{tk:Nat}(I:Inv X pins σ H s) (h1 : -(2 ^ 62)<=lo)(h2:lo<2 ^ 62) (h3 : -(2 ^ 62)<=hi)(h4:hi<2 ^ 62)
  (q:R (WC lo (hi-lo).toNat) H):wpAny (model X.prog X.w) X.A (ub (.ref s.heap.objs.size)) (Q4 X pins σ tg R) E { s with heap:=s.heap.push { cls:=.type "range", data:=.fields #[.int lo t,.int hi u,.int 1 v] },toks:=tk }:=by
 refine xy (Sa ..) (small_one h1 h2 h3 h4) ?_
 have I1:Inv X pins σ H { s with heap:=s.heap.push { cls:=.type "range", data:=.fields #[.int lo t,.int hi u,.int 1 v] },toks:=tk }:=I.kept fun b o e=>ak _ e
 refine⟨(s.heap.push { cls:=.type "range", data:=.fields #[.int lo t,.int hi u,.int 1 v] }).objs.size,[(s.heap.push { cls:=.type "range", data:=.fields #[.int lo t,.int hi u,.int 1 v] }).objs.size],_,_,H,rfl,
  I1.kept (t':=tk) fun b o e=>ak _ e,OI _ lo (hi-lo).toNat,?_,fun b hb=>?_,q⟩
 ·have e1:lo+((0:Nat):Int)*1=lo:=by simp
  have e2:(((hi-lo).toNat:Nat):Int)-((0:Nat):Int)=si lo hi 1:=by rw[rangeSize_one];split<;>omega
  show wa _ _ (lo+((0:Nat):Int)*1) ((((hi-lo).toNat:Nat):Int)-((0:Nat):Int)) 1
  rw[e1,e2]
  exact bg _ rfl
 ·have e:b=(s.heap.push { cls:=.type "range", data:=.fields #[.int lo t,.int hi u,.int 1 v] }).objs.size:=by simpa using hb
  subst e
  exact I1.KQ (bb _) (I1.cG.fresh (bb _))
noncomputable def Jk (ta:TA):TI:=fun σ H R=>ta σ H fun vs H1=>∃ j:Int,vs=[.int j]/\-(2 ^ 62)<=j/\j<2 ^ 62/\R (WC 0 j.toNat) H1
theorem RP {a:Expr}{ta:TA}{p pos:Pos}(hg:Gl X "range")(hm:X.mg "range" = none)(ha:PA X [a] ta)(hs:ar [a] X.env=[(false,eval a X.env)]:=by rfl):PI X tg (.Call (.Name "range" p) [a] [] pos) (Jk ta):=by
 intro pins s σ H R I h
 refine Call_ (nU I hg hm boot_range (ey (bE (ha pos pins s σ H _ I h) fun us s1 ⟨vs,H1,I1,r1,q1⟩=>?_) hs rfl))
 obtain⟨j,e,q1,q2,q⟩:=q1
 subst e
 cases r1 with
 |cons r rr =>
 cases rr
 obtain⟨t,rfl⟩:=r
 exact call_range_1 (S9 I1 (by omega) (by omega) q1 q2 (by simpa using q))
noncomputable def Nq (wi:TI)(g:TG)(tb:TS):TS:=fun D σ H=>wi σ H fun J H1=>∃ W:Nat->Nat->St->Hp->Prop,(∃ m,W 0 m σ H1)/\∀ i m σ H,W i m σ H ->
 (J.stop i H/\D.nx σ H)∨(J.go i H/\∃ N:St->Hp->Prop,(∀ σ' H',N σ' H'->∃ m',m'<m/\W (i+1) m' σ' H')/\∀ x H',J.yld i H x H'->g x σ H' fun σ2 H2=>tb { D with nx:=N,ct:=N,bk:=D.nx } σ2 H2)
noncomputable def yW (fp:List Addr)(h:Heap):List (Addr×Obj):=fp.filterMap fun b=>(h.get? b).map fun o=>(b,o)
theorem wB {fp:List Addr}{h:Heap}{b:Addr}{o:Obj}(hb:b∈fp)(e:h.get? b=some o):(b,o)∈yW fp h:=List.mem_filterMap.mpr ⟨b,hb,by rw[e];rfl⟩
theorem QY {fp:List Addr}{h:Heap}{p:Addr×Obj}(hp:p∈yW fp h):p.1∈fp/\h.get? p.1=some p.2:=by
 obtain⟨b,hb,e⟩:=List.mem_filterMap.mp hp
 cases q:h.get? b with
 |none=>rw[q]at e;cases e
 |some o =>
 rw[q]at e
 have e':(b,o)=p:=dy e
 subst e'
 exact⟨hb,q⟩
theorem Inv.pinned {pins:List (Addr×Obj)}{σ:St}{H:Hp}{s:af}{fp:List Addr}(I:Inv X pins σ H s)(hf:∀ b∈fp,nD X pins H b)(ho:∀ b∈fp,∃ o,s.heap.get? b=some o/\∀ v,o.data≠.cell v):Inv X (pins++yW fp s.heap) σ H s :=
 I.MN fun p hp=>(List.mem_append.mp hp).elim (fun z=>I.pin p (ek _ z)) fun z=>by
 obtain⟨hb,e⟩:=QY z
 obtain⟨f0,f1,f2,_⟩:=hf p.1 hb
 obtain⟨o,e',d⟩:=ho p.1 hb
 rw[e]at e';cases e'
 exact⟨e,f0,f1,f2,d⟩
theorem Inv.xG {pins pl:List (Addr×Obj)}{σ:St}{H:Hp}{s:af}(I:Inv X (pins++pl) σ H s):Inv X pins σ H s:=I.MN fun p hp=>I.pin p (ek _ (oj _ hp))
theorem Z8 {iter:Expr}{body:List Stmt}{wi:TI}{g:TG}{tb:TS}{pos:Pos}(hp:qa (model X.prog X.w) X.A X.env X.xe)(hc:X.calm=true)(hi:PI X tg iter wi)(hg:PG X tg g)(hb:lI X body tb)
  (hs:∀ x,gg iter X.env x=pure x:=by intro _;rfl):PS X (.For tg iter body [] pos) (Nq wi g tb):=by
 intro pins s σ H D I h
 refine wpAny_For (bE (hi pins s σ H _ I h) fun v s1 h1=>bE h1 fun itv s2 h2=>?_) hs
 obtain⟨it,fp,tn,J,H2,e,I2,T,aG,f2,W,⟨m0,w0⟩,turn⟩:=h2
 subst e
 have stat:∀{H':Hp},(∀ b∈fp,H' b=none)->∀ b∈fp,nD X pins H' b:=fun hn b hb=>⟨hn b hb,(f2 b hb).2⟩
 refine codeAny_forLoop_any (fun n s'=>∃ i σ' H',Inv X pins σ' H' s'/\tn i s'.heap/\(∀ b∈fp,H' b=none)/\W i n σ' H') ?_ m0 ⟨0,σ,H2,I2,aG,fun b hb=>(f2 b hb).1,w0⟩
 rintro n s3 ⟨i,σ3,H3,I3,aV,fr3,w3⟩
 rcases turn i n σ3 H3 w3 with⟨stop,qn⟩|⟨go,N,hN,step⟩
 ·refine ju hp (bE (T.done X rfl rfl rfl hc i pins s3 σ3 H3 X.xe I3 (stat fr3) aV stop) fun r s4 ⟨hr,I4⟩=>?_)
  subst hr
  exact vc ⟨σ3,H3,I4,qn⟩
 ·refine ju hp (bE (T.item X rfl rfl rfl hc i pins s3 σ3 H3 X.xe I3 (stat fr3) aV go) fun r s4 ⟨u,hr,h4⟩=>?_)
  subst hr
  refine ju hp (bE h4 fun _ s5 ⟨x,H5,I5,r5,y5,cQ,fr5⟩=>?_)
  have I5':=I5.pinned (stat fr5) (T.obj _ _ cQ)
  refine ju hp (bE (hg _ s5 σ3 H5 x u _ I5' r5 (step x H5 y5)) fun _ s6 ⟨σ6,H6,I6,q6⟩=>?_)
  refine ju hp (bE (hb _ s6 σ6 H6 _ I6 q6) fun f s7 q7=>?_)
  have again:∀{σ7:St}{H7:Hp},Inv X (pins++yW fp s5.heap) σ7 H7 s7->N σ7 H7->∃ m,m<n/\∃ i σ' H',Inv X pins σ' H' s7/\tn i s7.heap/\(∀ b∈fp,H' b=none)/\W i m σ' H':=fun{σ7 H7} I7 n7=>by
   obtain⟨m',hm,w7⟩:=hN σ7 H7 n7
   refine⟨m',hm,i+1,σ7,H7,I7.xG,T.keep _ _ _ cQ fun b hb o e=>(I7.pin (b,o) (ek _ (ek _ (wB hb e)))).1,fun b hb=>?_,w7⟩
   obtain⟨o,e,d⟩:=T.obj _ _ cQ b hb
   exact(I7.pin (b,o) (ek _ (ek _ (wB hb e)))).2.1
  cases f with
  |next=>obtain⟨σ7,H7,I7,n7⟩:=q7;exact again I7 n7
  |cont=>obtain⟨σ7,H7,I7,n7⟩:=q7;exact again I7 n7
  |brk=>obtain⟨σ7,H7,I7,q7⟩:=q7;exact⟨σ7,H7,I7.xG,q7⟩
  |ret v=>obtain⟨x7,σ7,H7,I7,r7,q7⟩:=q7;exact⟨x7,σ7,H7,I7.xG,r7,q7⟩
end
end L2
namespace L2
open PySem PySem.Spec PyProof.Rows
noncomputable abbrev R2:=V->V->Hp->VK->Prop
noncomputable def iJ (X:Cx)(f:Value->Value->Sem Value)(r:R2):Prop :=
 ∀(pins:List (Addr×Obj))(s:af)(σ:St)(H:Hp)(x y:V)(v u:Value)(Q:VK),Inv X pins σ H s->RelV x v->RelV y u->r x y H Q ->
 wpAny (model X.prog X.w) X.A (f v u) (EP X pins σ Q) X.xe s
noncomputable def Fq (X:Cx)(f:Value->Sem Value)(r:V->Hp->VK->Prop):Prop :=
 ∀(pins:List (Addr×Obj))(s:af)(σ:St)(H:Hp)(x:V)(v:Value)(Q:VK),Inv X pins σ H s->RelV x v->r x H Q ->
 wpAny (model X.prog X.w) X.A (f v) (EP X pins σ Q) X.xe s
noncomputable def wH (X:Cx)(f:Value)(r:List V->Hp->VK->Prop):Prop :=
 ∀(pins:List (Addr×Obj))(s:af)(σ:St)(H:Hp)(xs:List V)(us:List Value)(Q:VK),Inv X pins σ H s->aQ xs us->r xs H Q ->
 wpAny (model X.prog X.w) X.A (call f us) (EP X pins σ Q) X.xe s
noncomputable def Mg (X:Cx)(r:V->Hp->(Bool->Hp->Prop)->Prop):Prop :=
 ∀(pins:List (Addr×Obj))(s:af)(σ:St)(H:Hp)(x:V)(v:Value)(Q:Bool->Hp->Prop),Inv X pins σ H s->RelV x v->r x H Q ->
 wpAny (model X.prog X.w) X.A (Sq v) (TP X pins σ Q) X.xe s
noncomputable def Ay (r:R2)(ta tb:TE):TE:=fun σ H Q=>ta σ H fun x H1=>tb σ H1 fun y H2=>r x y H2 Q
noncomputable def Po (r:V->Hp->VK->Prop)(ta:TE):TE:=fun σ H Q=>ta σ H fun x H1=>r x H1 Q
noncomputable def rI (C:Int->Int->Prop)(g:Int->Int->V):R2:=fun x y H Q=>∃ i j,x=.int i/\y=.int j/\C i j/\Q (g i j) H
noncomputable def JV (g:Int->Int->V):R2:=fun x y H Q=>∃ i j,x=.int i/\y=.int j/\Q (g i j) H
noncomputable def rU (g:Int->V):V->Hp->VK->Prop:=fun x H Q=>∃ i,x=.int i/\Q (g i) H
section
variable {X:Cx}{a b c:Expr}{ta tb tc:TE}{pos:Pos}
theorem Ck (ha:PE X a ta)(hb:PE X b tb){pins:List (Addr×Obj)}{s:af}{σ:St}{H:Hp}{R:V->V->Hp->Prop}(I:Inv X pins σ H s)
 (h:ta σ H fun x H1=>tb σ H1 fun y H2=>R x y H2){Q:Value->af->Prop}{f:Value->Value->Sem Value}
 (hf:∀ v u s2 x y H2,Inv X pins σ H2 s2->RelV x v->RelV y u->R x y H2->wpAny (model X.prog X.w) X.A (f v u) Q X.xe s2):
 wpAny (model X.prog X.w) X.A (eval a X.env) (fun v s₁=>wpAny (model X.prog X.w) X.A (eval b X.env) (fun u s₂=>wpAny (model X.prog X.w) X.A (f v u) Q X.xe s₂) X.xe s₁) X.xe s:=by
 refine bE (ha pins s σ H _ I h) fun v s1 ⟨x,H1,I1,r1,q1⟩=>?_
 refine bE (hb pins s1 σ H1 _ I1 q1) fun u s2 ⟨y,H2,I2,r2,q2⟩=>?_
 exact hf v u s2 x y H2 I2 r1 r2 q2
theorem Jp {op:Operator}{r:R2}(ho:iJ X (g7 op) r)(ha:PE X a ta)(hb:PE X b tb):PE X (.BinOp a op b pos) (Ay r ta tb):=by
 intro pins s σ H Q I h
 exact wpAny_BinOp (Ck ha hb I h fun v u s2 x y H2 I2 rx ry q=>ho pins s2 σ H2 x y v u Q I2 rx ry q)
theorem Hq {op:UnaryOp}{r:V->Hp->VK->Prop}(ho:Fq X (unaryOp op) r)(ha:PE X a ta):PE X (.UnaryOp op a pos) (Po r ta):=by
 intro pins s σ H Q I h
 exact UnaryOp_ (bE (ha pins s σ H _ I h) fun v s1 ⟨x,H1,I1,r1,q1⟩=>ho pins s1 σ H1 x v Q I1 r1 q1)
theorem VY {f:Value->Value->Sem Value}{C:Int->Int->Prop}{g:Int->Int->Int}
 (rule:∀(i j:Int)(t u:Tok)(s:af)(Q:Value->af->Prop)(E:Value->af->Prop),C i j->Q (.int (g i j) s.toks) { s with toks:=s.toks+1 }->wpAny (model X.prog X.w) X.A (f (.int i t) (.int j u)) Q E s):
 iJ X f (rI C fun i j=>.int (g i j)):=by
 intro pins s σ H x y v u Q I rx ry h
 obtain⟨i,j,rfl,rfl,hc,q⟩:=h
 obtain⟨t,rfl⟩:=rx
 obtain⟨t',rfl⟩:=ry
 exact rule i j t t' s _ _ hc ⟨.int (g i j),H,I.tok _,⟨_,rfl⟩,q⟩
theorem Ff {f:Value->Value->Sem Value}{g:Int->Int->Int}
 (rule:∀(i j:Int)(t u:Tok)(s:af)(Q:Value->af->Prop)(E:Value->af->Prop),Q (.int (g i j) s.toks) { s with toks:=s.toks+1 }->wpAny (model X.prog X.w) X.A (f (.int i t) (.int j u)) Q E s):
 iJ X f (JV fun i j=>.int (g i j)):=by
 intro pins s σ H x y v u Q I rx ry h
 obtain⟨i,j,rfl,rfl,q⟩:=h
 obtain⟨t,rfl⟩:=rx
 obtain⟨t',rfl⟩:=ry
 exact rule i j t t' s _ _ ⟨.int (g i j),H,I.tok _,⟨_,rfl⟩,q⟩
noncomputable def Ea (i j:Int):Prop:=0<j/\j<1073741824
noncomputable def ZZ (i j:Int):Prop:=0<=j/\j<=1000000/\i.natAbs<2 ^ 64
noncomputable def O3 (i j:Int):Prop:=(-(2 ^ 64)<i/\i<2 ^ 64)∨(-(2 ^ 64)<j/\j<2 ^ 64)
theorem O3.ok {i j:Int}(h:O3 i j):IntMulOk i j:=by
 rcases h with⟨h1,h2⟩|⟨h1,h2⟩
 ·exact .of_left (Ra h1 h2)
 ·exact .of_right (Ra h1 h2)
theorem Ag:iJ X (g7 .Add) (JV fun i j=>.int (i+j)):=Ff fun _ _ _ _ _ _ _ q=>add_int q
theorem Ad:iJ X (g7 .Sub) (JV fun i j=>.int (i-j)):=Ff fun _ _ _ _ _ _ _ q=>sub_int q
theorem Ar:iJ X (g7 .Mult) (rI O3 fun i j=>.int (i*j)):=VY fun _ _ _ _ _ _ _ hc q=>mul_int q hc.ok
theorem YW:iJ X (g7 .FloorDiv) (rI Ea fun i j=>.int (i / j)):=VY fun i j _ _ _ _ _ hc q=>by
 have h1:(0:Int)<j:=hc.1
 have h2:j<1073741824:=hc.2
 exact floordiv_int (by omega) (by rw[Int.fdiv_eq_ediv_of_nonneg i (by omega)];exact q) (.inl (PyProof.noPylong_small (by omega)))
theorem Bz:iJ X (g7 .Mod) (rI (fun _ j=>0<j) fun i j=>.int (i % j)):=VY fun i j _ _ _ _ _ hc q=>by
 have h1:(0:Int)<j:=hc
 exact mod_int' (by omega) (by rw[Int.fmod_eq_emod_of_nonneg i (by omega)];exact q)
theorem De:iJ X (g7 .Pow) (rI ZZ fun i j=>.int (i ^ j.toNat)):=VY fun _ _ _ _ _ _ _ hc q=>pow_int_small hc.1 hc.2.1 hc.2.2 q
theorem Ph {f:Value->Sem Value}{g:Int->Int}
 (rule:∀(i:Int)(t:Tok)(s:af)(Q:Value->af->Prop)(E:Value->af->Prop),Q (.int (g i) s.toks) { s with toks:=s.toks+1 }->wpAny (model X.prog X.w) X.A (f (.int i t)) Q E s):
 Fq X f (rU fun i=>.int (g i)):=by
 intro pins s σ H x v Q I rx h
 obtain⟨i,rfl,q⟩:=h
 obtain⟨t,rfl⟩:=rx
 exact rule i t s _ _ ⟨.int (g i),H,I.tok _,⟨_,rfl⟩,q⟩
theorem Ey:Fq X (unaryOp .USub) (rU fun i=>.int (-i)):=Ph fun _ _ _ _ _ q=>neg_int q
end
section
variable {X:Cx}{a b c:Expr}{ta tb tc:TE}{pos:Pos}
theorem Er {pins:List (Addr×Obj)}{σ:St}{H:Hp}{s:af}{Q:VK}{k k':Bool}(I:Inv X pins σ H s)(q:Q (.bl k) H)(e:k=k'):EP X pins σ Q (.bool k') s:=by
 subst e
 exact⟨.bl k,H,I,rfl,q⟩
theorem QI:iJ X (sj .In) (fun x y H Q=>∃ i j,x=.str i/\y=.str j/\Q (.bl (!(me j i 0 j.length 1).isEmpty)) H):=by
 intro pins s σ H x y v u Q I rx ry h
 obtain⟨i,j,rfl,rfl,q⟩:=h
 obtain⟨t,rfl⟩:=rx
 obtain⟨t',rfl⟩:=ry
 exact in_str (Er I q rfl)
theorem iJ.or {f:Value->Value->Sem Value}{r r':R2}(h:iJ X f r)(h':iJ X f r'):iJ X f (fun x y H Q=>r x y H Q∨r' x y H Q):=by
 intro pins s σ H x y v u Q I rx ry q
 rcases q with q|q
 ·exact h pins s σ H x y v u Q I rx ry q
 ·exact h' pins s σ H x y v u Q I rx ry q
noncomputable def UO (K:ab)(x:V)(H:Hp)(k:Bool):Prop :=
 match x with
 |.non=>k=false
 |.bl b=>k=b
 |.int i=>k=(i != 0)
 |.str y=>y.length<=sizeLine/\k=((y.length:Int) != 0)
 |.byt y=>y.size<=sizeLine/\k=((y.size:Int) != 0)
 |.ref p=>(∃ xs,dQ K H p xs/\k = !xs.isEmpty)∨(∃ xs,eS K H p xs/\k = !xs.isEmpty)∨∃ iK,H p=some (.dK iK)/\k = !iK.isEmpty
 |_=>False
theorem OZ {κ:Type}{iK:List (κ×V)}{vs:List (κ×Value)}(r:KV iK vs):(!vs.isEmpty) = !iK.isEmpty:=by
 cases r<;>rfl
theorem C9 {xs:List V}{aD:List Value}(r:aQ xs aD):(!aD.toArray.isEmpty) = !xs.isEmpty:=by
 cases r<;>simp
theorem rM:(sizeLine:Nat)<2 ^ 63:=by rw[jx];decide
theorem EC:Mg X (fun x H Q=>∃ k,UO X.K x H k/\Q k H):=by
 intro pins s σ H x v Q I rx h
 obtain⟨k,e,q⟩:=h
 have hl:=rM
 have hs:sizeLine=16777216:=jx
 cases x with
 |non =>
 cases rx
 have e':k=false:=e
 subst e'
 exact truthy_none ⟨H,I,q⟩
 |bl b =>
 cases rx
 have e':k=b:=e
 subst e'
 exact kj ⟨H,I,q⟩
 |int i =>
 obtain⟨t,rfl⟩:=rx
 have e':k=(i != 0):=e
 subst e'
 exact PySem.P.truthy_int ⟨H,I,q⟩
 |str y =>
 obtain⟨t,rfl⟩:=rx
 obtain⟨hy,e'⟩:y.length<=sizeLine/\k=((y.length:Int) != 0):=e
 subst e'
 exact PySem.P.truthy_str (by omega) ⟨H,I.tok _,q⟩
 |byt y =>
 obtain⟨t,rfl⟩:=rx
 obtain⟨hy,e'⟩:y.size<=sizeLine/\k=((y.size:Int) != 0):=e
 subst e'
 exact PySem.W.truthy_bytes (by omega) ⟨H,I.tok _,q⟩
 |ref p =>
 cases rx
 have e':(∃ xs,dQ X.K H p xs/\k = !xs.isEmpty)∨(∃ xs,eS X.K H p xs/\k = !xs.isEmpty)∨∃ iK,H p=some (.dK iK)/\k = !iK.isEmpty:=e
 rcases e' with⟨xs,hx,e'⟩|⟨xs,hx,e'⟩|⟨iK,hx,e'⟩
 ·subst e'
  obtain⟨aD,r,pl,hz⟩:=I.list hx
  have hlen:=r.length
  exact wpAny_truthy_list pl.isList (by simp only[aw];omega) ⟨H,I.tok _,by rw[C9 r];exact q⟩
 ·subst e'
  obtain⟨aD,r,pl,hz⟩:=I.tuple hx
  have hlen:=r.length
  exact truthy_tuple pl (by simp only[aw];omega) ⟨H,I.tok _,by rw[C9 r];exact q⟩
 ·subst e'
  obtain⟨hz,hS,vs,r,m⟩:iK.length<=sizeLine/\(p==nv)=false/\∃ vs,KV iK vs/\s.heap.DictOf (EI X.prog X.w) p vs:=I.cG p _ hx
  have hlen:iK.length=vs.length:=Qz r
  exact wpAny_truthy_dict hS m (by omega) ⟨H,I.tok _,by rw[OZ r];exact q⟩
 |_=>exact(show False from e).elim
theorem UW (ha:PE X a ta)(he:∀ whole,ze a X.env whole=(do let v <-whole;mr a.pos;j4 [v] (Sq v))):
 PT X a (fun σ H Q=>ta σ H fun x H'=>∃ k,UO X.K x H' k/\Q k H'):=by
 intro pins s σ H Q I h
 exact isTrue_plain (bE (ha pins s σ H _ I h) fun v s1 ⟨x,H1,I1,r1,q1⟩=>EC pins s1 σ H1 x v Q I1 r1 q1) (he _)
theorem OF:iJ X (g7 .Add) (fun x y H Q=>∃ i j,x=.str i/\y=.str j/\i.length+j.length<=sizeLine/\Q (.str (i++j)) H):=by
 intro pins s σ H x y v u Q I rx ry h
 obtain⟨i,j,rfl,rfl,hz,q⟩:=h
 obtain⟨t,rfl⟩:=rx
 obtain⟨t',rfl⟩:=ry
 exact add_str (fun t' tk=>⟨.str (i++j),H,I.tok _,⟨_,rfl⟩,q⟩) hz
theorem vals1 {x:V}{us:List Value}(r:aQ [x] us):∃ u,us=[u]/\RelV x u:=by
 cases r with
 |cons r1 r2=>cases r2;exact⟨_,rfl,r1⟩
noncomputable def Bv (K:ab)(x:V)(H:Hp)(n:Nat):Prop :=
 match x with
 |.str y=>y.length<=sizeLine/\n=y.length
 |.byt y=>y.size<=sizeLine/\n=y.size
 |.ref p=>(∃ xs,dQ K H p xs/\n=xs.length)∨∃ xs,eS K H p xs/\n=xs.length
 |_=>False
theorem TL:wH X (.builtin "len") (fun xs H Q=>∃ x n,xs=[x]/\Bv X.K x H n/\Q (.int n) H):=by
 intro pins s σ H xs us Q I r h
 obtain⟨x,n,rfl,e,q⟩:=h
 obtain⟨u,rfl,rx⟩:=vals1 r
 have hl:=rM
 have hs:sizeLine=16777216:=jx
 cases x with
 |str y =>
 obtain⟨t,rfl⟩:=rx
 obtain⟨hy,e'⟩:y.length<=sizeLine/\n=y.length:=e
 subst e'
 exact len_str (by omega) ⟨.int _,H,I.tok _,⟨_,rfl⟩,q⟩
 |byt y =>
 obtain⟨t,rfl⟩:=rx
 obtain⟨hy,e'⟩:y.size<=sizeLine/\n=y.size:=e
 subst e'
 exact PySem.W.len_bytes (by omega) ⟨.int _,H,I.tok _,⟨_,rfl⟩,q⟩
 |ref p =>
 cases rx
 have e':(∃ xs,dQ X.K H p xs/\n=xs.length)∨∃ xs,eS X.K H p xs/\n=xs.length:=e
 rcases e' with⟨xs,hx,e'⟩|⟨xs,hx,e'⟩
 ·subst e'
  obtain⟨aD,r',pl,hz⟩:=I.list hx
  have hlen:=r'.length
  exact Calls.call_len_list pl.isList (by simp only[aw];omega) ⟨.int xs.length,H,I.tok _,⟨_,by simp only[aw];rw[hlen]⟩,q⟩
 ·subst e'
  obtain⟨aD,r',pl,hz⟩:=I.tuple hx
  have hlen:=r'.length
  exact Rk pl (by simp only[aw];omega) ⟨.int xs.length,H,I.tok _,⟨_,by simp only[aw];rw[hlen]⟩,q⟩
 |_=>exact(show False from e).elim
end
end L2
namespace L2
open PySem PySem.Spec PyProof.Rows
structure CT (h:Heap)(x dx C:Addr)(mA:Str->Option Value):Prop where
 obj:h.get? x=some (iu C dx)
 ns:h.Ns1 dx mA
 ne:dx≠x
set_option tactic.hygienic true in
theorem PD {h:Heap}{dx:Addr}{mA:Str->Option Value}(n:h.Ns1 dx mA):∃ od,h.get? dx=some od/\∀ name,qf name od=some (mA name):=by
 obtain⟨o,es,ep,ho,hd,hk,_,hm⟩:=n
 refine⟨o,ho,fun name=>?_⟩
 have e:=hm name
 unfold nsFind findBy at e
 rw[<-Array.find?_toList]at e
 unfold qf
 rw[hd]
 dsimp only
 split
 ·rename_i y q
  rw[q]at e
  exact congrArg some e
 ·rename_i q
  rw[q]at e
  have a:es.toList.any (·.refKey)=false:=by
   rw[rf]
   intro y hy
   obtain⟨z,t,hkey⟩:=hk y (Array.mem_toList_iff.mp hy)
   simp [DictEntry.refKey,hkey]
  have a':¬es.toList.any (·.refKey)=true:=by rw[a];exact dr
  rw[if_neg a']
  exact congrArg some e
theorem CT.look {h:Heap}{x dx C:Addr}{mA:Str->Option Value}(I:CT h x dx C mA):∃ od,PySem.W.InstAt h x (iu C dx) C (some od)/\∀ name,qf name od=some (mA name) :=
 let⟨od,ho,hl⟩:=PD I.ns
 ⟨od,⟨I.obj,rfl,rfl,ho⟩,hl⟩
section
variable {prog:br}{w:World}{A:cg}{E:Value->af->Prop}{s:af}{K:ab}{x dx C f:Addr}{mA:Str->Option Value}{name:Str}{v:Value}
theorem get_map {expr:Bool}{Q:Value->af->Prop}(X:K.In s.heap)(I:CT s.heap x dx C mA)(hg:j5 K C name=true)(hh:kl K C=true)
 (ha:dz K (.ref C) name=some none)(hv:mA name=some v)(hv':zf v=true)(h:Q v { s with toks:=s.toks+1 }):
 wpAny (model prog w) A (Sz (.ref x) name expr) Q E s:=by
 obtain⟨od,J,hl⟩:=I.look
 exact PySem.W.get_value X J (ph hg).1 (PySem.W.findObj_own hh ha rfl (by rw[hl,hv])) hv' h
theorem S4 {pl:Sem Bool}{Q:Value×List Value->af->Prop}(X:K.In s.heap)(I:CT s.heap x dx C mA)(hg:j5 K C name=true)
 (hf:dz K (.ref C) name=some (some (.ref f)))(ht:px K (.ref f)=true)(hv:mA name=none)(h:Q (.ref f,[.ref x]) s):
 wpAny (model prog w) A (sk (.ref x) name pl) Q E s:=by
 obtain⟨od,J,hl⟩:=I.look
 exact PySem.W.method_fn X J (ph hg).1 (ph hg).2 hf (beq_iff_eq.mp ht) (by show(qf name od).map (·.isSome)=some false;rw[hl,hv];rfl) h
theorem W8 {ns:List Str}{Q:Unit->af->Prop}(X:K.In s.heap)(I:CT s.heap x dx C mA)
 (hs:dz K (.ref C) "__setattr__" = some (some (.builtin "object.__setattr__")))(hp:mx K C=true)(ht:vd K C name=some none)(hh:kl K C=true)
 (hw:yi mA ns)(iZ:ns.length<=sizeLine)
 (h:∀ h',CT h' x dx C (fun y=>if y=name then some v else mA y)->j9 dx s.heap h'->Q () { s with heap:=h',toks:=s.toks+2 }):
 wpAny (model prog w) A (setAttr (.ref x) name v) Q E s:=by
 obtain⟨od,J,hl⟩:=I.look
 refine PySem.W.set_plain X J hs (PySem.W.osa_open (s:={ s with toks:=s.toks+1 }) (r:=none) X J hp ht fun b=>?_)
 obtain⟨cd,hc,hd'⟩:=PySem.W.any_some hh
 have hx:s.heap.get? x=some ⟨.ref C,some dx,.plain,#[]⟩:=I.obj
 refine ae (ao (ae (ae (wpAny_loadPart hx (ae (PySem.W.Looks.here (s:={ s with toks:=s.toks+1 }) (PySem.W.looks_clsIn X hc) ?_))))))
 rw[hd']
 refine ao (a:=some dx) (ae (ao (ae ?_)))
 refine wpAny_nsSet1 (s:={ s with toks:=s.toks+1 }) I.ns fun h' hn2 hs2=>?_
 obtain⟨oD,esD,epD,hoD,hdD,hcD⟩:=hn2.count (PySem.Within.cons name v hw)
 refine ae (wpAny_lookBehind hoD (by rw[hdD];exact pastItsLine_dict (bz hcD (by rw[be];omega))) ?_)
 exact ao (h _ ⟨(hs2.2 _ (cz I.ne)).trans I.obj,hn2,I.ne⟩ hs2)
theorem TH {R:Rq->af->Prop}{vs:List Value}{kw:List (Str×Value)}(X:K.In s.heap)(hm:ve K C=true)
 (hi:dz K (.ref C) "__init__" = some (some (.ref f)))(hf:PySem.W.typeIn K (.ref f)=some (.type "function"))
 (h:kv (model prog w) (A.under (.builtin "type.__call__" ⟨.ref C::vs,kw⟩)) (.call (.ref f) ⟨.ref (s.heap.objs.size+1)::vs,kw⟩) (PySem.W.InitBack (s.heap.objs.size+1) R)
  { s with heap:=(s.heap.push gh).push (iu C s.heap.objs.size) }):
 kv (model prog w) A (.call (.ref C) ⟨vs,kw⟩) R s:=by
 obtain⟨hh,g,d,t,os⟩:=s
 exact PySem.W.make_core (PySem.W.makes_of X hm) (PySem.W.looks_findIn X hi) (fun self=>PySem.W.bind_fn X self hf) (.inl rfl) h
end
noncomputable def jB (f:Str)(v:V):List (Str×V)->List (Str×V)
 |[]=>[(f,v)]
 |(g,x)::r=>if g=f then(g,v)::r else(g,x)::jB f v r
theorem BQ (f g:Str)(v:V):∀ fs:List (Str×V),(jB f v fs).lookup g=if g=f then some v else fs.lookup g
 |[]=>by
  show g8 g [(f,v)]=_
  by_cases h:g=f
  ·have hb:(g==f)=true:=beq_iff_eq.mpr h
   simp only[g8,hb,if_pos h]
  ·have hb:(g==f)=false:=beq_eq_false_iff_ne.mpr h
   simp only[g8,hb,if_neg h]
 |(k,x)::r=>by
  have ih:=BQ f g v r
  rw[show jB f v ((k,x)::r)=(if k=f then(k,v)::r else(k,x)::jB f v r)from rfl]
  by_cases hk:k=f
  ·rw[if_pos hk]
   by_cases h:g=k
   ·have hb:(g==k)=true:=beq_iff_eq.mpr h
    simp only[g8,hb,if_pos (h.trans hk)]
   ·have hb:(g==k)=false:=beq_eq_false_iff_ne.mpr h
    simp only[g8,hb,if_neg (fun e:g=f=>h (e.trans hk.symm))]
  ·rw[if_neg hk]
   by_cases h:g=k
   ·have hb:(g==k)=true:=beq_iff_eq.mpr h
    simp only[g8,hb,if_neg (fun e:g=f=>hk (h.symm.trans e))]
   ·have hb:(g==k)=false:=beq_eq_false_iff_ne.mpr h
    simp only[g8,hb]
    exact ih
theorem zF (f:Str)(v:V):∀ fs:List (Str×V),f∈(jB f v fs).map (·.1)/\∀ g,g∈fs.map (·.1)->g∈(jB f v fs).map (·.1)
 |[]=>⟨by simp [jB],fun g h=>by simp at h⟩
 |(k,x)::r=>by
  obtain⟨i1,i2⟩:=zF f v r
  rw[show jB f v ((k,x)::r)=(if k=f then(k,v)::r else(k,x)::jB f v r)from rfl]
  by_cases hk:k=f
  ·rw[if_pos hk]
   subst hk
   exact⟨by simp,fun g h=>by simpa using h⟩
  ·rw[if_neg hk]
   refine⟨?_,fun g h=>?_⟩
   ·rw[av]
    exact dj _ i1
   ·rw[av]at h ⊢
    rcases List.mem_cons.mp h with e|e
    ·exact List.mem_cons.mpr (.inl e)
    ·exact dj _ (i2 g e)
theorem BJ (f:Str)(v:V):∀ fs:List (Str×V),(jB f v fs).length<=fs.length+1
 |[]=>by simp [jB]
 |(k,x)::r=>by
  have ih:=BJ f v r
  rw[show jB f v ((k,x)::r)=(if k=f then(k,v)::r else(k,x)::jB f v r)from rfl]
  by_cases hk:k=f
  ·rw[if_pos hk,be,be];omega
  ·rw[if_neg hk,be,be];omega
theorem uC.some_of {v:V}{o:Option Value}(r:uC (some v) o):∃ u,o=some u/\RelV v u:=by
 cases o with
 |none=>exact(show False from r).elim
 |some u=>exact⟨u,rfl,r⟩
theorem uC.none_of {o:Option Value}(r:uC none o):o=none:=by
 cases o with
 |none=>rfl
 |some u=>exact(show False from r).elim
theorem SD {v:V}{u:Value}(r:RelV v u):zf u=true:=by
 cases v with
 |non=>cases (show u=iq from r);rfl
 |bl b=>cases (show u=qb b from r);rfl
 |int i=>obtain⟨t,e⟩:=(show ∃ t,u=Rj i t from r);cases e;rfl
 |str x=>obtain⟨t,e⟩:=(show ∃ t,u=zd x t from r);cases e;rfl
 |byt b=>obtain⟨t,e⟩:=(show ∃ t,u=Rv b t from r);cases e;rfl
 |flt b=>obtain⟨t,e⟩:=(show ∃ t,u=Rw b t from r);cases e;rfl
 |ref a=>cases (show u=gz a from r);rfl
 |ty n=>cases (show u=fq n from r);rfl
section
variable {P:br}{w:World}{H H':Hp}{h h':Heap}{a C dx:Addr}{fs fs':List (Str×V)}
theorem E4 (cG:jF P w H h)(e:H a=some (.ins C dx fs)):∃ mA,CT h a dx C mA/\(∀ f,uC (fs.lookup f) (mA f))/\yi mA (fs.map (·.1))/\fs.length<=1000/\H dx=some (.own a):=by
 obtain⟨d,z,ne,ob,mA,n,r,q⟩:=(show jV P w H h a (.ins C dx fs)from cG a _ e)
 exact⟨mA,⟨ob,n,ne⟩,r,q,z,d⟩
end
structure uL (K:ab)(C:Addr):Prop where
 pg:j5 K C Rl=true
 hd:kl K C=true
 po:mx K C=true
 sa:dz K (.ref C) "__setattr__" = some (some (.builtin "object.__setattr__"))
theorem uL.get {K:ab}{C:Addr}(c:uL K C)(f:Str):j5 K C f=true:=c.pg
noncomputable def rN (K:ab)(C:Addr)(f:Str):Prop:=dz K (.ref C) f=some none
theorem rN.Gr {K:ab}{C:Addr}{f:Str}(n:rN K C f):vd K C f=some none:=by
 unfold vd
 rw[show dz K (.ref C) f=some none from n]
 rfl
structure E2 (K:ab)(C:Addr)(m:Str)(f:Addr):Prop where
 at_:dz K (.ref C) m=some (some (.ref f))
 fn:px K (.ref f)=true
 kp:fw K (.ref f)=true
section
variable {X:Cx}{pins:List (Addr×Obj)}{σ:St}{H:Hp}{s:af}{a C dx:Addr}{fs:List (Str×V)}{f:Str}{v:V}{A:cg}{E:Value->af->Prop}
theorem NZ {b:Bool}{Q:Value->af->Prop}(I:Inv X pins σ H s)(e:H a=some (.ins C dx fs))(c:uL X.K C)(n:rN X.K C f)(l:fs.lookup f=some v)
 (h:∀ u s',Inv X pins σ H s'->RelV v u->Q u s'):wpAny (model X.prog X.w) A (Sz (.ref a) f b) Q E s:=by
 obtain⟨mA,O,r,_,_,_⟩:=E4 I.cG e
 obtain⟨u,hu,ru⟩:=uC.some_of (v:=v) (o:=mA f) (by rw[<-l];exact r f)
 exact get_map I.kG O (c.get f) c.hd n hu (SD ru) (h u _ (I.tok _) ru)
theorem DS {m:Str}{g:Addr}{pl:Sem Bool}{Q:Value×List Value->af->Prop}(I:Inv X pins σ H s)(e:H a=some (.ins C dx fs))(c:uL X.K C)(k:E2 X.K C m g)(l:fs.lookup m=none)
 (h:Q (.ref g,[.ref a]) s):wpAny (model X.prog X.w) A (sk (.ref a) m pl) Q E s:=by
 obtain⟨mA,O,r,_,_,_⟩:=E4 I.cG e
 have hn:mA m=none:=uC.none_of (by rw[<-l];exact r m)
 exact S4 I.kG O (c.get m) k.at_ k.fn hn h
theorem N0 {y:V}{u:Value}{Q:Unit->af->Prop}(I:Inv X pins σ H s)(e:H a=some (.ins C dx fs))(c:uL X.K C)(n:rN X.K C f)(hl:fs.length<1000)(ry:RelV y u)
  (h:∀ s',Inv X pins σ (upd H a (.ins C dx (jB f y fs))) s'->Q () s'):wpAny (model X.prog X.w) A (setAttr (.ref a) f u) Q E s:=by
 obtain⟨mA,O,r,wi,_,ho⟩:=E4 I.cG e
 have hz:(fs.map (·.1)).length<=sizeLine:=by rw[aa,jx];omega
 refine W8 I.kG O c.sa c.po n.Gr c.hd wi hz fun h' O' sb=>h _ ?_
 have hd:∃ o,h'.get? dx=some o:=let⟨o,_,_,e',_⟩:=O'.ns;⟨o,e'⟩
 refine I.write (x:=a) (e:=dx) (by rw[e];exact cv) (.inr ho) (fun b q hb z=>(sb.2 b hb).trans z) hd ?_
 refine⟨by rw[cA O.ne];exact ho,?_,O.ne,O'.obj,_,O'.ns,fun g=>?_,fun g hg=>?_⟩
 ·have:=BJ f y fs;omega
 ·show uC ((jB f y fs).lookup g) (if g=f then some u else mA g)
  rw[BQ]
  by_cases q:g=f
  ·rw[if_pos q,if_pos q];exact ry
  ·rw[if_neg q,if_neg q];exact r g
 ·by_cases q:g=f
  ·rw[q];exact(zF f y fs).1
  ·refine(zF f y fs).2 g (wi g fun z=>hg ?_)
   show(if g=f then some u else mA g)=none
   rw[if_neg q];exact z
theorem Inv.made (I:Inv X pins σ H s):Inv X pins σ (upd (upd H s.heap.objs.size (.own (s.heap.objs.size+1))) (s.heap.objs.size+1) (.ins C s.heap.objs.size []))
  { s with heap:=(s.heap.push gh).push (iu C s.heap.objs.size) }:=by
 have e1:(s.heap.push gh).get? s.heap.objs.size=some gh:=bg s.heap rfl
 have e2:((s.heap.push gh).push (iu C s.heap.objs.size)).get? (s.heap.objs.size+1)=some (iu C s.heap.objs.size):=by
  have:=bg (s.heap.push gh) (o:=iu C s.heap.objs.size) rfl
  rwa [jm]at this
 have e3:(s.heap.push gh).Ns s.heap.objs.size (fun _=>none):=⟨PySem.W.emptyDict,#[],_,e1,rfl,(fun e he=>absurd he (by simp)),fun _=>rfl⟩
 have I1:=I.laid (a:=s.heap.objs.size) (o:=.own (s.heap.objs.size+1)) (h':=s.heap.push gh) (t':=s.toks) (fun b u q=>ak _ q) (bb _) ⟨_,e1⟩
 refine I1.laid (a:=s.heap.objs.size+1) (o:=.ins C s.heap.objs.size []) (t':=s.toks) (fun b u q=>ak _ q) (Rr (jm _ _)) ?_
 have ne:s.heap.objs.size≠s.heap.objs.size+1:=cb (f9 _)
 refine⟨by rw[cA ne,eI],cu _,ne,e2,fun _=>none,(Heap.Ns1.of_empty e3).at fun o q=>ak _ q,fun _=>cv,fun y hy=>absurd rfl hy⟩
theorem W9 {prog:br}{w:World}{env:Env}{e:Expr}{f:Str}{pos:Pos}{s:af}{Q:Value->af->Prop}(hb:fx e f env (eval e env)=eval e env)
 (h:wpAny (model prog w) A (eval e env) (fun o s₁=>wpAny (model prog w) A (Sz o f true) Q E s₁) E s):wpAny (model prog w) A (eval (.Attribute e f pos) env) Q E s :=
 Attribute_any_ h (by rw[arm_eval_Attribute,hb])
end
noncomputable def Ob (K:ab)(ta:TE)(f:Str):TE:=fun σ H Q=>ta σ H fun x H1=>∃ a C dx fs v,x=.ref a/\H1 a=some (.ins C dx fs)/\uL K C/\rN K C f/\fs.lookup f=some v/\Q v H1
noncomputable def Og (K:ab)(ta tv:TE)(f:Str):TS:=fun D σ H=>tv σ H fun y H1=>ta σ H1 fun x H2=>∃ a C dx fs,x=.ref a/\H2 a=some (.ins C dx fs)/\uL K C/\rN K C f/\fs.length<1000 /\
 D.nx σ (upd H2 a (.ins C dx (jB f y fs)))
section
variable {X:Cx}{o e value:Expr}{f:Str}{pos pos' tpos:Pos}{ta tv:TE}
theorem Cs (he:PE X e ta)(hb:fx e f X.env (eval e X.env)=eval e X.env):PE X (.Attribute e f pos) (Ob X.K ta f):=by
 intro pins s σ H Q I h
 refine W9 hb (bE (he pins s σ H _ I h) fun u s1 ⟨x,H1,I1,rx,a,C,dx,fs,v,ex,ea,c,n,l,q⟩=>?_)
 subst ex
 obtain rfl:u=gz a:=rx
 exact NZ I1 ea c n l fun u' s2 I2 ru=>⟨v,H1,I2,ru,q⟩
theorem Bd (ha:PE X o ta)(hv:PE X value tv)(hs:ku value (some (.Attribute o f pos')) pos.line X.env=pure false):PS X (.Assign [.Attribute o f pos'] value pos) (Og X.K ta tv f):=by
 intro pins s σ H D I h
 refine plainObj_wpAny_Assign_Attribute (bE (hv pins s σ H _ I h) fun u s1 ⟨y,H1,I1,ry,q⟩=>bE (ha pins s1 σ H1 _ I1 q) fun ov s2 ⟨x,H2,I2,rx,a,C,dx,fs,ex,ea,c,n,l,q2⟩=>?_) hs
 subst ex
 obtain rfl:ov=gz a:=rx
 exact N0 I2 ea c n l ry fun s3 I3=>⟨σ,_,I3,q2⟩
theorem Ga {pl:Sem Bool}{m:Str}{apos:Pos}{args:List Expr}{pins:List (Addr×Obj)}{s:af}{σ:St}{H:Hp}{Q:Value->af->Prop}{te:TE}(he:PE X e te)(I:Inv X pins σ H s)
 (h:te σ H fun x H1=>∃ a C dx fs g,x=.ref a/\H1 a=some (.ins C dx fs)/\uL X.K C/\E2 X.K C m g/\fs.lookup m=none /\
  ∀ s1,Inv X pins σ H1 s1->wpAny (model X.prog X.w) X.A (wb pos (.ref g) [.ref a] (dq pos (ar args X.env)) (my pos (jy [] X.env))) Q X.xe s1)
 (ht:eval (.Call (.Attribute e m apos) args [] pos) X.env=(do
  let ov <-eval e X.env
  mr apos.atName
  let(f,first) <-j4 [ov] (sk ov m pl)
  wb pos f first (dq pos (ar args X.env)) (my pos (jy [] X.env)))):
 wpAny (model X.prog X.w) X.A (eval (.Call (.Attribute e m apos) args [] pos) X.env) Q X.xe s:=by
 refine vt (pl:=pl) (bE (he pins s σ H _ I h) fun u s1 ⟨x,H1,I1,rx,a,C,dx,fs,g,ex,ea,c,k,l,q⟩=>?_) ht
 subst ex
 obtain rfl:u=gz a:=rx
 exact DS I1 ea c k l (q s1 I1)
end
end L2
namespace L2
open PySem PySem.Spec PyProof.Rows
structure dS (k:Nat)(A:cg):Prop where
 hd:A.handled=none
 dp:A.depth+3*k+5<recursionLimit
 un:A.units+16*k+200<cLine
theorem dS.mono {j k:Nat}{A:cg}(r:dS k A)(h:j<=k):dS j A:=⟨r.hd,by have:=r.dp;omega,by have:=r.un;omega⟩
theorem dS.deeper {k:Nat}{A:cg}(r:dS (k+1) A)(env:Env):dS k (A.deeper env) :=
 ⟨r.hd,by have:=r.dp;show A.depth+1+3*k+5<_;omega,by have:=r.un;show A.units+3+16*k+200<_;omega⟩
theorem N8 {A:cg}{C:Addr}{us:List Value}{kw:List (Str×Value)}:(A.under (.builtin "type.__call__" ⟨.ref C::us,kw⟩)).depth=A.depth+1:=by
 first|rfl|simp [yl,Code.weight,Code.isCreation,Code.isGuard,Code.isCaller,Sb,ym,guardIds]
theorem O8 {A:cg}{C:Addr}{us:List Value}{kw:List (Str×Value)}:(A.under (.builtin "type.__call__" ⟨.ref C::us,kw⟩)).units=A.units+1:=by
 first|rfl|simp [yl,Code.cUnits,Sb,ym]
theorem dS.make {k:Nat}{A:cg}(r:dS (k+1) A)(C:Addr)(us:List Value)(kw:List (Str×Value)):dS k (A.under (.builtin "type.__call__" ⟨.ref C::us,kw⟩)) :=
 ⟨r.hd,by have:=r.dp;rw[N8];omega,by have:=r.un;rw[O8];omega⟩
theorem dS.depth {k:Nat}{A:cg}(r:dS k A):A.depth<recursionLimit:=by have:=r.dp;omega
noncomputable def Nh:TA:=fun _ H Q=>Q [] H
noncomputable def Jd (ta:TE)(tr:TA):TA:=fun σ H Q=>ta σ H fun x H1=>tr σ H1 fun xs H2=>Q (x::xs) H2
section
variable {X:Cx}{e:Expr}{es:List Expr}{te:TE}{t:TA}{pos:Pos}
theorem QU:PA X [] Nh:=fun _ _ _ _ H Q I h=>rg ⟨[],H,I,.nil,h⟩
theorem EM (ha:PE X e te)(hr:PA X es t)(hs:ar (e::es) X.env=(false,eval e X.env)::ar es X.env:=by rfl):PA X (e::es) (Jd te t):=by
 intro pos pins s σ H Q I h
 rw[hs]
 show wpAny _ _ (z9 ((false,eval e X.env)::dq pos (ar es X.env))) _ _ s
 refine qg (bE (ha pins s σ H _ I h) fun u s1 ⟨x,H1,I1,r1,q1⟩=>?_)
 exact bE (hr pos pins s1 σ H1 _ I1 q1) fun us s2 ⟨xs,H2,I2,r2,q2⟩=>⟨x::xs,H2,I2,.cons r1 r2,q2⟩
noncomputable def Nb (t:TA):TE:=fun σ H Q=>t σ H fun xs H1=>xs.length<=sizeLine/\∀ p,H1 p=none->Q (.ref p) (upd H1 p (.tup xs))
noncomputable def Mq (t:TA):TE:=fun σ H Q=>t σ H fun xs H1=>xs.length<=sizeLine/\∀ p,H1 p=none->Q (.ref p) (upd H1 p (.lst xs))
theorem Eb {x1}(h:PA X es t):PE X (.Tuple es x1 pos) (Nb t):=by
 intro pins s σ H Q I hq
 refine wpAny_Tuple_spliced (bE (h pos pins s σ H _ I hq) fun us s1 ⟨xs,H1,I1,r,z,q⟩=>⟨by rw[<-r.length];exact z,?_⟩)
 have hf:H1 s1.heap.objs.size=none:=I1.cG.fresh (bb _)
 refine⟨.ref s1.heap.objs.size,upd H1 s1.heap.objs.size (.tup xs),I1.laid (t':=s1.toks) (fun b u e=>ak _ e) (bb _) ?_,rfl,q _ hf⟩
 exact⟨z,us,r,pX.new _ _⟩
theorem Ej (h:PA X es t):PE X (.List es pos) (Mq t):=by
 intro pins s σ H Q I hq
 refine wpAny_List_spliced (bE (h pos pins s σ H _ I hq) fun us s1 ⟨xs,H1,I1,r,z,q⟩=>⟨by rw[<-r.length];exact z,?_⟩)
 have hf:H1 s1.heap.objs.size=none:=I1.cG.fresh (bb _)
 refine⟨.ref s1.heap.objs.size,upd H1 s1.heap.objs.size (.lst xs),I1.laid (t':=s1.toks) (fun b u e=>ak _ e) (bb _) ?_,rfl,q _ hf⟩
 exact⟨z,us,0,r,bg _ rfl⟩
end
noncomputable abbrev Sp:=List V->Hp->VK->XK->Prop
noncomputable abbrev xT:=List Env->Hp->af->XK->Value->af->Prop
structure B8 (P:br)(w:World)(K:ab)(mg:Str->Option Value)(base:Heap)(A:cg)(outer:List Env)(s:af)(H:Hp):Prop where
 frames:A.frames=some outer
 mod:Mod K mg base
 bs:∀ b o,base.get? b=some o->s.heap.get? b=some o/\H b=none
 bsz:base.objs.size<=s.heap.objs.size
 oI:s.heap.FunFrames base outer
 frf:∀ b∈yK outer,H b=none
 cG:jF P w H s.heap
 bare:rb s.gens
inductive CE (outer:List Env)(P:br)(w:World)(H:Hp)(s:af)(Q:VK)(u:Value)(s':af):Prop
 |mk (v:V)(H':Hp)(a:s'.os=s.os)(b:rb s'.gens)(c:Un (yK outer) [] H H' s.heap s'.heap)(d:jF P w H' s'.heap)(r:RelV v u)(q:Q v H')
noncomputable def CR (CX:xT)(outer:List Env)(P:br)(w:World)(H:Hp)(s:af)(Q:VK)(E:XK)(r:Rq)(s':af):Prop :=
 match r with
 |.ok (.ret u)=>CE outer P w H s Q u s'
 |.ok _=>False
 |.error e=>CX outer H s E e s'
structure fA (P:br)(w:World)(K:ab)(mg:Str->Option Value)(base:Heap)(CX:xT)(k:Nat)(f:Addr)(fd:gw)(ps:List Str)(sp:Sp):Prop where
 len:∀ vs H Q E,sp vs H Q E->vs.length=ps.length
 run:∀(A:cg)(outer:List Env)(s:af)(H:Hp)(args:Args)(us:List Value)(vs:List V)(Q:VK)(E:XK),dS k A->B8 P w K mg base A outer s H->w6 s fd args (ps.zip us)->aQ vs us->sp vs H Q E ->
 kv (model P w) A (.call (.ref f) args) (CR CX outer P w H s Q E) s
theorem B8.make {P:br}{w:World}{K:ab}{mg:Str->Option Value}{base:Heap}{A:cg}{outer:List Env}{s:af}{H:Hp}(e:B8 P w K mg base A outer s H)(C:Addr)(us:List Value)(kw:List (Str×Value)):
 B8 P w K mg base (A.under (.builtin "type.__call__" ⟨.ref C::us,kw⟩)) outer s H:=⟨by first|exact e.frames|(simpa [yl,Code.envs,ym,pushEnvs]using e.frames),e.mod,e.bs,e.bsz,e.oI,e.frf,e.cG,e.bare⟩
section
variable {X:Cx}{pins:List (Addr×Obj)}{σ:St}{H:Hp}{s s':af}
theorem Inv.Ac (I:Inv X pins σ H s):B8 X.prog X.w X.K X.mg X.base X.A X.stack s H :=
 ⟨I.ok.frames,I.ok.mod,I.bs,bz I.ok.bsz I.sz,I.stack,I.MK,I.cG,I.bare⟩
theorem Inv.after {Q:VK}{u:Value}(I:Inv X pins σ H s)(h:CE X.stack X.prog X.w H s Q u s'):EP X pins σ Q u s':=by
 obtain⟨v,H',os,bare,un,cG,r,q⟩:=h
 obtain⟨hh,g,d,t,os'⟩:=s'
 obtain rfl:os'=s.os:=os
 exact⟨v,H',I.call (h':=hh) (g':=g) (d':=d) (t':=t) (ch:=[]) un cG bare (fun b z=>absurd z (by simp)),r,q⟩
end
noncomputable def Gs (sp:Sp)(dvs:List V)(E:XK)(t:TA):TE:=fun σ H Q=>t σ H fun vs H1=>sp (vs++dvs) H1 Q E
noncomputable def Jl (C:Addr)(m:Str)(sp:Sp)(dvs:List V)(E:XK)(ta:TE)(t:TA):TE:=fun σ H Q=>ta σ H fun x H1=>∃ a dx fs,x=.ref a/\H1 a=some (.ins C dx fs)/\fs.lookup m=none /\
 t σ H1 fun vs H2=>sp (x::(vs++dvs)) H2 Q E
noncomputable def Iq (C:Addr)(sp:Sp)(dvs:List V)(E:XK)(t:TA):TE:=fun σ H Q=>t σ H fun vs H1=>∀ x dx,H1 x=none->H1 dx=none->dx≠x ->
 sp (.ref x::(vs++dvs)) (upd (upd H1 dx (.own x)) x (.ins C dx [])) (fun v H2=>v=.non/\Q (.ref x) H2) E
noncomputable def Binds (K:ab)(fd:gw)(ps:List Str)(ds:List Value):Prop :=
 ∀(s:af)(us:List Value),K.In s.heap->(us++ds).length=ps.length->w6 s fd ⟨us,[]⟩ (ps.zip (us++ds))
theorem Binds.all {K:ab}{fd:gw}{ps:List Str}(h:∀ us:List Value,us.length=ps.length->Sd fd ⟨us,[]⟩=pure (ps.zip us)):Binds K fd ps []:=fun s us _ hl=>by
 rw[b7]at hl ⊢
 exact .of_eq (h us hl)
noncomputable def sD (CX:xT)(X:Cx)(E:XK):Prop:=∀(pins:List (Addr×Obj))(σ:St)(H:Hp)(s:af)(e:Value)(s':af),Inv X pins σ H s->CX X.stack H s E e s'->X.xe e s'
section
variable {X:Cx}{CX:xT}{k:Nat}{f C:Addr}{fd:gw}{ps:List Str}{sp:Sp}{dvs:List V}{ds:List Value}{E:XK}{x m:Str}{p pos apos:Pos}{e o:Expr}{es:List Expr}{ta:TE}{t:TA}
theorem RN {pins:List (Addr×Obj)}{σ:St}{H:Hp}{s:af}{Q:VK}{us:List Value}{vs:List V}(F:fA X.prog X.w X.K X.mg X.base CX k f fd ps sp)(hr:dS k X.A)(hb:Binds X.K fd ps ds)(hd:aQ dvs ds)(hx:sD CX X E)
 (I:Inv X pins σ H s)(r:aQ vs us)(h:sp (vs++dvs) H Q E):wpAny (model X.prog X.w) X.A (call (.ref f) us) (EP X pins σ Q) X.xe s:=by
 have r2:aQ (vs++dvs) (us++ds):=r.append hd
 have hl:(us++ds).length=ps.length:=by rw[<-r2.length];exact F.len _ _ _ _ h
 refine Qj (mz (F.run X.A X.stack s H ⟨us,[]⟩ (us++ds) (vs++dvs) Q E hr I.Ac (hb s us I.kG hl) r2 h) fun r s' hq=>?_)
 cases r with
 |error e=>exact hx pins σ H s e s' I hq
 |ok fl =>
 cases fl with
 |ret u=>exact I.after hq
 |next=>exact i5 hq
 |brk=>exact i5 hq
 |cont=>exact i5 hq
theorem X8 (F:fA X.prog X.w X.K X.mg X.base CX k f fd ps sp)(hr:dS k X.A)(hg:Gl X x)(hm:X.mg x=some (.ref f))(hk:fw X.K (.ref f)=true)(hb:Binds X.K fd ps ds)(hd:aQ dvs ds)(hx:sD CX X E)
 (ha:PA X (e::es) t)(hdb:(x==("__debug__" : Str))=false:=by decide)(he:ar (e::es) X.env=(false,eval e X.env)::ar es X.env:=by rfl)(dB:(dq pos (ar es X.env)).any (·.1)=false:=by rfl):
 PE X (.Call (.Name x p) (e::es) [] pos) (Gs sp dvs E t):=by
 intro pins s σ H Q I h
 refine f7 (EO I hg hm ?_ hdb)
 refine qh (h₀:=X.base) I.ok.mod.kin hk (bE (ha pos pins s σ H _ I h) fun us s1 ⟨vs,H1,I1,r,q⟩=>⟨I1.kG,?_⟩) he dB
 exact RN F hr hb hd hx I1 r q
theorem XD {pl:Sem Bool}(he:PE X o ta)(c:uL X.K C)(hm:E2 X.K C m f)(F:fA X.prog X.w X.K X.mg X.base CX k f fd ps sp)(hr:dS k X.A)(hb:Binds X.K fd ps ds)(hd:aQ dvs ds)(hx:sD CX X E)(ha:PA X (e::es) t)
 (fF:ar (e::es) X.env=(false,eval e X.env)::ar es X.env:=by rfl)(dB:(dq pos (ar es X.env)).any (·.1)=false:=by rfl)
 (ht:eval (.Call (.Attribute o m apos) (e::es) [] pos) X.env=(do
  let ov <-eval o X.env
  mr apos.atName
  let(f,first) <-j4 [ov] (sk ov m pl)
  wb pos f first (dq pos (ar (e::es) X.env)) (my pos (jy [] X.env))):=by rfl):
 PE X (.Call (.Attribute o m apos) (e::es) [] pos) (Jl C m sp dvs E ta t):=by
 intro pins s σ H Q I h
 refine vt (pl:=pl) (bE (he pins s σ H _ I h) fun u s1 ⟨x,H1,I1,rx,a,dx,fs,ex,ea,l,q⟩=>?_) ht
 subst ex
 obtain rfl:u=gz a:=rx
 refine DS I1 ea c hm l ?_
 refine qh (first:=[.ref a]) (h₀:=X.base) I.ok.mod.kin hm.kp (bE (ha pos pins s1 σ H1 _ I1 q) fun us s2 ⟨vs,H2,I2,r,q2⟩=>⟨I2.kG,?_⟩) fF dB
 exact RN (us:=.ref a::us) (vs:=.ref a::vs) F hr hb hd hx I2 (.cons rfl r) q2
structure Mk (K:ab)(C f:Addr):Prop where
 makes:ve K C=true
 init:dz K (.ref C) "__init__" = some (some (.ref f))
 fn:px K (.ref f)=true
 kp:fw K (.ref C)=true
theorem VF {pins:List (Addr×Obj)}{σ:St}{H:Hp}{s:af}{Q:VK}{us:List Value}{vs:List V}(M:Mk X.K C f)(F:fA X.prog X.w X.K X.mg X.base CX k f fd ps sp)(hr:dS (k+1) X.A)(hb:Binds X.K fd ps ds)(hd:aQ dvs ds)
  (hx:sD CX X E)(I:Inv X pins σ H s)(r:aQ vs us)
  (h:∀ x dx,H x=none->H dx=none->dx≠x->sp (.ref x::(vs++dvs)) (upd (upd H dx (.own x)) x (.ins C dx [])) (fun v H2=>v=.non/\Q (.ref x) H2) E):
  wpAny (model X.prog X.w) X.A (call (.ref C) us) (EP X pins σ Q) X.xe s:=by
 have hq:=h (s.heap.objs.size+1) s.heap.objs.size (I.cG.fresh (zu _)) (I.cG.fresh (bb _)) (cb (f9 _))
 have I2:=Inv.made (C:=C) I
 have r2:aQ (V.ref (s.heap.objs.size+1)::(vs++dvs)) (gz (s.heap.objs.size+1)::(us++ds)):=.cons rfl (r.append hd)
 have hl:(gz (s.heap.objs.size+1)::us++ds).length=ps.length:=by
  have e:=r2.length
  rw[F.len _ _ _ _ hq]at e
  exact e.symm
 refine Qj (TH (f:=f) I.kG M.makes M.init (beq_iff_eq.mp M.fn) (mz (F.run _ X.stack _ _ ⟨Value.ref (s.heap.objs.size+1)::us,[]⟩ (gz (s.heap.objs.size+1)::(us++ds)) _ _ E (hr.make C us [])
  (I2.Ac.make C us []) (hb _ (gz (s.heap.objs.size+1)::us) I2.kG hl) r2 hq) fun r s' hq'=>?_))
 cases r with
 |error e=>exact hx pins σ _ _ e s' I2 hq'
 |ok fl =>
  cases fl with
  |ret u =>
   obtain⟨v,H',I3,rv,ev,q3⟩:=I2.after hq'
   subst ev
   exact⟨rv,⟨V.ref (s.heap.objs.size+1),H',I3,rfl,q3⟩⟩
  |next=>exact i5 hq'
  |brk=>exact i5 hq'
  |cont=>exact i5 hq'
theorem W7 (M:Mk X.K C f)(F:fA X.prog X.w X.K X.mg X.base CX k f fd ps sp)(hr:dS (k+1) X.A)(hg:Gl X x)(hm:X.mg x=some (.ref C))(hb:Binds X.K fd ps ds)(hd:aQ dvs ds)(hx:sD CX X E)
 (ha:PA X (e::es) t)(hdb:(x==("__debug__" : Str))=false:=by decide)(he:ar (e::es) X.env=(false,eval e X.env)::ar es X.env:=by rfl)(dB:(dq pos (ar es X.env)).any (·.1)=false:=by rfl):
 PE X (.Call (.Name x p) (e::es) [] pos) (Iq C sp dvs E t):=by
 intro pins s σ H Q I h
 refine f7 (EO I hg hm ?_ hdb)
 refine qh (h₀:=X.base) I.ok.mod.kin M.kp (bE (ha pos pins s σ H _ I h) fun us s1 ⟨vs,H1,I1,r,q⟩=>⟨I1.kG,?_⟩) he dB
 exact VF M F hr hb hd hx I1 r q
end
structure vD (N P:List Str)(sc:Scope):Prop where
 kind:sc.kind=.function
 co:sc.isCoroutine=false
 gen:sc.isGenerator=false
 nd:N.Nodup
 pre:N.take P.length=P
 par:∀ x∈P,sc.names.lookup x=some .local∨sc.names.lookup x=some .cell
 nofree:∀ y∈sc.names,y.2≠.free
theorem GP {kindOf:Str->Option sv}{x:Str}:∀{binds:List (Str×Value)}{m:Str->Option Value},(∀ v,(x,v)∉binds)->bindL kindOf binds m x=m x
 |[],_,_=>rfl
 |(n,v)::r,m,h=>by
  unfold bindL
  rw[GP fun w hw=>h w (dj _ hw)]
  split
  ·have:x≠n:=by rintro rfl;exact h v fb
   simp [this]
  ·rfl
theorem FV {kindOf:Str->Option sv}{x:Str}:∀{binds:List (Str×Value)}{m:Str->Option Value},(∀ v,(x,v)∉binds)->bindC kindOf binds m x=m x
 |[],_,_=>rfl
 |(n,v)::r,m,h=>by
  unfold bindC
  rw[FV fun w hw=>h w (dj _ hw)]
  split
  ·rfl
  ·have:x≠n:=by rintro rfl;exact h v fb
   simp [this]
theorem HJ {kindOf:Str->Option sv}{x:Str}{v:Value}:∀{P:List Str}{vs:List Value}{i:Nat}{m:Str->Option Value},P.Nodup->P[i]? = some x->vs[i]? = some v->kindOf x=some .local ->
  bindL kindOf (P.zip vs) m x=some v
 |[],_,_,_,_,h,_,_=>by simp at h
 |_::_,[],_,_,_,_,h,_=>by simp at h
 |p::P,w::vs,0,m,nd,h1,h2,hk=>by
  simp at h1 h2;subst h1;subst h2
  show bindL kindOf ((p,w)::P.zip vs) m p=_
  unfold bindL
  rw[GP fun v hv=>(List.nodup_cons.mp nd).1 (vf hv).1,if_pos hk]
  simp
 |p::P,w::vs,i+1,m,nd,h1,h2,hk=>by
  show bindL kindOf ((p,w)::P.zip vs) m x=_
  unfold bindL
  exact HJ (i:=i) (List.nodup_cons.mp nd).2 (by simpa using h1) (by simpa using h2) hk
theorem GD {kindOf:Str->Option sv}{x:Str}{v:Value}:∀{P:List Str}{vs:List Value}{i:Nat}{m:Str->Option Value},P.Nodup->P[i]? = some x->vs[i]? = some v->kindOf x≠some .local ->
  bindC kindOf (P.zip vs) m x=some v
 |[],_,_,_,_,h,_,_=>by simp at h
 |_::_,[],_,_,_,_,h,_=>by simp at h
 |p::P,w::vs,0,m,nd,h1,h2,hk=>by
  simp at h1 h2;subst h1;subst h2
  show bindC kindOf ((p,w)::P.zip vs) m p=_
  unfold bindC
  rw[FV fun v hv=>(List.nodup_cons.mp nd).1 (vf hv).1,if_neg hk]
  simp
 |p::P,w::vs,i+1,m,nd,h1,h2,hk=>by
  show bindC kindOf ((p,w)::P.zip vs) m x=_
  unfold bindC
  exact GD (i:=i) (List.nodup_cons.mp nd).2 (by simpa using h1) (by simpa using h2) hk
noncomputable def start (N:List Str)(vs:List V):St:=vs.map some++ai (N.length-vs.length) none
noncomputable def nL (CX:xT)(P:br)(w:World)(K:ab)(mg:Str->Option Value)(base:Heap)(N:List Str)(qual:Str)(scope:Scope)(f:Addr)(cd:Value)(A:cg)(outer:List Env)(s:af)(H:Hp)(E:XK):Cx where
 prog:=P
 w:=w
 K:=K
 mg:=mg
 base:=base
 A:=A.deeper (qi qual scope s.heap.objs.size f cd)
 N:=N
 s₀:=s
 H₀:=H
 env:=qi qual scope s.heap.objs.size f cd
 outer:=outer
 stack:=qi qual scope s.heap.objs.size f cd::outer
 ex:=[]
 calm:=true
 fn:=fun _=>true
 pn:=[]
 xe:=fun e s'=>wpAny (model P w) (A.deeper (qi qual scope s.heap.objs.size f cd)) (leaving (qi qual scope s.heap.objs.size f cd) e) (fun _ s''=>CX outer H s E e s'') (fun e' s''=>CX outer H s E e' s'') s'
theorem KO {sc:Scope}{n:Nat}{x:Str}(h:sc.names.lookup x=some .cell):∃ c,(Rm n sc.names []).lookup x=some c:=by
 have q:=uf sc.names n [] (.inl h)
 exact Option.isSome_iff_exists.mp q
theorem P6 {CX:xT}{P:br}{w:World}{K:ab}{mg:Str->Option Value}{base:Heap}{N ps:List Str}{qual:Str}{scope:Scope}{f:Addr}{cd:Value}{A:cg}{outer:List Env}{s s1:af}{H:Hp}{E:XK}{us:List Value}{vs:List V}
  (S:vD N ps scope)(hd:A.handled=none)(e0:B8 P w K mg base A outer s H)(hl:vs.length=ps.length)(r:aQ vs us)
  (x:InCallC s s.heap.objs.size (bindL (qi qual scope s.heap.objs.size f cd).kindOf (ps.zip us) fun _=>none) (Rm (s.heap.objs.size+1) scope.names []) (bindC (qi qual scope s.heap.objs.size f cd).kindOf (ps.zip us) fun _=>none) s1):
  Inv (nL CX P w K mg base N qual scope f cd A outer s H E) [] (start N vs) H s1:=by
 have dB:ps.length<=N.length:=by have:=congrArg wc S.pre;rw[ny]at this;omega
 obtain⟨h1,tk,rfl,hk⟩:=x.done
 have noA:∀ b:Addr,b∉(nL CX P w K mg base N qual scope f cd A outer s H E).ex:=fun b z=>absurd (show b∈([]:List Addr)from z) (by simp)
 refine⟨⟨e0.mod,S.kind,rfl,rfl,bb _,fun y z c h1 h2=>?_,fun y hy=>?_,fun y c _ h=>?_,fun _=>hd,Around.frames_deeper e0.frames,.inr ⟨rfl,rfl⟩,fun b z=>absurd z (noA b),e0.bs,e0.bsz,fun b _ _=>noA b,fun b z=>absurd z (noA b),e0.oI,e0.frf⟩,
  rfl,e0.bare,Un.kept hk,⟨_,x.toInCall.ns,fun i y v h1 h2 h3=>?_⟩,fun y c h=>⟨_,x.cell y c h⟩,e0.cG.fresh (bb _),fun y c h=>?_,fun p hp=>absurd (show p∈([]:List (Addr×Obj))from hp) (by simp),e0.cG.kept hk,?_⟩
 ·exact name_of_addr x.apart (jc h1) (jc h2)
 ·have hy:scope.names.lookup y=some .cell∨scope.names.lookup y=some .free:=hy
  rcases hy with hy|hy
  ·exact KO hy
  ·exact absurd rfl (S.nofree _ (jc hy))
 ·exact tz (x.above y c (jc h))
 ·have hi:i<vs.length:=by
   unfold start at h2
   by_cases hi:i<vs.length
   ·exact hi
   ·rw[di (by simpa using hi)]at h2
    rw[g9]at h2
    split at h2<;>cases h2
  have ha:vs[i]? = some v:=by
   unfold start at h2
   rw[bq (by simpa using hi),bc]at h2
   cases e:vs[i]? with
   |none=>rw[e]at h2;cases h2
   |some a=>rw[e]at h2;cases h2;rfl
  obtain⟨u,hu,rv⟩:=r.get ha
  have hp:ps[i]? = some y:=by
   rw[<-S.pre,List.getElem?_take_of_lt (by omega)];exact h1
  have ndP:ps.Nodup:=by rw[<-S.pre];exact S.nd.sublist (List.take_sublist _ _)
  refine⟨u,rv,?_⟩
  rcases S.par y (bf hp)with k|k
  ·exact .inl ⟨k,HJ ndP hp hu k⟩
  ·obtain⟨c,e⟩:=KO (n:=s.heap.objs.size+1) k
   refine .inr ⟨.inl k,c,e,?_⟩
   have q:=x.cell y c e
   rw[GD ndP hp hu (by show scope.names.lookup y≠_;rw[k];decide)]at q
   exact q
 ·exact e0.cG.fresh (tz (x.above y c (jc h)))
 ·unfold start
  show _=N.length
  rw[bh,aa,ki]
  omega
theorem Ho {CX:xT}{P:br}{w:World}{K:ab}{mg:Str->Option Value}{base:Heap}{k:Nat}{f:Addr}{name qual:Str}{params:Arguments}{body:List Stmt}{scope:Scope}{dV kV doc pm bM ct oc:Value}{an od:Option Addr}
  {osl:Array (Option Value)}{N ps:List Str}{sp:Sp}(lk:K.lookup f=some ⟨oc,od,.func (je name qual params body scope dV kV doc pm an bM ct),osl⟩)(hcd:kr K bM qual=true)(S:vD N ps scope)
  (len:∀ vs H Q E,sp vs H Q E->vs.length=ps.length)
  (hbody:∀(A:cg)(outer:List Env)(s:af)(H:Hp)(vs:List V)(Q:VK)(E:XK),dS k (A.deeper (qi qual scope s.heap.objs.size f bM))->sp vs H Q E ->
   ∃ t,lI (nL CX P w K mg base N qual scope f bM A outer s H E) body t/\t { nx:=fun _ H'=>Q .non H',rt:=Q } (start N vs) H):
  fA P w K mg base CX (k+1) f (je name qual params body scope dV kV doc pm an bM ct) ps sp:=by
 refine⟨len,fun A outer s H args us vs Q E hr e0 hb r hsp=>?_⟩
 have hl:=len _ _ _ _ hsp
 have KX:K.In s.heap:=e0.mod.kin.keeps fun b o e=>(e0.bs b o e).1
 have lim:s.heap.NoLimit:=e0.mod.nolimit.keeps fun b o e=>(e0.bs b o e).1
 have hkind:∀ y∈ps.zip us,scope.names.lookup y.1=some .local∨(scope.names.lookup y.1=some .cell/\((Rm (s.heap.objs.size+1) scope.names []).lookup y.1).isSome=true):=fun⟨n,v⟩ hy=>by
  rcases S.par n (vf hy).1 with q|q
  ·exact .inl q
  ·exact .inr ⟨q,uf _ _ _ (.inl q)⟩
 refine codeAny_call_function hr.depth (KX _ _ lk) rfl S.co S.gen rfl (PySem.W.codeRec_of KX hcd) (hb _ _ _ _ ?_)
 refine wpAny_newFunctionEnv_cells S.kind hkind fun env he s1 x=>?_
 subst he
 refine⟨lim.keeps x.toInCall.keep,codeAny_func ?_⟩
 obtain⟨t,ht,hq⟩:=hbody A outer s H vs Q E (hr.deeper _) hsp
 have I:Inv (nL CX P w K mg base N qual scope f bM A outer s H E) [] (start N vs) H s1:=P6 S hr.hd e0 hl r x
 refine j2 (ht [] s1 (start N vs) H _ I hq) (fun fl s' hs=>?_) fun e s' hs=>hs
 have fin:∀{σ':St}{H':Hp}{v:V}{u:Value},Inv (nL CX P w K mg base N qual scope f bM A outer s H E) [] σ' H' s'->RelV v u->Q v H'->CE outer P w H s Q u s' :=
  fun{σ' H' v u} J rv q=>⟨v,H',J.os,J.bare,J.base,J.cG,rv,q⟩
 cases fl with
 |ret u =>
  obtain⟨v,σ',H',J,rv,q⟩:=hs
  exact fin J rv q
 |next =>
  obtain⟨σ',H',J,q⟩:=hs
  exact fin (v:=V.non) (u:=iq) J rfl q
 |brk =>
  obtain⟨_,_,_,q⟩:=hs
  exact i5 q
 |cont =>
  obtain⟨_,_,_,q⟩:=hs
  exact i5 q
end L2
namespace L2
open PySem PySem.Spec PyProof.Rows
section
variable {X:Cx}{x:Str}{p pos:Pos}{e:Expr}{es:List Expr}{t:TA}{id T:String}{r:List V->Hp->VK->Prop}
noncomputable def Bf (r:List V->Hp->VK->Prop)(t:TA):TE:=fun σ H Q=>t σ H fun vs H1=>r vs H1 Q
theorem IW (hc:wH X (.builtin id) r)(hg:Gl X x)(hm:X.mg x=none)(hv:cf x=some (.builtin id))(ha:PA X (e::es) t)(hn:x ≠"__name__":=by decide)(hdb:(x==("__debug__" : Str))=false:=by decide)
 (he:ar (e::es) X.env=(false,eval e X.env)::ar es X.env:=by rfl)(dB:(dq pos (ar es X.env)).any (·.1)=false:=by rfl):PE X (.Call (.Name x p) (e::es) [] pos) (Bf r t):=by
 intro pins s σ H Q I h
 refine f7 (nU I hg hm hv ?_ hn hdb)
 exact PyProof.Rows.callWith_builtin1 (bE (ha pos pins s σ H _ I h) fun us s1 ⟨vs,H1,I1,r1,q1⟩=>hc pins s1 σ H1 vs us Q I1 r1 q1) he dB
theorem PN (hc:wH X (.type T) r)(hg:Gl X x)(hm:X.mg x=none)(hv:cf x=some (.type T))(ha:PA X (e::es) t)(hn:x ≠"__name__":=by decide)(hdb:(x==("__debug__" : Str))=false:=by decide)
 (he:ar (e::es) X.env=(false,eval e X.env)::ar es X.env:=by rfl)(dB:(dq pos (ar es X.env)).any (·.1)=false:=by rfl):PE X (.Call (.Name x p) (e::es) [] pos) (Bf r t):=by
 intro pins s σ H Q I h
 refine f7 (nU I hg hm hv ?_ hn hdb)
 exact ey (bE (ha pos pins s σ H _ I h) fun us s1 ⟨vs,H1,I1,r1,q1⟩=>hc pins s1 σ H1 vs us Q I1 r1 q1) he dB
end
end L2
namespace HT
open PySem PyProof.Rows
section
variable {prog:br}{w:World}{A:cg}{E:Value->af->Prop}{s:af}
theorem X1 {t b:Addr}{vs ws:List Value}{Q:Value->af->Prop}(ht:IsTup s.heap t vs.toArray)(hb:IsTup s.heap b ws.toArray)(hv:vs≠[])
  (h1:ws=[]->Q (.ref t) s)(h2:ws≠[]->Q (.ref s.heap.objs.size) { s with heap:=s.heap.push { cls:=.type "tuple", data:=.seq (vs++ws).toArray } })
  (iZ:vs.length+ws.length<=sizeLine):wpAny (model prog w) A (g7 .Add (.ref t) (.ref b)) Q E s:=by
 obtain⟨⟨cls,dd,data,sl⟩,ho,hc,n,hd⟩:=id ht
 obtain⟨⟨cls2,dd2,data2,sl2⟩,ho2,hc2,n2,hd2⟩:=id hb
 simp only at hc hd hc2 hd2
 subst hc hd hc2 hd2
 have e:vs.toArray++ws.toArray=(vs++ws).toArray:=by simp
 by_cases hw:ws=[]
 ·exact yn ⟨_,ho,rfl⟩ ⟨_,ho2,rfl⟩ sy xm ng mf (lu _ _)
   (tuple_addW1 t b vs.toArray ws.toArray n n2 dd dd2 sl sl2 (by simpa using hv) (by simp [hw])) ⟨ho,ho2,h1 hw⟩
 ·refine yn ⟨_,ho,rfl⟩ ⟨_,ho2,rfl⟩ sy xm ng mf (lu _ _)
   (tuple_addW2 t b vs.toArray ws.toArray n n2 dd dd2 sl sl2 (by simpa using hv) (by simpa using hw) (by rw[aw,aw];exact iZ)) ⟨ho,ho2,?_⟩
  rw[e]
  exact h2 hw
noncomputable def cJ (n d:Nat):Option Int->Nat
 |none=>d
 |some v=>if v<0 then(v+(n:Int)).toNat else min v.toNat n
theorem Dv (n d:Nat)(hd:d<=n)(o:Option Int):cJ n d o<=n:=by
 cases o with
 |none=>exact hd
 |some v =>
 show(if v<0 then(v+(n:Int)).toNat else min v.toNat n)<=n
 by_cases hv:v<0
 ·rw[if_pos hv];omega
 ·rw[if_neg hv];exact Nat.min_le_right _ _
theorem MH (v:Int)(n d:Nat):(if v<0 then max (v+(n:Int)) 0 else min v (n:Int))=((cJ n d (some v):Nat):Int):=by
 show(if v<0 then max (v+(n:Int)) 0 else min v (n:Int))=(((if v<0 then(v+(n:Int)).toNat else min v.toNat n):Nat):Int)
 by_cases hv:v<0
 ·simp only[if_pos hv];omega
 ·simp only[if_neg hv];omega
theorem OS (lo hi:Option Int)(n:Nat):lb lo hi 1 (n:Int)=(((cJ n 0 lo:Nat):Int),((cJ n n hi:Nat):Int)):=by
 have h1:¬((1:Int)<0):=by omega
 unfold lb
 simp only[h1,if_false]
 refine Prod.ext ?_ ?_
 ·cases lo with
 |none=>rfl
 |some v=>exact MH v n 0
 ·cases hi with
 |none=>rfl
 |some v=>exact MH v n n
theorem OA (i j:Nat):jr (i:Int) (j:Int) 1=j-i:=by
 unfold jr
 have h1:(1:Int)>0:=by omega
 simp only[h1,if_true,Int.ediv_one]
 split<;>omega
theorem DX {v:Value}{o:Option Int}{Q:Option Int->af->Prop}(p:ug v o)(h:Q o s):wpAny (model prog w) A (Builtin.Slice.slicePartIndex v) Q E s:=by
 cases p with
 |none=>exact Qk h
 |int i t=>exact slicePart_int h
theorem qV {sl:Addr}{vl vu:Value}{lo hi:Option Int}{n:Nat}{Q:Int×Int×Nat->af->Prop}(hs:s.heap.IsSliceOf sl vl vu .none)(pl:ug vl lo)(pu:ug vu hi)
 (h:Q (((cJ n 0 lo:Nat):Int),1,cJ n n hi-cJ n 0 lo) s):wpAny (model prog w) A (qj (.ref sl) (pure (n:Int))) Q E s:=by
 obtain⟨os,hos,hcs,hds⟩:=id hs
 unfold qj Builtin.Slice.sliceFields
 refine ae (ae (jz hos hds (x:=vl) rfl (ae (jz hos hds (x:=vu) rfl (ae (jz hos hds (x:=.none) rfl (ao ?_)))))))
 refine ae (Qk ?_)
 show wpAny _ _ (if((1:Int)==0)=true then _ else _) _ _ s
 rw[if_neg (by decide)]
 refine ae (DX pl (ae (DX pu (ae (ao ?_)))))
 show wpAny _ _ (match lb lo hi 1 (n:Int)with|(lo,hi)=>pure (lo,(1:Int),jr lo hi 1)) _ _ s
 rw[OS lo hi n]
 show wpAny _ _ (pure (((cJ n 0 lo:Nat):Int),(1:Int),jr ((cJ n 0 lo:Nat):Int) ((cJ n n hi:Nat):Int) 1)) _ _ s
 rw[OA]
 exact ao h
theorem U8 (xs:Array Value)(i k:Nat):((a9 k).filterMap fun(m:Nat)=>xs[((i:Int)+(m:Int)*1).toNat]?).toArray=((xs.toList.drop i).take k).toArray:=by
 have e:(fun(m:Nat)=>xs[((i:Int)+(m:Int)*1).toNat]?)=fun m=>xs[i+m]?:=by
  funext m
  have:((i:Int)+(m:Int)*1).toNat=i+m:=by omega
  rw[this]
 rw[e]
 have:=pick_run xs i k
 rw[List.filterMap_map]at this
 have e2:((fun x=>xs[x]?)∘fun x=>i+x)=fun m=>xs[i+m]?:=rfl
 rw[e2]at this
 rw[this]
theorem A9 {t sl:Addr}{items:Array Value}{vl vu:Value}{lo hi:Option Int}{Q:Value->af->Prop}(ht:IsTup s.heap t items)(hs:s.heap.IsSliceOf sl vl vu .none)(pl:ug vl lo)(pu:ug vu hi)
  (hw:¬(cJ items.size 0 lo=0/\cJ items.size items.size hi=items.size))
  (h:Q (.ref s.heap.objs.size) { s with heap:=s.heap.push { cls:=.type "tuple", data:=.seq ((items.toList.drop (cJ items.size 0 lo)).take (cJ items.size items.size hi-cJ items.size 0 lo)).toArray } })
  (iZ:items.size<=sizeLine):wpAny (model prog w) A (uh (.ref t) (.ref sl)) Q E s:=by
 have htake:sizeOk (.seq ((items.toList.drop (cJ items.size 0 lo)).take (cJ items.size items.size hi-cJ items.size 0 lo)).toArray):=by
  show((items.toList.drop (cJ items.size 0 lo)).take (cJ items.size items.size hi-cJ items.size 0 lo)).toArray.size<=sizeLine
  rw[aw,ny,td,i9]
  omega
 have hj:cJ items.size items.size hi<=items.size:=Dv _ _ (bb _) hi
 obtain⟨os,hos,hcs,hds⟩:=id hs
 have hTs:s.TypeIs (.ref sl) "slice":=⟨os,hos,hcs⟩
 unfold uh
 try with_reducible refine gf ?_
 first|refine ae (ao ?_)|skip
 refine ae (rh ht.typeIs (by decide) ?_)
 refine ae (h9 (name:=j0 "__getitem__") ht.typeIs gv
  (ff gv ht.typeIs xa ?_ (yc _ _)))
 show wpAny _ _ (gj (.ref t) >>= _) _ _ s
 refine ae (xn ht ?_)
 refine ae (uj hTs ?_)
 rw[if_pos (by decide)]
 refine ae (qV hs pl pu ?_)
 have hno:¬((((cJ items.size 0 lo:Nat):Int)==0&&(1:Int)==1&&(cJ items.size items.size hi-cJ items.size 0 lo)==items.size)=true):=by
  intro q
  rw[ay,ay]at q
  have q1:((cJ items.size 0 lo:Nat):Int)=0:=eq_of_beq q.1.1
  have q2:cJ items.size items.size hi-cJ items.size 0 lo=items.size:=eq_of_beq q.2
  exact hw ⟨by omega,by omega⟩
 show wpAny _ _ (if(((cJ items.size 0 lo:Nat):Int)==0&&(1:Int)==1&&(cJ items.size items.size hi-cJ items.size 0 lo)==items.size)=true then _ else _) _ _ s
 rw[if_neg hno,U8]
 first
  |exact ae (m:=fy _) (gk (ao ⟨_,rfl,ao h⟩) htake)
  |exact ae (m:=fy _) (gk (ae (ao (ao ⟨_,rfl,ao h⟩))) htake)
  |exact ae (ae (m:=fy _) (gk (ao (ao ⟨_,rfl,ao h⟩)) htake))
  |exact ae (ae (m:=fy _) (gk (ao ⟨_,rfl,ao h⟩) htake))
end
end HT
namespace L2
open PySem PySem.Spec PyProof.Rows
noncomputable abbrev TO:=St->Hp->(Option Int->Hp->Prop)->Prop
noncomputable def PO (X:Cx)(e:Option Expr)(t:TO):Prop :=
 ∀(pins:List (Addr×Obj))(s:af)(σ:St)(H:Hp)(Q:Option Int->Hp->Prop),Inv X pins σ H s->t σ H Q ->
 wpAny (model X.prog X.w) X.A (evalPart e X.env) (fun u s'=>∃ o H',Inv X pins σ H' s'/\ug u o/\Q o H') X.xe s
noncomputable def YG:TO:=fun _ H Q=>Q none H
noncomputable def Jj (t:TE):TO:=fun σ H Q=>t σ H fun x H1=>∃ i,x=.int i/\Q (some i) H1
section
variable {X:Cx}{e:Expr}{te:TE}{lo hi:Option Expr}{tl th:TO}{pos p2:Pos}
theorem ZF:PO X none YG:=by
 intro pins s σ H Q I h
 rw[Rb]
 exact ao ⟨none,H,I,.none,h⟩
theorem YT (h:PE X e te):PO X (some e) (Jj te):=by
 intro pins s σ H Q I hw
 rw[evalPart_some]
 refine bE (h pins s σ H _ I hw) fun u s1 ⟨x,H1,I1,r1,q1⟩=>?_
 obtain⟨i,rfl,q⟩:=q1
 obtain⟨t,rfl⟩:=r1
 exact⟨some i,H1,I1,.int i t,q⟩
noncomputable def yP (X:Cx)(r:V->Option Int->Option Int->Hp->VK->Prop):Prop :=
 ∀(pins:List (Addr×Obj))(s:af)(σ:St)(H:Hp)(x:V)(v vl vu:Value)(lo hi:Option Int)(sl:Addr)(Q:VK),Inv X pins σ H s->RelV x v->s.heap.IsSliceOf sl vl vu .none->ug vl lo->ug vu hi->r x lo hi H Q ->
 ∃ T id,qk (.type T) "__getitem__" = pure (some (.builtin id))/\s.TypeIs v T/\wpAny (model X.prog X.w) X.A (uh v (.ref sl)) (EP X pins σ Q) X.xe s
theorem yP.or {r r':V->Option Int->Option Int->Hp->VK->Prop}(h:yP X r)(h':yP X r'):yP X (fun x lo hi H Q=>r x lo hi H Q∨r' x lo hi H Q):=by
 intro pins s σ H x v vl vu lo hi sl Q I rx hs pl pu q
 rcases q with q|q
 ·exact h pins s σ H x v vl vu lo hi sl Q I rx hs pl pu q
 ·exact h' pins s σ H x v vl vu lo hi sl Q I rx hs pl pu q
noncomputable def Pg (r:V->Option Int->Option Int->Hp->VK->Prop)(te:TE)(tl th:TO):TE:=fun σ H Q=>te σ H fun x H1=>tl σ H1 fun l H2=>th σ H2 fun u H3=>r x l u H3 Q
theorem U9 {r:V->Option Int->Option Int->Hp->VK->Prop}(hr:yP X r)(he:PE X e te)(hl:PO X lo tl)(hu:PO X hi th):PE X (.Subscript e (.Slice lo hi none p2) pos) (Pg r te tl th):=by
 intro pins s σ H Q I h
 refine Subscript_ (bE (he pins s σ H _ I h) fun v s1 ⟨x,H1,I1,r1,q1⟩=>?_)
 refine wpAny_Slice (bE (hl pins s1 σ H1 _ I1 q1) fun vl s2 ⟨l,H2,I2,pl,q2⟩=>bE (hu pins s2 σ H2 _ I2 q2) fun vu s3 ⟨u,H3,I3,pu,q3⟩=>?_)
 rw[Rb]
 refine ao ?_
 have I4:Inv X pins σ H3 { s3 with heap:=s3.heap.push { cls:=.type "slice", data:=.fields #[vl,vu,.none] } }:=I3.kept (t':=s3.toks) fun b ob q=>ak _ q
 obtain⟨T,id,hT,ht,hg⟩:=hr pins { s3 with heap:=s3.heap.push { cls:=.type "slice", data:=.fields #[vl,vu,.none] } } σ H3 x v vl vu l u s3.heap.objs.size Q I4 r1 (Heap.IsSliceOf.new ..) pl pu q3
 show wpAny (model X.prog X.w) X.A (Rc e (.Slice lo hi none p2) v (.ref s3.heap.objs.size)) (EP X pins σ Q) X.xe { s3 with heap:=s3.heap.push { cls:=.type "slice", data:=.fields #[vl,vu,.none] } }
 exact tail_any (ops:=[.ref s3.heap.objs.size,v]) ht hT hg (by with_unfolding_all rfl)
noncomputable def FI (xs:List V)(lo hi:Option Int):List V:=(xs.drop (HT.cJ xs.length 0 lo)).take (HT.cJ xs.length xs.length hi-HT.cJ xs.length 0 lo)
theorem BM (xs:List V)(lo hi:Option Int):(FI xs lo hi).length<=xs.length:=by
 unfold FI
 rw[ny,td]
 omega
noncomputable def Fi (K:ab):V->Option Int->Option Int->Hp->VK->Prop:=fun x lo hi H Q=>∃ a xs,x=.ref a/\eS K H a xs /\
 ¬(HT.cJ xs.length 0 lo=0/\HT.cJ xs.length xs.length hi=xs.length)/\∀ p,H p=none->Q (.ref p) (upd H p (.tup (FI xs lo hi)))
theorem K1:yP X (Fi X.K):=by
 intro pins s σ H x v vl vu lo hi sl Q I rx hs pl pu h
 obtain⟨a,xs,rfl,hx,hw,q⟩:=h
 cases rx
 obtain⟨aD,r,ht,hz⟩:=I.tuple hx
 have hlen:aD.toArray.size=xs.length:=by rw[aw];exact r.length.symm
 refine⟨"tuple", _,PyProof.Rows.slot_tuple_getitem.lookup,ht.typeIs,?_⟩
 refine HT.A9 ht hs pl pu (by rw[hlen];exact hw) ?_ (by rw[hlen];exact hz)
 rw[hlen]
 refine⟨.ref s.heap.objs.size,_,I.laid (t':=s.toks) (o:=.tup (FI xs lo hi)) (fun b ob q=>ak _ q) (bb _) ?_,rfl,q _ (I.cG.fresh (bb _))⟩
 exact⟨Nat.le_trans (BM xs lo hi) hz,_,(r.drop (HT.cJ xs.length 0 lo)).take (HT.cJ xs.length xs.length hi-HT.cJ xs.length 0 lo),pX.new _ _⟩
noncomputable def VT (K:ab):R2:=fun x y H Q=>∃ a b xs ys,x=.ref a/\y=.ref b/\eS K H a xs/\eS K H b ys/\xs≠[]/\xs.length+ys.length<=sizeLine /\
 (ys=[]->Q (.ref a) H)/\(ys≠[]->∀ p,H p=none->Q (.ref p) (upd H p (.tup (xs++ys))))
theorem aQ.A4 {xs:List V}{us:List Value}(r:aQ xs us):us=[]↔xs=[]:=by
 cases r with
 |nil=>simp
 |cons _ _=>simp
theorem W4:iJ X (g7 .Add) (VT X.K):=by
 intro pins s σ H x y v u Q I rx ry h
 obtain⟨a,b,xs,ys,rfl,rfl,ha,hb,hx,hz,q1,q2⟩:=h
 cases rx
 cases ry
 obtain⟨aD,r1,p1,_⟩:=I.tuple ha
 obtain⟨nV,r2,p2,_⟩:=I.tuple hb
 refine HT.X1 p1 p2 (fun z=>hx (r1.A4.mp z)) (fun z=>⟨.ref a,H,I,rfl,q1 (r2.A4.mp z)⟩) (fun z=>?_) (by rw[<-r1.length,<-r2.length];exact hz)
 refine⟨.ref s.heap.objs.size,_,I.laid (t':=s.toks) (o:=.tup (xs++ys)) (fun b ob q=>ak _ q) (bb _) ?_,rfl,q2 (fun w=>z (r2.A4.mpr w)) _ (I.cG.fresh (bb _))⟩
 exact⟨by rw[bh];exact hz,_,r1.append r2,pX.new _ _⟩
end
end L2
namespace L2
open PySem PySem.Spec PyProof.Rows
noncomputable def oA (n:Nat)(i:Int):Option Nat:=if 0<=i then(if i<n then some i.toNat else none)else if -(n:Int)<=i then some (i+n).toNat else none
noncomputable def fZ {α:Type}(xs:List α)(i:Int):Option α:=(oA xs.length i).bind fun j=>xs[j]?
theorem MQ {n:Nat}{i:Int}{j:Nat}(h:oA n i=some j):seqIndex? i n=some j/\j<n/\-(n:Int)<=i/\i<n:=by
 unfold oA at h
 by_cases h0:0<=i
 ·rw[if_pos h0]at h
  by_cases h1:i<n
  ·rw[if_pos h1]at h
   have e:i.toNat=j:=dy h
   exact⟨by rw[we h0 h1,e],by omega,by omega,h1⟩
  ·rw[if_neg h1]at h;cases h
 ·rw[if_neg h0]at h
  by_cases h1 : -(n:Int)<=i
  ·rw[if_pos h1]at h
   have e:(i+n).toNat=j:=dy h
   exact⟨by rw[yo (by omega) h1,e],by omega,h1,by omega⟩
  ·rw[if_neg h1]at h;cases h
theorem E9 {α:Type}{xs:List α}{i:Int}{v:α}(h:fZ xs i=some v):∃ j,seqIndex? i xs.length=some j/\xs[j]? = some v/\j<xs.length/\-(xs.length:Int)<=i/\i<xs.length:=by
 unfold fZ at h
 cases e:oA xs.length i with
 |none=>rw[e]at h;cases h
 |some j =>
 rw[e]at h
 obtain⟨h1,h2,h3,h4⟩:=MQ e
 exact⟨j,h1,h,h2,h3,h4⟩
theorem dR {α:Type}{xs:List α}{j:Nat}{v:α}(h:xs[j]? = some v):fZ xs (j:Int)=some v:=by
 have hj:j<xs.length:=(List.getElem?_eq_some_iff.mp h).1
 have e:oA xs.length (j:Int)=some j:=by
  unfold oA
  rw[if_pos (by omega),if_pos (by omega)];simp
 unfold fZ;rw[e];exact h
noncomputable def uG (b:Expr):Prop:=∀ o i,subscripted b false o i=operate [o,i] (uh o i)
noncomputable def xY (X:Cx)(r:R2):Prop :=
 ∀(value slice:Expr)(pins:List (Addr×Obj))(s:af)(σ:St)(H:Hp)(x y:V)(v u:Value)(Q:VK),Inv X pins σ H s->RelV x v->RelV y u->r x y H Q ->
 subscripted slice false v u=operate [v,u] (uh v u)->wpAny (model X.prog X.w) X.A (Rc value slice v u) (EP X pins σ Q) X.xe s
noncomputable def VR (X:Cx)(id:String)(r:V->List V->Hp->VK->Prop):Prop :=
 ∀(pins:List (Addr×Obj))(s:af)(σ:St)(H:Hp)(x:V)(xs:List V)(v:Value)(us:List Value)(Q:VK),Inv X pins σ H s->RelV x v->aQ xs us->r x xs H Q ->
 wpAny (model X.prog X.w) X.A (call (.builtin id) (v::us)) (EP X pins σ Q) X.xe s
section
variable {X:Cx}{a b:Expr}{ta tb:TE}{pos:Pos}
theorem xY.or {r r':R2}(h:xY X r)(h':xY X r'):xY X (fun x y H Q=>r x y H Q∨r' x y H Q):=by
 intro value slice pins s σ H x y v u Q I rx ry q hs
 rcases q with q|q
 ·exact h value slice pins s σ H x y v u Q I rx ry q hs
 ·exact h' value slice pins s σ H x y v u Q I rx ry q hs
theorem VG {r:R2}(hr:xY X r)(ha:PE X a ta)(hb:PE X b tb)(hs:uG b):PE X (.Subscript a b pos) (Ay r ta tb):=by
 intro pins s σ H Q I h
 exact Subscript_ (Ck ha hb I h fun v u s2 x y H2 I2 rx ry q=>hr a b pins s2 σ H2 x y v u Q I2 rx ry q (hs _ _))
noncomputable def By (K:ab):R2:=fun x y H Q=>∃ p xs i v,x=.ref p/\y=.int i/\dQ K H p xs/\fZ xs i=some v/\Q v H
noncomputable def Bq (K:ab):R2:=fun x y H Q=>∃ p xs i v,x=.ref p/\y=.int i/\eS K H p xs/\fZ xs i=some v/\Q v H
noncomputable def Af:R2:=fun x y H Q=>∃ z i c,x=.str z/\y=.int i/\z.length<=sizeLine/\fZ z.cps.toList i=some c/\Q (.str ⟨#[c]⟩) H
theorem WN:xY X (By X.K):=by
 intro value slice pins s σ H x y v u Q I rx ry h hs
 obtain⟨p,xs,i,z,rfl,rfl,hq,he,q⟩:=h
 cases rx
 obtain⟨t,rfl⟩:=ry
 obtain⟨aD,r,pl,hz⟩:=I.list hq
 obtain⟨j,h1,h2,h3,h4,h5⟩:=E9 he
 obtain⟨w,ew,rw'⟩:=r.get h2
 have hl:=r.length
 have hn:=rM
 have fin:EP X pins σ Q w s:=⟨z,H,I,rw',q⟩
 by_cases h0:0<=i
 ·have hj:i.toNat=j:=by
   rw[we h0 h5]at h1
   exact dy h1
  exact item_listR pl.isList h0 (by omega) (by rw[hj];simpa using ew) fin hs
 ·have hj:(i+(aD.toArray.size:Int)).toNat=j:=by
   rw[yo (by omega) h4]at h1
   rw[aw,<-hl]
   exact dy h1
  exact nh (x:=w) pl.isList.typeIs slot_list_getitem.lookup
   (wpAny_getItem_list_neg (Q:=fun r s'=>r=w/\EP X pins σ Q r s') pl.isList (by omega) (by rw[aw]<;>omega) (by omega) (by rw[hj];simpa using ew) ⟨rfl,fin⟩) hs
theorem lK:xY X (Bq X.K):=by
 intro value slice pins s σ H x y v u Q I rx ry h hs
 obtain⟨p,xs,i,z,rfl,rfl,hq,he,q⟩:=h
 cases rx
 obtain⟨t,rfl⟩:=ry
 obtain⟨aD,r,pl,hz⟩:=I.tuple hq
 obtain⟨j,h1,h2,h3,h4,h5⟩:=E9 he
 obtain⟨w,ew,rw'⟩:=r.get h2
 have hl:=r.length
 have hn:=rM
 have fin:EP X pins σ Q w s:=⟨z,H,I,rw',q⟩
 exact nh (x:=w) pl.typeIs slot_tuple_getitem.lookup
  (getItem_tuple (j:=j) (Q:=fun r s'=>r=w/\EP X pins σ Q r s') pl (by omega) (by omega) (by rw[aw,<-hl];exact h1) (by simpa using ew) ⟨rfl,fin⟩) hs
theorem IZ:xY X Af:=by
 intro value slice pins s σ H x y v u Q I rx ry h hs
 obtain⟨z,i,c,rfl,rfl,hz,he,q⟩:=h
 obtain⟨t,rfl⟩:=rx
 obtain⟨t',rfl⟩:=ry
 obtain⟨j,h1,h2,h3,h4,h5⟩:=E9 he
 have hl:z.cps.toList.length=z.length:=by simp [j3]
 rw[hl]at h1 h4 h5
 have hn:=rM
 exact tail_any (typeIs_str s z t) slot_str_getitem.lookup (getItem_str (c:=c) (by
 have e1:decide (i < -(2 ^ 63:Int))=false:=decide_eq_false (by omega)
 have e2:decide (i ≥ 2 ^ 63)=false:=decide_eq_false (by omega)
 rw[e1,e2,xo]) (by rw[h1];simpa using h2) ⟨.str ⟨#[c]⟩,H,I.tok _,⟨_,rfl⟩,q⟩) hs
noncomputable def Lb (K:ab):R2:=fun x y H Q=>By K x y H Q∨Bq K x y H Q∨Af x y H Q
theorem ZU:xY X (Lb X.K):=WN.or (lK.or IZ)
theorem OK (aD:List Value)(n j:Nat)(u:Value):jo (·.setIfInBounds j u) { cls:=.type "list", data:=.seq aD.toArray n } = { cls:=.type "list", data:=.seq (aD.set j u).toArray n }:=by
 simp [jo]
theorem Inv.lst {pins:List (Addr×Obj)}{σ:St}{H:Hp}{s:af}{p:Addr}{xs:List V}(I:Inv X pins σ H s)(h:H p=some (.lst xs)):
 ∃(aD:List Value)(n:Nat),aQ xs aD/\s.heap.get? p=some { cls:=.type "list", data:=.seq aD.toArray n }/\xs.length<=sizeLine:=by
 obtain⟨z,aD,n,r,e⟩:=I.cG p _ h
 exact⟨aD,n,r,e,z⟩
theorem Inv.Et {pins:List (Addr×Obj)}{σ:St}{H:Hp}{s:af}{p:Addr}{xs ys:List V}{aD lR:List Value}{n n':Nat}{f:Obj->Obj}(I:Inv X pins σ H s)(h:H p=some (.lst xs))
  (ho:s.heap.get? p=some { cls:=.type "list", data:=.seq aD.toArray n })(hf:f { cls:=.type "list", data:=.seq aD.toArray n } = { cls:=.type "list", data:=.seq lR.toArray n' })(r:aQ ys lR)(hz:ys.length<=sizeLine)(t:Nat):
  Inv X pins σ (upd H p (.lst ys)) { s with heap:=s.heap.update p f,toks:=t }:=by
 have e:(s.heap.update p f).get? p=some { cls:=.type "list", data:=.seq lR.toArray n' }:=by
  rw[gy f ho (by rw[hf]<;>rfl),hf]
 refine I.write (x:=p) (e:=p) (by rw[h];trivial) (.inl rfl) (fun b u hb q=>(fh _ _ (cz hb)).trans q) ⟨_,e⟩ ?_
 exact⟨hz,lR,n',r,e⟩
noncomputable def Kq:V->V->V->Hp->(Hp->Prop)->Prop:=fun o i v H Q=>∃ p xs k j,o=.ref p/\i=.int k/\H p=some (.lst xs)/\oA xs.length k=some j/\Q (upd H p (.lst (xs.set j v)))
theorem set_list:En X Kq:=by
 intro pins s σ H o i v ov iv u Q I ro ri rv h
 obtain⟨p,xs,k,j,rfl,rfl,hp,hj,q⟩:=h
 cases ro
 obtain⟨t,rfl⟩:=ri
 obtain⟨aD,n,r,ho,hz⟩:=I.lst hp
 obtain⟨h1,h2,h3,h4⟩:=MQ hj
 have hl:=r.length
 have hn:=rM
 have I':Inv X pins σ (upd H p (.lst (xs.set j v))) { s with heap:=s.heap.update p (jo (·.setIfInBounds j u)) } :=
  I.Et hp ho (OK aD n j u) (r.set rv j) (by rw[zv];exact hz) s.toks
 by_cases h0:0<=k
 ·have hk:k.toNat=j:=by
   rw[we h0 h4]at h1
   exact dy h1
  exact PySem.W.ki_setAt ho h0 (by omega) (by rw[aw,<-hl];exact h4) (by rw[hk];exact⟨_,I',q⟩)
 ·have hk:(k+(aD.toArray.size:Int)).toNat=j:=by
   rw[yo (by omega) h3]at h1
   rw[aw,<-hl]
   exact dy h1
  exact PySem.W.ki_setBack ho (by omega) (by rw[aw,<-hl];exact h3) (by omega) (by rw[hk];exact⟨_,I',q⟩)
theorem JF (lo hi:Option Int)(n:Nat):(mh lo hi none n).1=((HT.cJ n 0 lo:Nat):Int)/\(mh lo hi none n).2.1=((HT.cJ n n hi:Nat):Int)/\(mh lo hi none n).2.2=1:=by
 refine⟨?_,?_,rfl⟩
 ·cases lo with
 |none=>simp [mh,HT.cJ]
 |some i =>
  simp only[mh,HT.cJ,zg,show(1:Int)>0 by decide,if_true]
  by_cases h:i<0
  ·simp only[h,if_true]<;>omega
  ·simp only[h,if_false]<;>omega
 ·cases hi with
 |none=>simp [mh,HT.cJ]
 |some i =>
  simp only[mh,HT.cJ,zg,show(1:Int)>0 by decide,if_true]
  by_cases h:i<0
  ·simp only[h,if_true]<;>omega
  ·simp only[h,if_false]<;>omega
theorem HN (aD:List Value)(lo hi:Option Int):slicePick aD.toArray lo hi none=((aD.drop (HT.cJ aD.length 0 lo)).take (HT.cJ aD.length aD.length hi-HT.cJ aD.length 0 lo)).toArray:=by
 obtain⟨h1,h2,h3⟩:=JF lo hi aD.toArray.size
 unfold slicePick
 rw[h1,h2,h3]
 simp only[sliceRange_one,pick_run,aw]<;>rfl
noncomputable def Al (K:ab):V->Option Int->Option Int->Hp->VK->Prop:=fun x lo hi H Q=>∃ a xs,x=.ref a/\dQ K H a xs/\∀ p,H p=none->Q (.ref p) (upd H p (.lst (FI xs lo hi)))
theorem X2:yP X (Al X.K):=by
 intro pins s σ H x v vl vu lo hi sl Q I rx hs pl pu h
 obtain⟨a,xs,rfl,hx,q⟩:=h
 cases rx
 obtain⟨aD,r,ht,hz⟩:=I.list hx
 have hlen:=r.length
 refine⟨"list", _,slot_list_getitem.lookup,ht.isList.typeIs,?_⟩
 refine wpAny_getItem_list_slice ht.isList hs pl pu .none (by simp) ?_ (by rw[aw]<;>omega)
 rw[HN,<-hlen]
 refine⟨.ref s.heap.objs.size,_,I.laid (t':=s.toks) (o:=.lst (FI xs lo hi)) (fun b ob q=>ak _ q) (bb _) ?_,rfl,q _ (I.cG.fresh (bb _))⟩
 exact⟨Nat.le_trans (BM xs lo hi) hz,_,0,(r.drop (HT.cJ xs.length 0 lo)).take (HT.cJ xs.length xs.length hi-HT.cJ xs.length 0 lo),bg _ rfl⟩
theorem KG:iJ X (sj .NotIn) (fun x y H Q=>∃ i j,x=.str i/\y=.str j/\Q (.bl (!(!(me j i 0 j.length 1).isEmpty))) H):=by
 intro pins s σ H x y v u Q I rx ry h
 obtain⟨i,j,rfl,rfl,q⟩:=h
 obtain⟨t,rfl⟩:=rx
 obtain⟨t',rfl⟩:=ry
 exact notIn_str ⟨.bl _,H,I,rfl,q⟩
theorem IB:wH X (.type "list") (fun xs H Q=>∃ p ys,xs=[.ref p]/\(dQ X.K H p ys∨eS X.K H p ys)/\∀ l,H l=none->Q (.ref l) (upd H l (.lst ys))):=by
 intro pins s σ H xs us Q I r h
 obtain⟨p,ys,rfl,hq,q⟩:=h
 obtain⟨u,rfl,rx⟩:=vals1 r
 cases rx
 have fin:∀(aD:List Value),aQ ys aD->ys.length<=sizeLine->∀(h':Heap)(c':Nat),(∀ b o',s.heap.get? b=some o'->h'.get? b=some o') ->
   h'.get? s.heap.objs.size=some { cls:=.type "list", dict:=none,data:=.seq aD.toArray c',slots:=#[] }->EP X pins σ Q (.ref s.heap.objs.size) { s with heap:=h' }:=fun aD r' hz h' c' kp e =>
  ⟨.ref s.heap.objs.size,_,I.laid (t':=s.toks) kp (bb _) (show jV X.prog X.w _ h' _ (.lst ys)from⟨hz,aD,c',r',e⟩),rfl,q _ (I.cG.fresh (bb _))⟩
 rcases hq with hq|hq
 ·obtain⟨aD,r',pl,hz⟩:=I.list hq
  have hlen:=r'.length
  obtain⟨o,ho,hc,n,hd⟩:=pl.isList
  exact Rf p (.inl rfl) ho hc hd (fun h' c' kp e=>fin aD r' hz h' c' kp e) (by simp only[aw]<;>omega)
 ·obtain⟨aD,r',pl,hz⟩:=I.tuple hq
  have hlen:=r'.length
  obtain⟨o,ho,hc,n,hd⟩:=pl
  exact Rf p (.inr rfl) ho hc hd (fun h' c' kp e=>fin aD r' hz h' c' kp e) (by simp only[aw]<;>omega)
theorem xS:wH X (.type "tuple") (fun xs H Q=>∃ p ys,xs=[.ref p]/\((dQ X.K H p ys/\∀ l,H l=none->Q (.ref l) (upd H l (.tup ys)))∨(eS X.K H p ys/\Q (.ref p) H))):=by
 intro pins s σ H xs us Q I r h
 obtain⟨p,ys,rfl,h⟩:=h
 obtain⟨u,rfl,rx⟩:=vals1 r
 cases rx
 rcases h with⟨hq,q⟩|⟨hq,q⟩
 ·obtain⟨aD,r',pl,hz⟩:=I.list hq
  have hlen:=r'.length
  refine call_tuple_list pl.isList (fun h' kp=>?_) (by simp only[aw]<;>omega)
  have I1:Inv X pins σ H { s with heap:=h' }:=I.kept (t':=s.toks) kp
  have I2:Inv X pins σ (upd H h'.objs.size (.tup ys)) { s with heap:=h'.push { cls:=.type "tuple", data:=.seq aD.toArray } } :=
   I1.laid (t':=s.toks) (fun b o e=>ak _ e) (bb _) (show jV X.prog X.w _ _ _ (.tup ys)from⟨hz,aD,r',pX.new _ _⟩)
  exact⟨.ref h'.objs.size,_,I2,rfl,q _ (I1.cG.fresh (bb _))⟩
 ·obtain⟨aD,r',pl,hz⟩:=I.tuple hq
  exact call_tuple_same pl ⟨.ref p,H,I,rfl,q⟩
noncomputable def RZ (K:ab)(T:String)(x:V)(H:Hp):Prop:=match x with
 |.str _=>T ="str"
 |.int _=>T ="int"
 |.ref p=>(T ="list" /\ ∃ xs,dQ K H p xs)∨(T ="tuple" /\ ∃ o,K.lookup p=some o/\o.cls=.type "tuple" /\ o.dict=none) ∨
  (T ="dict" /\ ((∃ iK,H p=some (.dK iK))∨∃ iK,H p=some (.dT iK)))∨(T ="set" /\ ∃ S n,H p=some (.set S n))
 |_=>False
theorem SG {pins:List (Addr×Obj)}{σ:St}{H:Hp}{s:af}{T:String}{x:V}{v:Value}(I:Inv X pins σ H s)(r:RelV x v)(ty:RZ X.K T x H):
  s.TypeIs v T/\∀ a,v=.ref a->∃ ob,s.heap.get? a=some ob/\ob.dict=none:=by
 cases x with
 |str z =>
  obtain⟨t,rfl⟩:=r
  cases (show T ="str" from ty)
  exact⟨typeIs_str s z t,fun _ e=>nomatch e⟩
 |int i =>
  obtain⟨t,rfl⟩:=r
  cases (show T ="int" from ty)
  exact⟨typeIs_int s i t,fun _ e=>nomatch e⟩
 |ref p =>
  cases r
  rcases ty with⟨rfl,xs,hq⟩|⟨rfl,o,hk,hc,hd⟩|⟨rfl,hk⟩|⟨rfl,S,n,hk⟩
  ·obtain⟨aD,_,pl,_⟩:=I.list hq
   refine⟨pl.isList.typeIs,fun a e=>?_⟩
   cases e
   obtain⟨o,n,e,c,hd,_⟩:=pl
   exact⟨o,e,hd⟩
  ·refine⟨⟨o,I.kG p o hk,hc⟩,fun a e=>?_⟩
   cases e
   exact⟨o,I.kG _ o hk,hd⟩
  ·have z:∃ o,s.heap.get? p=some o/\o.ExactDict:=by
    rcases hk with⟨iK,hk⟩|⟨iK,hk⟩
    ·obtain⟨_,_,_,_,o,_,_,e,ex,_⟩:=I.cG p _ hk
     exact⟨o,e,ex⟩
    ·obtain⟨_,_,_,_,o,_,_,e,ex,_⟩:=I.cG p _ hk
     exact⟨o,e,ex⟩
   obtain⟨o,e,ex⟩:=z
   refine⟨⟨o,e,ex.1⟩,fun a e2=>?_⟩
   cases e2
   exact⟨o,e,ex.2.1⟩
  ·obtain⟨o,_,_,_,e,ex,_⟩:=I.cG p _ hk
   refine⟨⟨o,e,ex.1⟩,fun a e2=>?_⟩
   cases e2
   exact⟨o,e,ex.2.1⟩
 |_=>exact i5 ty
noncomputable def Nd (K:ab)(T:String)(r:V->List V->Hp->VK->Prop)(to:TE):TE:=fun σ H Q=>to σ H fun x H1=>RZ K T x H1/\r x [] H1 Q
noncomputable def Pt (K:ab)(T:String)(r:V->List V->Hp->VK->Prop)(to:TE)(t:TA):TE:=fun σ H Q=>to σ H fun x H1=>RZ K T x H1/\t σ H1 fun xs H2=>r x xs H2 Q
variable {o e:Expr}{es:List Expr}{to:TE}{t:TA}{name:Str}{apos kO:Pos}{T id:String}{r:V->List V->Hp->VK->Prop}
theorem Z6 (pa:PlainAttrs T)(slot:Slot T name id)(hty:Sr (.builtin id)=pure (.type "method_descriptor"))(hm:VR X id r)(ho:PE X o to)
 (kA:fx o name X.env (eval o X.env)=eval o X.env:=by rfl)(kB:(apos.endLine==kO.line)=true:=by rfl):PE X (.Call (.Attribute o name apos) [] [] kO) (Nd X.K T r to):=by
 intro pins s σ H Q I h
 refine wpAny_Call_method0_late kA kB (bE (ho pins s σ H _ I h) fun v s1 ⟨x,H1,I1,r1,ty,q1⟩=>?_)
 obtain⟨h1,h2⟩:=SG I1 r1 ty
 exact⟨T,id,pa,slot,hty,h1,h2,ke rfl (PySem.evalArgs_none (hm pins s1 σ H1 x [] v [] Q I1 r1 .nil q1))⟩
theorem Kv (pa:PlainAttrs T)(slot:Slot T name id)(hty:Sr (.builtin id)=pure (.type "method_descriptor"))(hm:VR X id r)(ho:PE X o to)(ha:PA X (e::es) t)
 (kA:fx o name X.env (eval o X.env)=eval o X.env:=by rfl)
 (sF:((dq kO (ar (e::es) X.env)).all (fun x=>!x.1)&&(my kO (jy [] X.env)).all (fun x=>x.1.isSome)
  && decide ((e::es).length+([]:List pz).length+(if([]:List pz).isEmpty then 0 else 1)<30))=true:=by rfl)
 (kB:(apos.endLine==kO.line)=true:=by rfl)(hs:ar (e::es) X.env=(false,eval e X.env)::ar es X.env:=by rfl)(sG:(dq kO (ar es X.env)).any (·.1)=false:=by rfl):
 PE X (.Call (.Attribute o name apos) (e::es) [] kO) (Pt X.K T r to t):=by
 intro pins s σ H Q I h
 refine ur kA sF kB rfl (bE (ho pins s σ H _ I h) fun v s1 ⟨x,H1,I1,r1,ty,q1⟩=>?_)
 obtain⟨h1,h2⟩:=SG I1 r1 ty
 refine⟨T,id,pa,slot,hty,h1,h2,?_⟩
 have hA:=ha kO pins s1 σ H1 _ I1 q1
 rw[hs]at hA ⊢
 refine ke (by show(false||(dq kO (ar es X.env)).any (·.1))=false;rw[sG]<;>rfl) (om ?_)
 exact bE hA fun us s2 ⟨vs,H2,I2,r2,q2⟩=>hm pins s2 σ H2 x vs v us Q I2 r1 r2 q2
end
end L2
namespace L2
open PySem PySem.Spec PyProof.Rows
noncomputable def Ez (X:Cx)(id:String)(r:V->List V->Hp->VK->Prop):Prop :=
 ∀(pins:List (Addr×Obj))(s:af)(σ:St)(H:Hp)(x:V)(xs:List V)(v:Value)(us:List Value)(Q:VK),Inv X pins σ H s->RelV x v->aQ xs us->r x xs H Q ->
 wpAny (model X.prog X.w) X.A (call (.builtin id) (v::us)) (EP X pins σ Q) X.xe s
theorem aQ.one:∀{x:V}{us:List Value},aQ [x] us->∃ u,us=[u]/\RelV x u
 |_,_,.cons r .nil=>⟨_,rfl,r⟩
theorem aQ.zero:∀{us:List Value},aQ [] us->us=[]
 |_,.nil=>rfl
theorem aQ.dropLast {xs:List V}{us:List Value}(h:aQ xs us):aQ xs.dropLast us.dropLast:=by
 induction h with
 |nil=>exact .nil
 |cons r t ih =>
 cases t with
 |nil=>exact .nil
 |cons q t'=>exact .cons r ih
theorem aQ.reverse {xs:List V}{us:List Value}(h:aQ xs us):aQ xs.reverse us.reverse:=by
 induction h with
 |nil=>exact .nil
 |cons r t ih=>rw[kn,kn];exact aQ.append ih (.cons r .nil)
theorem aQ.rep {xs:List V}{us:List Value}(h:aQ xs us):∀ k:Nat,aQ (ai k xs).flatten (ai k us).flatten
 |0=>.nil
 |k+1=>by
  rw[gq,gq,ko,ko]
  exact aQ.append h (aQ.rep h k)
theorem OC {α:Type}(l:List α):l.eraseIdx (l.length-1)=l.dropLast:=by
 induction l with
 |nil=>rfl
 |cons a r ih =>
  cases r with
  |nil=>rfl
  |cons b r =>
   have e:(a::b::r).length-1=((b::r).length-1)+1:=by
    have h1:(a::b::r).length=r.length+2:=rfl
    have h2:(b::r).length=r.length+1:=rfl
    omega
   rw[e,List.eraseIdx_cons_succ,ih]
   all_goals rfl
theorem w8 (aD:List Value):∀(k:Nat)(acc:List Value),
  nz (fun x1 x2=>x1++x2) acc.toArray (ai k aD.toArray)=(acc++(ai k aD).flatten).toArray
 |0,acc=>by simp
 |k+1,acc=>by
  have e:acc.toArray++aD.toArray=(acc++aD).toArray:=by simp
  have e2:(acc++aD)++(ai k aD).flatten=acc++(ai (k+1) aD).flatten:=by
   rw[gq,ko,ni]
  rw[<-e2,<-w8 aD k (acc++aD),<-e,gq,l0]
section
variable {X:Cx}{pins:List (Addr×Obj)}{σ:St}{H:Hp}{s:af}{l b:Addr}{xs ys zs:List V}
theorem Inv.NO {aD lR:List Value}{n:Nat}{f:Array Value->Array Value}{t':Nat}(I:Inv X pins σ H s)(hH:H l=some (.lst xs))
 (e:s.heap.get? l=some { cls:=.type "list", data:=.seq aD.toArray n })(hf:f aD.toArray=lR.toArray)(hv:aQ ys lR)(hz:ys.length<=sizeLine):
 Inv X pins σ (upd H l (.lst ys)) { s with heap:=s.heap.update l (jo f),toks:=t' }:=by
 have q:=PySem.IsL.update e f
 rw[hf]at q
 refine I.write (x:=l) (e:=l) (by rw[hH];exact trivial) (.inl rfl) (fun b' u hb hu=>(fh s.heap (jo f) (cz hb)).trans hu) ⟨_,q⟩ ?_
 exact⟨hz,lR,_,hv,q⟩
theorem Inv.U2 {aD:List Value}{t':Nat}(I:Inv X pins σ H s)(hv:aQ ys aD)(hz:ys.length<=sizeLine):
 Inv X pins σ (upd H s.heap.objs.size (.lst ys)) { s with heap:=s.heap.push { cls:=.type "list", data:=.seq aD.toArray },toks:=t' } :=
 I.laid (fun _ _ q=>ak _ q) (bb _) ⟨hz,aD,0,hv,bg _ rfl⟩
theorem Inv.fresh (I:Inv X pins σ H s):H s.heap.objs.size=none:=I.cG.fresh (bb _)
theorem Inv.wM (I:Inv X pins σ H s)(hH:H l=some (.lst xs)):xs.length<=sizeLine/\∃(aD:List Value)(n:Nat),aQ xs aD/\xs.length=aD.length/\s.heap.get? l=some { cls:=.type "list", data:=.seq aD.toArray n }:=by
 obtain⟨z,aD,n,r,e⟩:=I.cG l _ hH
 exact⟨z,aD,n,r,r.length,e⟩
theorem CG {n:Nat}(h:n<=sizeLine):dt n=false:=by
 unfold dt
 exact decide_eq_false (by omega)
end
section
variable {X:Cx}
noncomputable def YR:V->List V->Hp->VK->Prop:=fun x vs H Q=>∃ l xs y,x=.ref l/\vs=[y]/\H l=some (.lst xs)/\xs.length<sizeLine/\Q .non (upd H l (.lst (xs++[y])))
theorem sT:Ez X "list.append" YR:=by
 intro pins s σ H x vs v us Q I rx rv h
 obtain⟨l,xs,y,rfl,rfl,hH,hz,q⟩:=h
 cases rx
 obtain⟨u,rfl,ru⟩:=rv.one
 obtain⟨z,aD,n,r,hl,e⟩:=I.wM hH
 refine l6 F.slot_list_append ⟨_,e,rfl⟩ F.entry_list_append (F.args_list_append_2 _ _) (PySem.list_append l aD.toArray n u (by rw[aw];omega)) ⟨e,?_⟩
 refine⟨.non,_,I.NO (lR:=aD++[u]) hH e (by simp) (r.append (.cons ru .nil)) ?_,rfl,q⟩
 rw[bh,List.length_singleton]
 omega
noncomputable def XA:V->List V->Hp->VK->Prop:=fun x vs H Q=>∃ l b xs zs,x=.ref l/\vs=[.ref b]/\H l=some (.lst xs)/\H b=some (.lst zs)/\xs.length+zs.length<=sizeLine/\Q .non (upd H l (.lst (xs++zs)))
theorem yU:Ez X "list.extend" XA:=by
 intro pins s σ H x vs v us Q I rx rv h
 obtain⟨l,b,xs,zs,rfl,rfl,hH,hB,hz,q⟩:=h
 cases rx
 obtain⟨u,rfl,ru⟩:=rv.one
 cases ru
 obtain⟨z,aD,n,r,hl,e⟩:=I.wM hH
 obtain⟨z2,nV,n2,r2,hl2,e2⟩:=I.wM hB
 have iZ:aD.toArray.size+nV.toArray.size<=sizeLine:=by rw[aw,aw];omega
 have hlong:¬(!aD.toArray.isEmpty&&dt (aD.toArray.size+nV.toArray.size))=true:=by
  rw[CG iZ,bu]
  exact dr
 refine l6 yd ⟨_,e,rfl⟩ xb (wg _ _)
  (AutoSeq1.list_extend_list_list_0 l aD.toArray n b nV.toArray n2 hlong (by rw[aw];omega) (by omega)) ⟨e,e2,?_⟩
 refine⟨.non,_,I.NO (lR:=aD++nV) hH e (by simp) (r.append r2) ?_,rfl,q⟩
 rw[bh]
 omega
noncomputable def Nu:V->List V->Hp->VK->Prop:=fun x vs H Q=>∃ l xs y,x=.ref l/\vs=[]/\H l=some (.lst xs)/\xs[xs.length-1]? = some y/\Q y (upd H l (.lst xs.dropLast))
theorem LD:Ez X "list.pop" Nu:=by
 intro pins s σ H x vs v us Q I rx rv h
 obtain⟨l,xs,y,rfl,rfl,hH,hy,q⟩:=h
 cases rx
 have hus:=rv.zero
 subst hus
 obtain⟨z,aD,n,r,hl,e⟩:=I.wM hH
 obtain⟨u,hu,ru⟩:=r.get hy
 have hy':aD.toArray[aD.toArray.size-1]? = some u:=by
  show aD.toArray[aD.length-1]? = some u
  rw[<-Array.getElem?_toList,<-hl]
  exact hu
 refine l6 F.slot_list_pop ⟨_,e,rfl⟩ F.entry_list_pop (F.args_list_pop_1 _) (MeetsSeq.list_pop_last l aD.toArray n u hy' (by rw[aw];omega)) ⟨e,?_⟩
 refine⟨y,_,I.NO (lR:=aD.dropLast) hH e ?_ r.dropLast ?_,ru,q⟩
 ·show aD.toArray.eraseIdxIfInBounds (aD.toArray.size-1)=aD.dropLast.toArray
  rw[aw,List.eraseIdxIfInBounds_toArray,OC]
 ·rw[List.length_dropLast]
  omega
noncomputable def Aj:R2:=fun x y H Q=>∃ l b xs zs,x=.ref l/\y=.ref b/\H l=some (.lst xs)/\H b=some (.lst zs)/\xs.length+zs.length<=sizeLine/\∀ p,H p=none->Q (.ref p) (upd H p (.lst (xs++zs)))
theorem Ec:iJ X (g7 .Add) Aj:=by
 intro pins s σ H x y v u Q I rx ry h
 obtain⟨l,b,xs,zs,rfl,rfl,hH,hB,hz,q⟩:=h
 cases rx
 cases ry
 obtain⟨z,aD,n,r,hl,e⟩:=I.wM hH
 obtain⟨z2,nV,n2,r2,hl2,e2⟩:=I.wM hB
 refine PySem.P.add_list e e2 ?_ (by rw[aw,aw];omega)
 have ea:aD.toArray++nV.toArray=(aD++nV).toArray:=by simp
 rw[ea]
 exact⟨.ref _,_,I.U2 (t':=s.toks) (r.append r2) (by rw[bh];omega),rfl,q _ I.fresh⟩
noncomputable def Fd:R2:=fun x y H Q=>∃ l k xs,x=.ref l/\y=.int k/\H l=some (.lst xs)/\-(2 ^ 63)<=k/\k<2 ^ 63/\xs.length*k.toNat<=sizeLine /\
 ∀ p,H p=none->Q (.ref p) (upd H p (.lst (ai k.toNat xs).flatten))
theorem len_rep {α:Type}(xs:List α)(k:Nat):(ai k xs).flatten.length=k*xs.length:=by
 induction k with
 |zero=>simp
 |succ k ih=>rw[gq,ko,bh,ih,Nat.succ_mul,Nat.add_comm]
theorem Bj:iJ X (g7 .Mult) Fd:=by
 intro pins s σ H x y v u Q I rx ry h
 obtain⟨l,k,xs,rfl,rfl,hH,h1,h2,hz,q⟩:=h
 cases rx
 obtain⟨t,rfl⟩:=ry
 obtain⟨z,aD,n,r,hl,e⟩:=I.wM hH
 have hlen:aD.toArray.size*k.toNat<=sizeLine:=by rw[aw,<-hl];exact hz
 have hcap:¬aD.toArray.size*k.toNat>(2 ^ 63-1) / 8:=by
  have:(sizeLine:Nat)<=(2 ^ 63-1) / 8:=by decide
  omega
 have nW:¬(!Builtin.List.listFitsIndex k)=true:=by
  rw[Ql h1 h2]
  exact dr
 have hlong:¬dt (aD.toArray.size*k.toNat)=true:=by
  rw[CG hlen]
  exact dr
 have hnew:nz (fun x1 x2=>x1++x2) #[] (ai (if aD.toArray.isEmpty=true then 0 else k.toNat) aD.toArray)=(ai k.toNat aD).flatten.toArray:=by
  have f0:∀ m:Nat,nz (fun x1 x2=>x1++x2) #[] (ai m aD.toArray)=(ai m aD).flatten.toArray:=fun m=>by
   have:=w8 aD m []
   rw[az]at this
   exact this
  rw[f0]
  cases aD with
  |nil=>simp
  |cons a r'=>rw[if_neg (by simp)]
 refine qw (T :="list") (U :="int") (by decide) ⟨_,e,rfl⟩ (fun s'=>ye s' k t) noFill_list_mul F.fills_int_mul zw repeat_list F.slot_int_index.lookup
  (l6 zw (ye s k t) F.entry_int_rmul (F.args_int_rmul_2 _ _) (int___rmul___int_list k t l aD.toArray n)
   ⟨e,rfl,⟨_,e,rfl⟩,l6 F.slot_list_mul ⟨_,e,rfl⟩ F.entry_list_mul (F.args_list_mul_2 _ _) (AutoListH.list___mul___list_int_3 l aD.toArray n k t nW hcap hlong) ⟨e,?_⟩⟩)
 rw[hnew]
 exact⟨.ref _,_,I.U2 (t':=s.toks) (r.rep k.toNat) (by rw[len_rep,Nat.mul_comm];exact hz),rfl,q _ I.fresh⟩
end
end L2
namespace Att
open PySem PySem.W PySem.Calls PyProof.Rows
theorem D1 {P:Ss}{h:Heap}:∀(ns:List Int)(vs:List Value),WellAll P h vs (ns.map WData.int)->uu vs ns:=by
 intro ns
 induction ns with
 |nil =>
 intro vs w
 rw[e9]at w
 cases w
 exact .nil
 |cons n ns ih =>
 intro vs w
 rw[av]at w
 cases w with
 |cons a b =>
  cases a
  exact .cons _ _ (ih _ b)
theorem QO {l:Ta}{n:Nat}(hn:l.most=some n){P:Ss}{h:Heap}{args:List WData}{vals:List Value}
  (hpre:l.row.toRowW.claim.pre args=true)(hwl:WellAll P h vals args):
  ∃ a vs ns,vals=[gz a]/\args=[WData.list (ns.map WData.int)]/\h.get? a=some { cls:=.type "list", data:=.seq vs.toArray }/\uu vs ns/\ns.length<=n:=by
 have hsh:WShape.hasAll [] args [.list .int]=true:=(pre_splitW hpre).1
 have hc:l.pre.holds [] { args:=args }=true:=(pre_splitW hpre).2
 obtain⟨d,r,rfl,h1,h2⟩:=hasAllW_cons hsh
 obtain rfl:=hasAllW_nil h2
 obtain⟨xs,rfl,h3⟩:=hasW_list h1
 obtain⟨ns,rfl⟩:=items_int h3
 have hlen:ns.length<=n:=by
  unfold OpenLaw.pre at hc
  have h4:(WTm.not (.lt (.lit (.int (n:Int))) (.len (.arg 0)))).holds [] { args:=[.list (ns.map .int)] }=true:=by
   have h4:=(holds_andW hc).1
   rw[hn]at h4
   exact h4
  have h5:=condW_of h4 (w_not (w_lt w_lit (w_len_list (w_arg rfl))))
  rw[aa]at h5
  refine zh fun q=>?_
  have q':(n:Int)<((ns.length:Nat):Int):=by omega
  first
   |(rw[decide_eq_true q']at h5;exact absurd h5 (by decide))
   |(simp at h5;omega)
 cases hwl with
 |cons w1 w2 =>
  cases w2
  cases w1 with
  |list ho qD=>exact⟨_,_,ns,rfl,rfl,ho,D1 ns _ qD,hlen⟩
theorem R0 (l:Ta)(args:List WData):l.row.toRowW.claim.post args (.bool true) args=true :=
 postW_of (r:=l.row.toRowW) (X:=(true==true))
 (show WShape.has [] (.bool true) .bool=true by first|rfl|decide|simp [WShape.has,WShape.arms,WShape.armsAll])
 (show(WTm.eq .res (.lit (.bool true))).value [] { args:=args,res:=some (.bool true),after:=args }=some (.bool (true==true))from w_eq_bool (w_res rfl) w_lit) rfl
theorem MA {l:Ta}{n:Nat}{q:br}{loose:List Str}{XP:(Str->Option Value)->Heap->Prop}{YP:World->Heap->Prop}{d:DefRec}
 (hn:l.most=some n)(hdf:d.params.defaults=[])
 (call:∀(w:World)(s₀ s₁:af)(mg mb:Str->Option Value)(fa:Addr)(o:Obj)(pm cd doc:Value)(a:Addr)(vs:List Value)(ns:List Int),
  Ground q loose [] XP w s₀ mg mb s₁.heap->YP w s₁.heap ->
  s₁.heap.get? fa=some o->o.data=.func (docDef d.name d.params d.body d.scope pm cd doc)->s₁.heap.CodeRec cd d.name->mg d.name=some (.ref fa) ->
  s₁.heap.get? a=some { cls:=.type "list", data:=.seq vs.toArray }->uu vs ns->ns.length<=n->s₁.gens = #[] ->
  kv (model l.prog w) uw (.call (.ref fa) ⟨[.ref a],[]⟩) (fun r s'=>r=.ok (.ret (.bool true))/\OldK s₁.heap s'.heap/\s'.os=s₁.os/\rb s'.gens) s₁):
 WalkO q loose XP YP l.row.toRowW d [] (fun f vs=>Qm f vs):=by
 intro w s₀ s₁ mg mb G Y fa o pm cd doc dV kV ho hd hcd hD hmg hg args vals as hpre hlay hrd hwl hlo
 obtain rfl:dV=.none:=Dflts.none hD hdf
 obtain rfl:kV=.none:=Dflts.noKw hD
 obtain⟨a,vs,ns,rfl,rfl,hobj,hints,hlen⟩:=QO hn hpre hwl
 refine enter_call (mz (call w s₀ s₁ mg mb fa o pm cd doc a vs ns G Y ho (fd_plain hd) hcd hmg hobj hints hlen hg) fun r s' hq=>?_)
 obtain⟨rfl,h2,h3,h4⟩:=hq
 exact⟨.inl ⟨.bool true,.bool true,[],rfl,fun _=>rfl,.bool true,R0 l _,fun _=>⟨List.Pairwise.nil,fun _ hm=>(nomatch hm)⟩⟩,h2,h3,h4⟩
end Att
namespace L2
open PySem PySem.Spec PyProof.Rows
theorem GB:∀{vs:List Value}{ns:List Int},uu vs ns->aQ (ns.map V.int) vs
 |_,_,.nil=>.nil
 |_,_,.cons n t h=>.cons ⟨t,rfl⟩ (GB h)
noncomputable def NQ (H:Hp):Prop:=∀ b,H b=none∨∃ o xs,H b=some (.frz o (.lst xs))
theorem U3 {P:br}{w:World}{K:ab}{mg mb:Str->Option Value}{CX:xT}{k:Nat}{fa a:Addr}{fd:gw}{x:Str}{sp:Sp}{s₁:af}{vs:List Value}{ns:List Int}
  (KX:K.In s₁.heap)(hns:s₁.heap.Ns cj mg)(hb:s₁.heap.Ns Qg mb)(hbb:∀ x:Str,x ≠"__name__" -> mb x=cf x)(hlim:s₁.heap.NoLimit)(hg:s₁.gens = #[])
  (ha:s₁.heap.get? a=some { cls:=.type "list", data:=.seq vs.toArray })(hi:uu vs ns)(hl:ns.length<=sizeLine)(hr:dS k uw)
  (F:∀ base:Heap,K.In base->base.Ns cj mg->fA P w K mg base CX k fa fd [x] sp)(hbind:∀(s:af)(u:Value),w6 s fd ⟨[u],[]⟩ [(x,u)])
  (hsp:∀ H:Hp,NQ H->dQ K H a (ns.map V.int)->sp [.ref a] H (fun v _=>v=.bl true) fun _ _ _=>False)
  (hCX:∀ H e s',CX [] H s₁ (fun _ _ _=>False) e s'->False):
  kv (model P w) uw (.call (.ref fa) ⟨[.ref a],[]⟩) (fun r s'=>r=.ok (.ret (.bool true))/\OldK s₁.heap s'.heap/\s'.os=s₁.os/\rb s'.gens) s₁:=by
 have rv:=GB hi
 have lenV:=hi.length
 have core:∀ H:Hp,NQ H->dQ K H a (ns.map V.int)->jF P w H s₁.heap->(∀ b,H b≠none->b=a)->(H a≠none->K.lookup a=none) ->
   kv (model P w) uw (.call (.ref fa) ⟨[.ref a],[]⟩) (fun r s'=>r=.ok (.ret (.bool true))/\OldK s₁.heap s'.heap/\s'.os=s₁.os/\rb s'.gens) s₁:=by
  intro H hO hS cG hA hK
  have base_of:∀{b:Addr}{o:Obj},s₁.heap.get? b=some o->H b=none->(vY s₁.heap H).get? b=some o:=fun e n=>S1 e n
  have noA:∀{b:Addr}{o:Obj}{es:Array DictEntry}{ep:Nat},s₁.heap.get? b=some o->o.data=.dict es ep->H b=none:=fun{b o es ep} e d=>by
   cases q:H b with
   |none=>rfl
   |some u =>
    have e':b=a:=hA b (by rw[q];simp)
    subst e'
    rw[ha]at e;cases e
    have d':Data.seq vs.toArray _=Data.dict es ep:=d
    cases d'
  have nsK:∀{b:Addr}{m:Str->Option Value},s₁.heap.Ns b m->(vY s₁.heap H).Ns b m:=fun{b m} ⟨o,es,ep,e,d,r⟩=>⟨o,es,ep,base_of e (noA e d),d,r⟩
  have hKb:K.In (vY s₁.heap H):=fun b o e=>base_of (KX b o e) (by
   cases q:H b with
   |none=>rfl
   |some u =>
    have e':b=a:=hA b (by rw[q];simp)
    subst e'
    rw[hK (by rw[q];simp)]at e;cases e)
  have hM:Mod K mg (vY s₁.heap H):=⟨hKb,nsK hns,⟨mb,nsK hb,hbb⟩,let⟨mc,h1,h2⟩:=hlim;⟨mc,nsK h1,h2⟩⟩
  have e0:B8 P w K mg (vY s₁.heap H) uw [] s₁ H:=⟨rfl,hM,fun b o e=>ZJ e,Rr (RI _ _),trivial,fun b hb=>absurd (show b∈([]:List Addr)from hb) (by simp),cG,.of_eq hg⟩
  refine mz ((F _ hKb (nsK hns)).run uw [] s₁ H ⟨[.ref a],[]⟩ [.ref a] [.ref a] _ _ hr e0 (hbind s₁ (.ref a)) (.cons rfl .nil) (hsp H hO hS)) fun r s' h=>?_
  cases r with
  |error e=>exact(hCX H e s' h).elim
  |ok fl =>
   cases fl with
   |next=>exact i5 h
   |brk=>exact i5 h
   |cont=>exact i5 h
   |ret u =>
    obtain⟨v,H',os,bare,un,hok',r',q⟩:=h
    have q':v=.bl true:=q
    subst q'
    obtain rfl:u=qb true:=r'
    refine⟨rfl,OldK.of_keep fun b o e=>?_,os,bare⟩
    cases q:H b with
    |none=>exact un.keep b o e q (by intro z;exact absurd (show b∈([]:List Addr)from z) (by simp)) (by simp)
    |some u =>
     rcases hO b with z|⟨ob,xs,z⟩
     ·rw[q]at z;cases z
     ·have z2:=un.uD b ob _ z
      obtain⟨e1,_⟩:=cG b _ z
      obtain⟨e2,_⟩:=hok' b _ z2
      rw[e]at e1;cases e1
      exact e2
 cases hk:K.lookup a with
 |some o =>
  have e:=KX a o hk
  rw[ha]at e
  cases e
  refine core (fun _=>none) (fun _=>.inl rfl) (.inr ⟨_,vs.toArray,_,hk,rfl,rfl,rfl,by rw[aw,lenV];exact hl,by simpa using rv⟩) (fun b u z=>by have z':(none:Option HO)=some u:=z;cases z') (fun b z=>absurd rfl z) fun z=>absurd rfl z
 |none =>
  refine core (fun b=>if b=a then some (.frz { cls:=.type "list", data:=.seq vs.toArray } (.lst (ns.map V.int)))else none) (fun b=>?_) (.inl (.inr ⟨{ cls:=.type "list", data:=.seq vs.toArray },if_pos rfl⟩)) (fun b u z=>?_) (fun b z=>?_) fun _=>hk
  ·by_cases hb:b=a
   ·exact .inr ⟨_,_,if_pos hb⟩
   ·exact .inl (if_neg hb)
  ·by_cases hb:b=a
   ·have z':=(if_pos hb).symm.trans z
    cases z'
    subst hb
    exact⟨ha,by rw[aa];exact hl,vs,_,rv,ha⟩
   ·have z':=(if_neg hb).symm.trans z
    cases z'
  ·by_cases hb:b=a
   ·exact hb
   ·exact absurd (if_neg hb) z
end L2
namespace L2
open PySem PySem.Spec PyProof.Rows
theorem XU {l:zx}{n k:Nat}{q:br}{loose:List Str}{XP:(Str->Option Value)->Heap->Prop}{YP:World->Heap->Prop}{d:DefRec}{K:Ss->ab}{CX:World->xT}{sp:World->Sp}{x:Str}
 (hn:l.most=some n)(hn2:n<=sizeLine)(hdf:d.params.defaults=[])(hr:dS k uw)
 (hY:∀(w:World)(h:Heap),YP w h->(K w.params).In h)
 (F:∀(w:World)(mg:Str->Option Value)(fa:Addr)(h:Heap),(K w.params).In h->h.Ns cj mg->mg d.name=some (.ref fa) ->
  ∃ fd:gw,(∀(s:af)(u:Value),w6 s fd ⟨[u],[]⟩ [(x,u)]) /\
  ∀ base:Heap,(K w.params).In base->base.Ns cj mg->fA l.prog w (K w.params) mg base (CX w) k fa fd [x] (sp w))
 (hsp:∀(w:World)(H:Hp)(a:Addr)(ns:List Int),ns.length<=n->NQ H->dQ (K w.params) H a (ns.map V.int)->sp w [.ref a] H (fun v _=>v=.bl true) fun _ _ _=>False)
 (hCX:∀(w:World)(H:Hp)(s:af)(e:Value)(s':af),CX w [] H s (fun _ _ _=>False) e s'->False):
 Rg q loose XP YP l.row.toRowW d [] (fun f vs=>Qm f vs):=by
 refine Att.MA hn hdf fun w s₀ s₁ mg mb fa o pm cd doc a vs ns G Y ho hd hcd hmg hobj hints hlen hg=>?_
 have KX:=hY w _ Y
 obtain⟨fd,hb,hF⟩:=F w mg fa _ KX G.T.g hmg
 exact U3 KX G.T.g G.T.b G.T.builtins G.T.nolimit hg hobj hints (bz hlen hn2) hr hF hb (fun H hO hS=>hsp w H a ns hlen hO hS) fun H e s'=>hCX w H s₁ e s'
end L2
namespace L2
open PySem PySem.Spec PyProof.Rows
noncomputable def mU (s:Stmt):Arguments:=match s with
 |.FunctionDef _ a _ _ _ _ _ _ _ _=>a
 |_=>{ posonlyargs:=[],args:=[],vararg:=none,kwonlyargs:=[],kw_defaults:=[],kwarg:=none,defaults:=[] }
noncomputable def jH (s:Stmt):List Stmt:=match s with
 |.FunctionDef _ _ b _ _ _ _ _ _ _=>b
 |_=>[]
noncomputable def aR (s:Stmt):Scope:=match s with
 |.FunctionDef _ _ _ _ _ _ sc _ _ _=>sc
 |_=>{ kind:=.function,names:=[],isGenerator:=false,isCoroutine:=false }
noncomputable abbrev iD:xT:=fun _ _ _ _ _ _=>False
noncomputable abbrev E0:XK:=fun _ _ _=>False
theorem OJ {X:Cx}:sD iD X E0:=fun _ _ _ _ _ _ _ h=>h.elim
structure ED (K:ab)(x qual:Str)(st:Stmt)(f:Addr)(fd:gw):Prop where
 ex:∃(oc:Value)(od:Option Addr)(kV doc pm:Value)(an:Option Addr)(bM ct:Value)(osl:Array (Option Value)),
 fd=je x qual (mU st) (jH st) (aR st) .none kV doc pm an bM ct/\K.lookup f=some ⟨oc,od,.func fd,osl⟩/\kr K bM qual=true
 kp:fw K (.ref f)=true
section
variable {P:br}{w:World}{K:ab}{mg:Str->Option Value}{base:Heap}
theorem ED.ok {x qual:Str}{st:Stmt}{f:Addr}{fd:gw}{N ps:List Str}{k:Nat}{sp:Sp}(F:ED K x qual st f fd)(S:vD N ps (aR st))(len:∀ vs H Q E,sp vs H Q E->vs.length=ps.length)
 (hbody:∀(bM:Value)(A:cg)(outer:List Env)(s:af)(H:Hp)(vs:List V)(Q:VK)(E:XK),dS k (A.deeper (qi qual (aR st) s.heap.objs.size f bM))->sp vs H Q E ->
  ∃ t,lI (nL iD P w K mg base N qual (aR st) f bM A outer s H E).yB (jH st) t/\t { nx:=fun _ H'=>Q .non H',rt:=Q } (start N vs) H):fA P w K mg base iD (k+1) f fd ps sp:=by
 obtain⟨oc,od,kV,doc,pm,an,bM,ct,osl,rfl,lk,hcd⟩:=F.ex
 refine Ho lk hcd S len fun A outer s H vs Q E hr hsp=>?_
 obtain⟨t,h,q⟩:=hbody bM A outer s H vs Q E hr hsp
 exact⟨t,h.yB,q⟩
theorem ED.binds {x qual:Str}{st:Stmt}{f:Addr}{fd:gw}{ps:List Str}(F:ED K x qual st f fd)
 (h:∀(kV doc pm:Value)(an:Option Addr)(bM ct:Value)(us:List Value),us.length=ps.length->Sd (je x qual (mU st) (jH st) (aR st) .none kV doc pm an bM ct) ⟨us,[]⟩=pure (ps.zip us)):Binds K fd ps []:=by
 obtain⟨oc,od,kV,doc,pm,an,bM,ct,osl,rfl,lk,hcd⟩:=F.ex
 exact .all (h kV doc pm an bM ct)
theorem IV {x qual:Str}{st:Stmt}{f:Addr}{oc:Value}{od an:Option Addr}{osl:Array (Option Value)}{kV doc pm bM ct:Value}(l:K.lookup f=some ⟨oc,od,.func (je x qual (mU st) (jH st) (aR st) .none kV doc pm an bM ct),osl⟩)
 (c:kr K bM qual=true)(k:fw K (.ref f)=true):ED K x qual st f (je x qual (mU st) (jH st) (aR st) .none kV doc pm an bM ct):=⟨⟨oc,od,kV,doc,pm,an,bM,ct,osl,rfl,l,c⟩,k⟩
end
theorem R7 {n:Nat}(h:n<=1000):n<sizeLine:=qm h (by decide)
section
variable {X:Cx}
theorem pv (i:Nat){x:Str}{pos:Pos}(hN:X.N[i]? = some x:=by rfl)(hv:Dl X.env.scope x:=by first|exact Or.inl rfl|exact Or.inr (Or.inl rfl)|exact Or.inr (Or.inr rfl))(hd:(x==("__debug__" : Str))=false:=by decide)
 (hcd:(x==("__classdict__" : Str))=false:=by decide):PE X (.Name x pos) (SW i):=Ed hN hv hd hcd
end
end L2
end
section
namespace L3
inductive D where
 |non|bl (b:Bool)|int (i:Int)|str (x:List Nat)|tup (ds:List D)|ref (a:Nat)|dA (ks vs:List D)|bP (ds:List D)|exc (c:Nat)
inductive MO where
 |lst (ds:List D)
 |dic (ks vs:List D)
 /-- an instance of the class of this name: aD attributes -/
 |ins (c:List Nat)(fs:List (List Nat×D))
 /-- a dict that is filled: aD keys are tuples of texts and of such tuples -/
 |tab (ks vs:List D)
noncomputable abbrev aB:=Nat->Option MO
noncomputable def put (st:aB)(a:Nat)(o:MO):aB:=fun b=>if b=a then some o else st b
inductive uJ where
 |add|sub|mul|fdiv|mod|pow
inductive rD where
 |eq|ne|lt|le|gt|ge|is_|isnot|in_|fX
inductive Ty where
 |int|str|bool|list|tuple|dict|err (c:Nat)
inductive BI where
 |len|all|any|max|min|sum|abs|list|tuple|int|str|bool|sH|sorted
inductive MT where
 |append|extend|pop|index|count|join|split|get|insert|remove
inductive IK where
 |range|zip|enum|rev|items|keys|values
inductive Ex where
 |c (d:D)|v (i:Nat)
 |tup (es:List Ex)|lst (es:List Ex)
 |bin (op:uJ)(a b:Ex)|neg (a:Ex)
 |cmp (op:rD)(a b:Ex)|chain (op op':rD)(a b c:Ex)
 |and_ (a b:Ex)|or_ (a b:Ex)|not_ (a:Ex)|ite (c a b:Ex)
 |call (f:Nat)(es:List Ex)|bi (f:BI)(es:List Ex)|isi (a:Ex)(ts:List Ty)
 |cB (m:MT)(o:Ex)(es:List Ex)
 |ix (a b:Ex)|sl (a:Ex)(lo hi:List Ex)
 /-- f(g(..)), g what is walked on the spot -/
 |bit (f:BI)(k:IK)(es:List Ex)
 |comp (n:Nat)(bG:List Nat)(tg:List Nat)(one:Bool)(k:Option IK)(aD:List Ex)(ifs:List Ex)(elt:Ex)
 |dic (ks vs:List Ex)
 /-- o.f of an instance of the class c; C(..), f aD __init__; o.m(..), f the def -/
 |fld (c f:List Nat)(o:Ex)|mk (c:List Nat)(f:Nat)(es:List Ex)|mcl (c m:List Nat)(f:Nat)(o:Ex)(es:List Ex)
 /-- {}; k in d; d[k] -/
 |dnew|d1 (k v:Ex)|din (neg:Bool)(k d:Ex)|dix (d k:Ex)
inductive Tg where
 |nm (i:Nat)|tp (is:List Nat)|ix (o i:Ex)|fl (c f:List Nat)(o:Ex)|dk (o i:Ex)
inductive Sx where
 |ex (e:Ex)|asg (t:Tg)(e:Ex)|aug (i:Nat)(op:uJ)(e:Ex)
 |iff (c:Ex)(a b:List Sx)|whl (c:Ex)(b:List Sx)|gR (t:Tg)(k:Option IK)(aD:List Ex)(b:List Sx)
 |ret (e:Ex)|brk|cnt|pass|rais (c:Nat)(es:List Ex)
 |tryy (b:List Sx)(c:Nat)(n:Option Nat)(h:List Sx)
structure Fn where
 np:Nat
 nl:Nat
 body:List Sx
structure Prog where
 fns:Nat->Option Fn
 /-- class c is class c' or stands under it -/
 sub:Nat->Nat->Bool
noncomputable abbrev St:=List (Option D)
noncomputable abbrev VK:=D->aB->Prop
noncomputable abbrev XK:=Nat->aB->Prop
noncomputable abbrev bL:=Nat->List D->aB->VK->XK->Prop
noncomputable abbrev aZ:Nat:=16777216
noncomputable abbrev mH:Nat:=80
def W (x:String):List Nat:=x.toList.map Char.toNat
noncomputable def Ext (st aA:aB):Prop:=∀ a o,st a=some o->aA a=some o
noncomputable def gD (σ:St)(i:Nat)(Q:D->Prop):Prop:=match σ[i]? with
 |some (some d)=>Q d
 |_=>False
mutual
noncomputable def bK:D->D->Bool
 |.non,.non=>true
 |.bl a,.bl b=>a==b
 |.bl a,.int b=>(if a then 1 else 0)==b
 |.int a,.bl b=>a==(if b then 1 else 0)
 |.int a,.int b=>a==b
 |.str a,.str b=>a==b
 |.tup as,.tup bs=>fM as bs
 |_,_=>false
noncomputable def fM:List D->List D->Bool
 |[],[]=>true
 |a::as,b::bs=>bK a b&&fM as bs
 |_,_=>false
end
mutual
noncomputable def bH:D->Bool
 |.non=>true
 |.bl _=>true
 |.int _=>true
 |.str _=>true
 |.tup ds=>bO ds
 |_=>false
noncomputable def bO:List D->Bool
 |[]=>true
 |d::ds=>bH d&&bO ds
end
mutual
noncomputable def cL:D->Nat
 |.tup ds=>cI ds+1
 |_=>0
noncomputable def cI:List D->Nat
 |[]=>0
 |d::ds=>max (cL d) (cI ds)
end
noncomputable def plain (d:D):Prop:=bH d=true/\cL d<=mH
noncomputable def vE (ds:List D):Prop:=bO ds=true/\cI ds<=mH
noncomputable def JK:Option MO->Bool
 |some (.lst ds)=>bO ds&&decide (cI ds<=mH)
 |_=>false
mutual
noncomputable def fH (st:aB):D->Bool
 |.non=>true
 |.bl _=>true
 |.int _=>true
 |.str _=>true
 |.tup ds=>hU st ds
 |.ref a=>JK (st a)
 |.bP ds=>bO ds&&decide (cI ds<=mH)
 |_=>false
noncomputable def hU (st:aB):List D->Bool
 |[]=>true
 |d::ds=>fH st d&&hU st ds
end
noncomputable def DI:Option MO->Option MO->Bool
 |some (.lst xs),some (.lst ys)=>fM xs ys
 |_,_=>false
mutual
noncomputable def bT (st:aB):D->D->Bool
 |.non,.non=>true
 |.bl a,.bl b=>a==b
 |.bl a,.int b=>(if a then 1 else 0)==b
 |.int a,.bl b=>a==(if b then 1 else 0)
 |.int a,.int b=>a==b
 |.str a,.str b=>a==b
 |.tup as,.tup bs=>jZ st as bs
 |.ref a,.ref b=>DI (st a) (st b)
 |.bP xs,.ref b=>DI (some (.lst xs)) (st b)
 |.ref a,.bP ys=>DI (st a) (some (.lst ys))
 |.bP xs,.bP ys=>fM xs ys
 |_,_=>false
noncomputable def jZ (st:aB):List D->List D->Bool
 |[],[]=>true
 |a::as,b::bs=>bT st a b&&jZ st as bs
 |_,_=>false
end
noncomputable def plainS (st:aB)(d:D):Prop:=fH st d=true/\cL d<=mH
noncomputable def dW (st:aB)(ds:List D):Prop:=hU st ds=true/\cI ds<=mH
noncomputable def VL (x y:D)(st:aB)(P:Bool->Prop):Prop:=plainS st x/\plainS st y/\P (bT st x y)
noncomputable def occurs (x:List Nat):List Nat->Bool
 |[]=>x.isEmpty
 |c::r=>x.isPrefixOf (c::r)||occurs x r
noncomputable def cM (st:aB)(a:Nat)(K:List D->Prop):Prop:=match st a with
 |some (.lst ds)=>K ds
 |_=>False
noncomputable def cZ {α:Type}(o:Option α)(K:α->Prop):Prop:=match o with
 |some x=>K x
 |none=>False
noncomputable def eR (st:aB)(a:Nat)(K:List D->Prop)(M:List D->List D->Prop):Prop:=match st a with
 |some (.lst ds)=>K ds
 |some (.dic ks vs)=>M ks vs
 |_=>False
noncomputable def LI:D->D->aB->(Bool->Prop)->Prop
 |x,.tup ds,st,P=>plainS st x/\dW st ds/\P (ds.any fun d=>bT st d x)
 |x,.ref a,st,P=>eR st a (fun ds=>plainS st x/\dW st ds/\P (ds.any fun d=>bT st d x)) fun ks _=>plain x/\vE ks/\P (ks.any fun d=>bK d x)
 |.str w,.dA ks _,_,P=>P (ks.any fun d=>bK d (.str w))
 |x,.bP ds,st,P=>plainS st x/\dW st ds/\P (ds.any fun d=>bT st d x)
 |.str w,.str z,_,P=>P (occurs w z)
 |_,_,_,_=>False
noncomputable def vP (f:Int->Int->Bool):D->D->(Bool->Prop)->Prop
 |.int i,.int j,P=>P (f i j)
 |_,_,_=>False
noncomputable def HQ:D->Bool
 |.non=>true
 |_=>false
noncomputable def SY (b:Bool):D->Bool
 |.bl c=>c==b
 |_=>false
noncomputable def DO:D->D->(Bool->Prop)->Prop
 |x,.non,P=>P (HQ x)
 |x,.bl b,P=>P (SY b x)
 |_,_,_=>False
noncomputable def dE:rD->D->D->aB->(Bool->Prop)->Prop
 |.eq,x,y,st,P=>VL x y st P
 |.ne,x,y,st,P=>VL x y st fun b=>P (!b)
 |.lt,x,y,_,P=>vP (fun i j=>decide (i<j)) x y P
 |.le,x,y,_,P=>vP (fun i j=>decide (i<=j)) x y P
 |.gt,x,y,_,P=>vP (fun i j=>decide (j<i)) x y P
 |.ge,x,y,_,P=>vP (fun i j=>decide (j<=i)) x y P
 |.is_,x,y,_,P=>DO x y P
 |.isnot,x,y,_,P=>DO x y fun b=>P (!b)
 |.in_,x,y,st,P=>LI x y st P
 |.fX,x,y,st,P=>LI x y st fun b=>P (!b)
noncomputable def DF (i:Int):Prop:=-18446744073709551616<i/\i<18446744073709551616
noncomputable def iF (ds:List D)(st:aB)(Q:VK):Prop:=ds.length<=aZ/\∀ p,st p=none->Q (.ref p) (put st p (.lst ds))
noncomputable def iC:uJ->D->D->aB->VK->Prop
 |.add,.int i,.int j,st,Q=>Q (.int (i+j)) st
 |.add,.str a,.str b,st,Q=>a.length+b.length<=aZ/\Q (.str (a++b)) st
 |.add,.tup a,.tup b,st,Q=>a.length+b.length<=aZ/\Q (.tup (a++b)) st
 |.add,.ref a,.ref b,st,Q=>cM st a fun xs=>cM st b fun ys=>iF (xs++ys) st Q
 |.sub,.int i,.int j,st,Q=>Q (.int (i-j)) st
 |.mul,.int i,.int j,st,Q=>(DF i∨DF j)/\Q (.int (i*j)) st
 |.mul,.ref a,.int k,st,Q=>cM st a fun xs=>xs.length*k.toNat<=aZ/\(-9223372036854775808<=k/\k<9223372036854775808)/\iF (ai k.toNat xs).flatten st Q
 |.mul,.tup xs,.int k,st,Q=>(0<xs.length/\xs.length<=1000/\1<=k/\k<1000)/\Q (.tup (ai k.toNat xs).flatten) st
 |.fdiv,.int i,.int j,st,Q=>(0<j/\j<1073741824)/\Q (.int (i / j)) st
 |.mod,.int i,.int j,st,Q=>0<j/\Q (.int (i % j)) st
 |.pow,.int i,.int j,st,Q=>(0<=j/\j<=1000000/\i.natAbs<18446744073709551616)/\Q (.int (i ^ j.toNat)) st
 |_,_,_,_,_=>False
noncomputable def zY:D->aB->VK->Prop
 |.int i,st,Q=>Q (.int (-i)) st
 |_,_,_=>False
noncomputable def bV:List (List Nat×D)->List Nat->Option D
 |[],_=>none
 |(g,d)::r,f=>if g=f then some d else bV r f
noncomputable def rY (f:List Nat)(d:D):List (List Nat×D)->List (List Nat×D)
 |[]=>[(f,d)]
 |(g,x)::r=>if g=f then(g,d)::r else(g,x)::rY f d r
noncomputable def nF (st:aB)(a:Nat)(K:List Nat->List (List Nat×D)->Prop):Prop:=match st a with
 |some (.ins c fs)=>K c fs
 |_=>False
noncomputable def tabAt (st:aB)(a:Nat)(K:List D->List D->Prop):Prop:=match st a with
 |some (.tab ks vs)=>K ks vs
 |_=>False
noncomputable def qC (c f:List Nat):D->aB->VK->Prop
 |.ref a,st,Q=>nF st a fun c' fs=>c'=c/\cZ (bV fs f) fun d=>Q d st
 |_,_,_=>False
noncomputable def EB (c f:List Nat)(v:D):D->aB->(aB->Prop)->Prop
 |.ref a,st,Q=>nF st a fun c' fs=>c'=c/\fs.length<900/\Q (put st a (.ins c (rY f v fs)))
 |_,_,_=>False
mutual
noncomputable def jC:D->Bool
 |.str _=>true
 |.bl _=>true
 |.tup ds=>jG ds
 |_=>false
noncomputable def jG:List D->Bool
 |[]=>true
 |d::ds=>jC d&&jG ds
end
noncomputable def keyed:D->Prop
 |.tup ds=>jG ds=true/\cI ds<=7
 |_=>False
noncomputable def kR:List D->List D->D->Option D
 |k::ks,v::vs,x=>if bK k x then some v else kR ks vs x
 |_,_,_=>none
noncomputable def wN (x:D):D->aB->(Bool->Prop)->Prop
 |.ref a,st,P=>tabAt st a fun ks _=>keyed x/\P (ks.any fun k=>bK k x)
 |_,_,_=>False
noncomputable def rE (x:D):D->aB->VK->Prop
 |.ref a,st,Q=>tabAt st a fun ks vs=>keyed x/\cZ (kR ks vs x) fun d=>Q d st
 |_,_,_=>False
noncomputable def zC (x v:D):D->aB->(aB->Prop)->Prop
 |.ref a,st,Q=>tabAt st a fun ks vs=>keyed x/\(ks.any fun k=>bK k x)=false/\ks.length<10000/\Q (put st a (.tab (ks++[x]) (vs++[v])))
 |_,_,_=>False
noncomputable def EH (c m:List Nat):D->aB->Prop
 |.ref a,st=>nF st a fun c' fs=>c'=c/\bV fs m=none
 |_,_=>False
noncomputable def eF:D->aB->(Bool->Prop)->Prop
 |.non,_,P=>P false
 |.bl b,_,P=>P b
 |.int i,_,P=>P (i != 0)
 |.str x,_,P=>x.length<=aZ/\P (!x.isEmpty)
 |.tup ds,_,P=>P (!ds.isEmpty)
 |.ref a,st,P=>eR st a (fun ds=>P (!ds.isEmpty)) fun ks _=>P (!ks.isEmpty)
 |.bP ds,_,P=>P (!ds.isEmpty)
 |_,_,_=>False
noncomputable def jW (sub:Nat->Nat->Bool):D->aB->Ty->(Bool->Prop)->Prop
 |.non,_,_,P=>P false
 |.bl _,_,.bool,P=>P true
 |.bl _,_,.int,P=>P true
 |.bl _,_,_,P=>P false
 |.int _,_,.int,P=>P true
 |.int _,_,_,P=>P false
 |.str _,_,.str,P=>P true
 |.str _,_,_,P=>P false
 |.tup _,_,.tuple,P=>P true
 |.tup _,_,_,P=>P false
 |.ref a,st,.list,P=>eR st a (fun _=>P true) fun _ _=>P false
 |.ref a,st,.dict,P=>eR st a (fun _=>P false) fun _ _=>P true
 |.ref a,st,_,P=>eR st a (fun _=>P false) fun _ _=>P false
 |.bP _,_,.list,P=>P true
 |.bP _,_,_,P=>P false
 |.exc c,_,.err c',P=>P (sub c c')
 |_,_,_,_=>False
noncomputable def vX (sub:Nat->Nat->Bool)(d:D)(st:aB):List Ty->(Bool->Prop)->Prop
 |[],_=>False
 |[t],P=>jW sub d st t P
 |t::u::ts,P=>jW sub d st t fun b=>if b=true then P true else vX sub d st (u::ts) P
noncomputable def oA (n:Nat)(i:Int):Option Nat:=if 0<=i then(if i<n then some i.toNat else none)else if -(n:Int)<=i then some (i+n).toNat else none
noncomputable def fZ {α:Type}(xs:List α)(i:Int):Option α:=(oA xs.length i).bind fun j=>xs[j]?
noncomputable def vW:List D->List D->D->Option D
 |k::ks,v::vs,x=>if bK k x then some v else vW ks vs x
 |_,_,_=>none
noncomputable def nZ:D->D->aB->VK->Prop
 |.tup ds,.int i,st,Q=>cZ (fZ ds i) fun d=>Q d st
 |.bP ds,.int i,st,Q=>cZ (fZ ds i) fun d=>Q d st
 |.str z,.int i,st,Q=>z.length<=aZ/\cZ (fZ z i) fun c=>Q (.str [c]) st
 |.dA ks vs,.str w,st,Q=>cZ (vW ks vs (.str w)) fun d=>Q d st
 |.ref a,y,st,Q=>eR st a (fun ds=>match y with
  |.int i=>cZ (fZ ds i) fun d=>Q d st
  |_=>False) fun ks vs=>plain y/\vE ks/\cZ (vW ks vs y) fun d=>Q d st
 |_,_,_,_=>False
noncomputable def cJ (n d:Nat):Option Int->Nat
 |none=>d
 |some v=>if v<0 then(v+(n:Int)).toNat else min v.toNat n
noncomputable def cut {α:Type}(xs:List α)(lo hi:Option Int):List α:=(xs.drop (cJ xs.length 0 lo)).take (cJ xs.length xs.length hi-cJ xs.length 0 lo)
noncomputable def oV:List D->(Option Int->Prop)->Prop
 |[],P=>P none
 |[.int i],P=>P (some i)
 |_,_=>False
noncomputable def DK:D->Option Int->Option Int->aB->VK->Prop
 |.tup ds,lo,hi,st,Q=>Q (.tup (cut ds lo hi)) st
 |.ref a,lo,hi,st,Q=>cM st a fun ds=>∀ p,st p=none->Q (.ref p) (put st p (.lst (cut ds lo hi)))
 |_,_,_,_,_=>False
noncomputable def eE:D->aB->(List Nat->List D->Prop)->Prop
 |.tup ds,_,K=>K [] ds
 |.ref a,st,K=>cM st a fun ds=>K [a] ds
 |.bP ds,_,K=>K [] ds
 |_,_,_=>False
noncomputable def oW:D->aB->(List Nat->List D->Prop)->Prop
 |.tup ds,_,K=>K [] ds
 |.str x,_,K=>x.length<=aZ/\K [] (x.map fun c=>.str [c])
 |.ref a,st,K=>cM st a fun ds=>K [a] ds
 |.bP ds,_,K=>K [] ds
 |_,_,_=>False
noncomputable def zip2:List D->List D->List D
 |x::xs,y::ys=>.tup [x,y]::zip2 xs ys
 |_,_=>[]
noncomputable def V9:Nat->List D->List D
 |_,[]=>[]
 |i,x::xs=>.tup [.int i,x]::V9 (i+1) xs
noncomputable def iY (lo:Int)(n:Nat):List D:=(a9 n).map fun k=>.int (lo+(k:Nat))
noncomputable def oG (hi:Int)(n:Nat):List D:=(a9 n).map fun k=>.int (hi-(k:Nat))
noncomputable def dU (i:Int):Prop:=-4611686018427387904<=i/\i<4611686018427387904
noncomputable def gN:Option IK->List D->aB->(List Nat->List D->Prop)->Prop
 |none,[x],st,P=>oW x st P
 |some .range,[.int j],_,P=>dU j/\P [] (iY 0 j.toNat)
 |some .range,[.int i,.int j],_,P=>dU i/\dU j/\P [] (iY i (j-i).toNat)
 |some .range,[.int i,.int j,.int c],_,P=>c = -1/\dU i/\dU j/\P [] (oG i (i-j).toNat)
 |some .zip,[.ref a,.ref b],st,P=>cM st a fun xs=>cM st b fun ys=>P [a,b] (zip2 xs ys)
 |some .enum,[.ref a],st,P=>cM st a fun xs=>P [a] (V9 0 xs)
 |some .rev,[x],st,P=>eE x st fun as xs=>P as xs.reverse
 |_,_,_,_=>False
noncomputable def boolsOf:List D->Option (List Bool)
 |[]=>some []
 |.bl b::r=>(boolsOf r).map (b :: ·)
 |_=>none
noncomputable def intsOf:List D->Option (List Int)
 |[]=>some []
 |.int i::r=>(intsOf r).map (i :: ·)
 |_=>none
noncomputable def pS:D->aB->(Nat->Prop)->Prop
 |.tup ds,_,P=>P ds.length
 |.str x,_,P=>x.length<=aZ/\P x.length
 |.ref a,st,P=>eR st a (fun ds=>P ds.length) fun ks _=>P ks.length
 |.bP ds,_,P=>P ds.length
 |_,_,_=>False
noncomputable def Du:Int->List Int->Int
 |m,[]=>m
 |m,i::r=>Du (if i>m then i else m) r
noncomputable def Bo:Int->List Int->Int
 |m,[]=>m
 |m,i::r=>Bo (if i<m then i else m) r
noncomputable def eT:BI->List D->aB->VK->Prop
 |.all,xs,st,Q=>cZ (boolsOf xs) fun bs=>Q (.bl (bs.all id)) st
 |.any,xs,st,Q=>cZ (boolsOf xs) fun bs=>Q (.bl (bs.any id)) st
 |.max,xs,st,Q=>cZ (intsOf xs) fun is=>match is with
  |i::r=>Q (.int (Du i r)) st
  |[]=>False
 |.min,xs,st,Q=>cZ (intsOf xs) fun is=>match is with
  |i::r=>Q (.int (Bo i r)) st
  |[]=>False
 |.sum,xs,st,Q=>cZ (intsOf xs) fun is=>Q (.int is.sum) st
 |.list,xs,st,Q=>iF xs st Q
 |.tuple,xs,st,Q=>xs.length<=aZ/\Q (.tup xs) st
 |_,_,_,_=>False
noncomputable def strsOf:List D->Option (List (List Nat))
 |[]=>some []
 |.str w::r=>(strsOf r).map (w :: ·)
 |_=>none
noncomputable def zT:List (List Nat)->List (List Nat)->Nat
 |_,[]=>0
 |seen,w::r=>(if seen.any (·== w)then 0 else 1)+zT (seen++[w]) r
noncomputable def gS:BI->List D->aB->VK->Prop
 |.len,[d],st,Q=>pS d st fun n=>Q (.int (n:Nat)) st
 |.sH,[.tup ds],st,Q=>cZ (strsOf ds) fun ws=>ws.length<4000/\Q (.int (zT [] ws:Nat)) st
 |.max,[.int i,.int j],st,Q=>Q (.int (if j>i then j else i)) st
 |.min,[.int i,.int j],st,Q=>Q (.int (if j<i then j else i)) st
 |.abs,[.int i],st,Q=>Q (.int (if i<0 then -i else i)) st
 |.int,[.int i],st,Q=>Q (.int i) st
 |.int,[.bl b],st,Q=>Q (.int (if b then 1 else 0)) st
 |.bool,[.int i],st,Q=>Q (.bl (i != 0)) st
 |.bool,[.bl b],st,Q=>Q (.bl b) st
 |f,[d],st,Q=>eE d st fun _ xs=>eT f xs st Q
 |_,_,_,_=>False
noncomputable def zL:D->aB->(List D->Prop)->Prop
 |.tup ds,_,K=>K ds
 |.ref a,st,K=>cM st a K
 |_,_,_=>False
noncomputable def findD (st:aB)(d:D):List D->Option Nat
 |[]=>none
 |e::r=>if bT st e d=true then some 0 else(findD st d r).map (·+ 1)
noncomputable def jX:MT->D->List D->aB->VK->Prop
 |.append,.ref a,[d],st,Q=>cM st a fun xs=>xs.length<aZ/\Q .non (put st a (.lst (xs++[d])))
 |.extend,.ref a,[d],st,Q=>cM st a fun xs=>zL d st fun ys=>xs.length+ys.length<=aZ/\Q .non (put st a (.lst (xs++ys)))
 |.pop,.ref a,[],st,Q=>cM st a fun xs=>cZ (xs[xs.length-1]?) fun d=>Q d (put st a (.lst xs.dropLast))
 |.index,x,[d],st,Q=>eE x st fun _ ds=>plainS st d/\dW st ds/\cZ (findD st d ds) fun i=>Q (.int (i:Nat)) st
 |_,_,_,_,_=>False
noncomputable def zM:MT->D->aB->Prop
 |.append,.ref a,st=>cM st a fun _=>True
 |.extend,.ref a,st=>cM st a fun _=>True
 |.pop,.ref a,st=>cM st a fun _=>True
 |.index,x,st=>eE x st fun _ _=>True
 |_,_,_=>False
noncomputable def kQ:Bool->List Nat->D->St->(St->Prop)->Prop
 |true,[i],x,σ,P=>P (σ.set i (some x))
 |false,is,.tup ds,σ,P=>ds.length=is.length/\P ((is.zip ds).foldl (fun σ p=>σ.set p.1 (some p.2)) σ)
 |_,_,_,_,_=>False
noncomputable def jQ (g:aB->Prop)(turn:D->aB->(Option D->aB->Prop)->Prop):List D->List D->aB->(List D->aB->Prop)->Prop
 |[],acc,st,R=>g st/\R acc st
 |x::xs,acc,st,R=>g st/\acc.length<aZ/\turn x st fun o aA=>jQ g turn xs (match o with|none=>acc|some d=>acc++[d]) aA R
noncomputable def same (as:List Nat)(st aA:aB):Prop:=∀ a∈as,aA a=st a
mutual
noncomputable def aI (C:bL)(sub:Nat->Nat->Bool)(E:XK):Ex->St->aB->VK->Prop
 |.c d,_,st,Q=>Q d st
 |.v i,σ,st,Q=>gD σ i fun d=>Q d st
 |.tup es,σ,st,Q=>bU C sub E es σ st fun ds aA=>Q (.tup ds) aA
 |.lst es,σ,st,Q=>bU C sub E es σ st fun ds aA=>iF ds aA Q
 |.bin op a b,σ,st,Q=>aI C sub E a σ st fun x aC=>aI C sub E b σ aC fun y aG=>iC op x y aG Q
 |.neg a,σ,st,Q=>aI C sub E a σ st fun x aC=>zY x aC Q
 |.cmp op a b,σ,st,Q=>aI C sub E a σ st fun x aC=>aI C sub E b σ aC fun y aG=>dE op x y aG fun k=>Q (.bl k) aG
 |.chain op op' a b c,σ,st,Q=>aI C sub E a σ st fun x aC=>aI C sub E b σ aC fun y aG=>dE op x y aG fun k =>
  if k=true then aI C sub E c σ aG fun z aV=>dE op' y z aV fun k=>Q (.bl k) aV else Q (.bl false) aG
 |.and_ a b,σ,st,Q=>aI C sub E a σ st fun x aC=>eF x aC fun k=>if k=true then aI C sub E b σ aC Q else Q x aC
 |.or_ a b,σ,st,Q=>aI C sub E a σ st fun x aC=>eF x aC fun k=>if k=true then Q x aC else aI C sub E b σ aC Q
 |.not_ a,σ,st,Q=>aI C sub E a σ st fun x aC=>eF x aC fun k=>Q (.bl (!k)) aC
 |.ite c a b,σ,st,Q=>aI C sub E c σ st fun x aC=>eF x aC fun k=>if k=true then aI C sub E a σ aC Q else aI C sub E b σ aC Q
 |.call f es,σ,st,Q=>bU C sub E es σ st fun ds aA=>C f ds aA Q E
 |.bi f es,σ,st,Q=>bU C sub E es σ st fun ds aA=>gS f ds aA Q
 |.isi a ts,σ,st,Q=>aI C sub E a σ st fun x aC=>vX sub x aC ts fun k=>Q (.bl k) aC
 |.cB m o es,σ,st,Q=>aI C sub E o σ st fun x aC=>zM m x aC/\bU C sub E es σ aC fun ds aG=>jX m x ds aG Q
 |.ix a b,σ,st,Q=>aI C sub E a σ st fun x aC=>aI C sub E b σ aC fun y aG=>nZ x y aG Q
 |.sl a lo hi,σ,st,Q=>aI C sub E a σ st fun x aC=>bU C sub E lo σ aC fun ls aG=>oV ls fun l=>bU C sub E hi σ aG fun hs aV=>oV hs fun h=>DK x l h aV Q
 |.bit f k es,σ,st,Q=>bU C sub E es σ st fun ds aC=>gN (some k) ds aC fun _ xs=>eT f xs aC Q
 |.comp n bG tg one k aD ifs elt,σ,st,Q=>bU C sub E aD σ st fun ds aC=>gN k ds aC fun as xs =>
  jQ (same as aC) (fun x aG K=>kQ one tg x (ai n none++bG.map fun i=>(σ[i]?).getD none) fun σ' =>
  iM C sub E ifs σ' aG fun b aV=>if b=true then aI C sub E elt σ' aV fun d cH=>K (some d) cH else K none aV) xs [] aC fun ds cQ=>iF ds cQ Q
 |.dic _ _,_,_,_=>False
 |.fld c f o,σ,st,Q=>aI C sub E o σ st fun x aC=>qC c f x aC Q
 |.mk c f es,σ,st,Q=>bU C sub E es σ st fun ds aC=>∀ p,aC p=none->C f (.ref p::ds) (put aC p (.ins c [])) (fun d aG=>d=.non/\Q (.ref p) aG) E
 |.mcl c m f o es,σ,st,Q=>aI C sub E o σ st fun x aC=>EH c m x aC/\bU C sub E es σ aC fun ds aG=>C f (x::ds) aG Q E
 |.dnew,σ,st,Q=>∀ p,st p=none->Q (.ref p) (put st p (.tab [] []))
 |.d1 k v,σ,st,Q=>∀ p,st p=none->aI C sub E k σ (put st p (.tab [] [])) fun x aC=>aI C sub E v σ aC fun y aG=>zC x y (.ref p) aG fun aV=>Q (.ref p) aV
 |.din neg k d,σ,st,Q=>aI C sub E k σ st fun x aC=>aI C sub E d σ aC fun y aG=>wN x y aG fun b=>Q (.bl (if neg=true then !b else b)) aG
 |.dix d k,σ,st,Q=>aI C sub E d σ st fun y aC=>aI C sub E k σ aC fun x aG=>rE x y aG Q
noncomputable def bU (C:bL)(sub:Nat->Nat->Bool)(E:XK):List Ex->St->aB->(List D->aB->Prop)->Prop
 |[],_,st,Q=>Q [] st
 |e::es,σ,st,Q=>aI C sub E e σ st fun d aA=>bU C sub E es σ aA fun ds aX=>Q (d::ds) aX
/-- all tests, one after another -/
noncomputable def iM (C:bL)(sub:Nat->Nat->Bool)(E:XK):List Ex->St->aB->(Bool->aB->Prop)->Prop
 |[],_,st,Q=>Q true st
 |e::es,σ,st,Q=>aI C sub E e σ st fun d aA=>eF d aA fun k=>if k=true then iM C sub E es σ aA Q else Q false aA
end
structure gO where
 nx:St->aB->Prop
 rt:D->aB->Prop
 bk:St->aB->Prop
 ct:St->aB->Prop
 ex:Nat->St->aB->Prop
noncomputable def notRef:D->Prop
 |.ref _=>False
 |_=>True
noncomputable def CA:D->D->D->aB->(aB->Prop)->Prop
 |.ref a,.int k,v,st,Q=>cM st a fun xs=>cZ (oA xs.length k) fun j=>Q (put st a (.lst (xs.set j v)))
 |_,_,_,_,_=>False
noncomputable def nI (C:bL)(sub:Nat->Nat->Bool)(E:XK):Tg->D->St->aB->(St->aB->Prop)->Prop
 |.nm i,d,σ,st,Q=>Q (σ.set i (some d)) st
 |.tp is,d,σ,st,Q=>kQ false is d σ fun σ'=>Q σ' st
 |.ix o i,d,σ,st,Q=>aI C sub E o σ st fun x aC=>aI C sub E i σ aC fun y aG=>CA x y d aG fun aV=>Q σ aV
 |.fl c f o,d,σ,st,Q=>aI C sub E o σ st fun x aC=>EB c f d x aC fun aG=>Q σ aG
 |.dk o i,d,σ,st,Q=>aI C sub E o σ st fun x aC=>aI C sub E i σ aC fun y aG=>zC y d x aG fun aV=>Q σ aV
noncomputable def rV (g:aB->Prop)(turn:D->(St->aB->Prop)->St->aB->Prop)(N:St->aB->Prop):List D->St->aB->Prop
 |[],σ,st=>g st/\N σ st
 |x::xs,σ,st=>g st/\turn x (rV g turn N xs) σ st
noncomputable def pF (turn:(St->aB->Prop)->St->aB->Prop):Nat->St->aB->Prop
 |0,_,_=>False
 |n+1,σ,st=>turn (pF turn n) σ st
noncomputable def EG (n:Option Nat)(o:Option D)(σ:St):St:=match n with
 |some i=>σ.set i o
 |none=>σ
noncomputable def Oe (sub:Nat->Nat->Bool)(c:Nat)(n:Option Nat)(P:gO)(h:gO->St->aB->Prop):gO :=
 ⟨P.nx,P.rt,P.bk,P.ct,fun c' σ' aA=>if sub c' c=true then
 h ⟨fun σ2 aG=>P.nx (EG n none σ2) aG,P.rt,fun _ _=>False,fun _ _=>False,fun _ _ _=>False⟩ (EG n (some (.exc c')) σ') aA else P.ex c' σ' aA⟩
noncomputable def LG:bL:=fun _ _ _ _ _=>False
mutual
noncomputable def wpS (C:bL)(sub:Nat->Nat->Bool):Sx->gO->St->aB->Prop
 |.ex e,P,σ,st=>aI C sub (fun c aA=>P.ex c σ aA) e σ st fun _ aA=>P.nx σ aA
 |.asg t e,P,σ,st=>aI C sub (fun c aA=>P.ex c σ aA) e σ st fun d aA=>nI C sub (fun c aA=>P.ex c σ aA) t d σ aA P.nx
 |.aug i op e,P,σ,st=>gD σ i fun x=>aI C sub (fun c aA=>P.ex c σ aA) e σ st fun y aA=>notRef x/\iC op x y aA fun d aX=>P.nx (σ.set i (some d)) aX
 |.iff c a b,P,σ,st=>aI C sub (fun c aA=>P.ex c σ aA) c σ st fun d aA=>eF d aA fun k=>if k=true then cR C sub a P σ aA else cR C sub b P σ aA
 |.whl c b,P,σ,st=>∃ n,pF (fun next σ st=>aI C sub (fun c aA=>P.ex c σ aA) c σ st fun d aA=>eF d aA fun k =>
  if k=true then cR C sub b { P with nx:=next,ct:=next,bk:=P.nx } σ aA else P.nx σ aA) n σ st
 |.gR t k aD b,P,σ,st=>bU C sub (fun c aA=>P.ex c σ aA) aD σ st fun ds aC=>gN k ds aC fun as xs=>rV (same as aC) (fun x next σ st=>nI C sub (fun c aA=>P.ex c σ aA) t x σ st fun σ' aA=>cR C sub b { P with nx:=next,ct:=next,bk:=P.nx } σ' aA) P.nx xs σ aC
 |.ret e,P,σ,st=>aI C sub (fun c aA=>P.ex c σ aA) e σ st P.rt
 |.brk,P,σ,st=>P.bk σ st
 |.cnt,P,σ,st=>P.ct σ st
 |.pass,P,σ,st=>P.nx σ st
 |.rais c es,P,σ,st=>bU C sub (fun c aA=>P.ex c σ aA) es σ st fun _ aA=>P.ex c σ aA
 |.tryy b c n h,P,σ,st=>cR C sub b (Oe sub c n P fun P' σ' aA=>cR LG sub h P' σ' aA) σ st
noncomputable def cR (C:bL)(sub:Nat->Nat->Bool):List Sx->gO->St->aB->Prop
 |[],P,σ,st=>P.nx σ st
 |s::ss,P,σ,st=>wpS C sub s { P with nx:=cR C sub ss P } σ st
end
noncomputable def start (np nl:Nat)(ds:List D):St:=ds.map some++ai (nl-np) none
noncomputable def aO (G:Prog):Nat->bL
 |0=>fun _ _ _ _ _=>False
 |k+1=>fun f ds st Q E=>match G.fns f with
 |none=>False
 |some fn=>ds.length=fn.np/\cR (aO G k) G.sub fn.body ⟨fun _ aA=>Q .non aA,Q,fun _ _=>False,fun _ _=>False,fun c _ aA=>E c aA⟩ (start fn.np fn.nl ds) st
end L3
end
section
namespace L3
theorem GA {σ:St}{i:Nat}{Q Q':D->Prop}(h:∀ d,Q d->Q' d):gD σ i Q->gD σ i Q':=by
 unfold gD;split
 ·exact h _
 ·exact id
theorem mY {st:aB}{a:Nat}{K K':List D->Prop}{M M':List D->List D->Prop}(h:∀ ds,K ds->K' ds)(h':∀ ks vs,M ks vs->M' ks vs):eR st a K M->eR st a K' M':=by
 unfold eR;split
 ·exact h _
 ·exact h' _ _
 ·exact id
theorem dJ {st:aB}{a:Nat}{K K':List D->Prop}(h:∀ ds,K ds->K' ds):cM st a K->cM st a K':=by
 unfold cM;split
 ·exact h _
 ·exact id
theorem eO {α:Type}{o:Option α}{K K':α->Prop}(h:∀ x,K x->K' x):cZ o K->cZ o K':=by
 unfold cZ;split
 ·exact h _
 ·exact id
theorem jM {d:D}{st:aB}{P P':Bool->Prop}(h:∀ b,P b->P' b):eF d st P->eF d st P':=by
 unfold eF;split
 all_goals first|exact h _|exact id|exact(fun x=>⟨x.1,h _ x.2⟩)|exact mY (fun _=>h _) fun _ _=>h _
theorem pD {ds:List D}{st:aB}{Q Q':VK}(h:∀ d st,Q d st->Q' d st):iF ds st Q->iF ds st Q':=fun x=>⟨x.1,fun p hp=>h _ _ (x.2 p hp)⟩
theorem FQ {op:uJ}{x y:D}{st:aB}{Q Q':VK}(h:∀ d st,Q d st->Q' d st):iC op x y st Q->iC op x y st Q':=by
 unfold iC
 split
 all_goals first|exact h _ _|exact id|exact(fun z=>⟨z.1,h _ _ z.2⟩)|exact dJ (fun _=>dJ fun _=>pD h)|exact dJ (fun _ z=>⟨z.1,z.2.1,pD h z.2.2⟩)
theorem QS {x:D}{st:aB}{Q Q':VK}(h:∀ d st,Q d st->Q' d st):zY x st Q->zY x st Q':=by
 unfold zY;split
 ·exact h _ _
 ·exact id
theorem IJ {x y:D}{st:aB}{P P':Bool->Prop}(h:∀ b,P b->P' b):VL x y st P->VL x y st P':=fun z=>⟨z.1,z.2.1,h _ z.2.2⟩
theorem KY {x y:D}{st:aB}{P P':Bool->Prop}(h:∀ b,P b->P' b):LI x y st P->LI x y st P':=by
 unfold LI
 split
 all_goals first|exact(fun z=>⟨z.1,z.2.1,h _ z.2.2⟩)|exact h _|exact id|exact mY (fun _ z=>⟨z.1,z.2.1,h _ z.2.2⟩) fun _ _ z=>⟨z.1,z.2.1,h _ z.2.2⟩
theorem sP {f:Int->Int->Bool}{x y:D}{P P':Bool->Prop}(h:∀ b,P b->P' b):vP f x y P->vP f x y P':=by
 unfold vP;split
 ·exact h _
 ·exact id
theorem KZ {x y:D}{P P':Bool->Prop}(h:∀ b,P b->P' b):DO x y P->DO x y P':=by
 unfold DO
 split
 all_goals first|exact h _|exact id
theorem zN {op:rD}{x y:D}{st:aB}{P P':Bool->Prop}(h:∀ b,P b->P' b):dE op x y st P->dE op x y st P':=by
 cases op
 ·exact IJ h
 ·exact IJ fun b=>h (!b)
 ·exact sP h
 ·exact sP h
 ·exact sP h
 ·exact sP h
 ·exact KZ h
 ·exact KZ fun b=>h (!b)
 ·exact KY h
 ·exact KY fun b=>h (!b)
theorem C4 {sub:Nat->Nat->Bool}{x:D}{st:aB}{t:Ty}{P P':Bool->Prop}(h:∀ b,P b->P' b):jW sub x st t P->jW sub x st t P':=by
 unfold jW
 split
 all_goals first|exact h _|exact id|exact mY (fun _=>h _) fun _ _=>h _
theorem HF {sub:Nat->Nat->Bool}{x:D}{st:aB}{P P':Bool->Prop}(h:∀ b,P b->P' b):∀{ts:List Ty},vX sub x st ts P->vX sub x st ts P'
 |[]=>id
 |[t]=>C4 h
 |t::u::ts=>by
  unfold vX
  refine C4 fun b=>?_
  split
  ·exact h _
  ·exact HF h
theorem UE {x y:D}{st:aB}{Q Q':VK}(h:∀ d st,Q d st->Q' d st):nZ x y st Q->nZ x y st Q':=by
 unfold nZ
 split
 all_goals first|exact id|exact eO (fun _=>h _ _)|exact(fun z=>⟨z.1,eO (fun _=>h _ _) z.2⟩)|exact(fun z=>⟨z.1,z.2.1,eO (fun _=>h _ _) z.2.2⟩)|skip
 refine mY (fun _=>?_) (fun _ _ z=>⟨z.1,z.2.1,eO (fun _=>h _ _) z.2.2⟩)
 split
 ·exact eO fun _=>h _ _
 ·exact id
theorem C3 {ds:List D}{P P':Option Int->Prop}(h:∀ o,P o->P' o):oV ds P->oV ds P':=by
 unfold oV;split
 all_goals first|exact h _|exact id
theorem SU {x:D}{lo hi:Option Int}{st:aB}{Q Q':VK}(h:∀ d st,Q d st->Q' d st):DK x lo hi st Q->DK x lo hi st Q':=by
 unfold DK
 split
 ·exact h _ _
 ·exact dJ fun _ z p hp=>h _ _ (z p hp)
 ·exact id
theorem O9 {d:D}{st:aB}{K K':List Nat->List D->Prop}(h:∀ as xs,K as xs->K' as xs):oW d st K->oW d st K':=by
 unfold oW
 split
 all_goals first|exact h _ _|exact id|exact(fun z=>⟨z.1,h _ _ z.2⟩)|exact dJ (fun _=>h _ _)
theorem yO {d:D}{st:aB}{K K':List Nat->List D->Prop}(h:∀ as xs,K as xs->K' as xs):eE d st K->eE d st K':=by
 unfold eE
 split
 all_goals first|exact h _ _|exact id|exact dJ (fun _=>h _ _)
theorem zB {k:Option IK}{ds:List D}{st:aB}{P P':List Nat->List D->Prop}(h:∀ as xs,P as xs->P' as xs):gN k ds st P->gN k ds st P':=by
 unfold gN
 split
 ·exact O9 h
 ·exact fun z=>⟨z.1,h _ _ z.2⟩
 ·exact fun z=>⟨z.1,z.2.1,h _ _ z.2.2⟩
 ·exact fun z=>⟨z.1,z.2.1,z.2.2.1,h _ _ z.2.2.2⟩
 ·exact dJ fun _=>dJ fun _=>h _ _
 ·exact dJ fun _=>h _ _
 ·exact yO fun _ _=>h _ _
 ·exact id
theorem SK {d:D}{st:aB}{P P':Nat->Prop}(h:∀ n,P n->P' n):pS d st P->pS d st P':=by
 unfold pS
 split
 all_goals first|exact h _|exact id|exact(fun z=>⟨z.1,h _ z.2⟩)|exact mY (fun _=>h _) fun _ _=>h _
theorem BV {f:BI}{xs:List D}{st:aB}{Q Q':VK}(h:∀ d st,Q d st->Q' d st):eT f xs st Q->eT f xs st Q':=by
 unfold eT
 split
 all_goals first|exact id|exact pD h|exact(fun z=>⟨z.1,h _ _ z.2⟩)|exact eO (fun _=>h _ _)|skip
 all_goals refine eO fun is=>?_
 all_goals cases is
 all_goals first|exact id|exact h _ _
theorem UI {f:BI}{ds:List D}{st:aB}{Q Q':VK}(h:∀ d st,Q d st->Q' d st):gS f ds st Q->gS f ds st Q':=by
 unfold gS
 split
 all_goals first|exact id|exact h _ _|exact SK (fun _=>h _ _)|exact yO (fun _ _=>BV h)|exact eO (fun _ z=>⟨z.1,h _ _ z.2⟩)
theorem RE {d:D}{st:aB}{K K':List D->Prop}(h:∀ xs,K xs->K' xs):zL d st K->zL d st K':=by
 unfold zL
 split
 all_goals first|exact h _|exact id|exact dJ h
theorem NS {m:MT}{o:D}{ds:List D}{st:aB}{Q Q':VK}(h:∀ d st,Q d st->Q' d st):jX m o ds st Q->jX m o ds st Q':=by
 unfold jX
 split
 ·exact dJ fun _ z=>⟨z.1,h _ _ z.2⟩
 ·exact dJ fun _=>RE fun _ z=>⟨z.1,h _ _ z.2⟩
 ·exact dJ fun _=>eO fun _=>h _ _
 ·exact yO fun _ _ z=>⟨z.1,z.2.1,eO (fun _=>h _ _) z.2.2⟩
 ·exact id
theorem CW {one:Bool}{tg:List Nat}{x:D}{σ:St}{P P':St->Prop}(h:∀ σ,P σ->P' σ):kQ one tg x σ P->kQ one tg x σ P':=by
 unfold kQ
 split
 ·exact h _
 ·exact fun z=>⟨z.1,h _ z.2⟩
 ·exact id
theorem DW {g:aB->Prop}{turn tT:D->aB->(Option D->aB->Prop)->Prop}{R R':List D->aB->Prop}
 (ht:∀ x st K K',(∀ o st,K o st->K' o st)->turn x st K->tT x st K')(h:∀ ds st,R ds st->R' ds st):∀{xs acc:List D}{st:aB},jQ g turn xs acc st R->jQ g tT xs acc st R'
 |[],_,_,z=>⟨z.1,h _ _ z.2⟩
 |_::_,_,_,z=>⟨z.1,z.2.1,ht _ _ _ _ (fun _ _ y=>DW ht h y) z.2.2⟩
theorem C2 {st:aB}{a:Nat}{K K':List Nat->List (List Nat×D)->Prop}(h:∀ c fs,K c fs->K' c fs):nF st a K->nF st a K':=by
 unfold nF;split
 ·exact h _ _
 ·exact id
theorem wZ {st:aB}{a:Nat}{K K':List D->List D->Prop}(h:∀ c fs,K c fs->K' c fs):tabAt st a K->tabAt st a K':=by
 unfold tabAt;split
 ·exact h _ _
 ·exact id
theorem RB {c f:List Nat}{x:D}{st:aB}{Q Q':VK}(h:∀ d st,Q d st->Q' d st):qC c f x st Q->qC c f x st Q':=by
 unfold qC;split
 ·exact C2 fun _ _ z=>⟨z.1,eO (fun _=>h _ _) z.2⟩
 ·exact id
theorem U5 {c f:List Nat}{v x:D}{st:aB}{Q Q':aB->Prop}(h:∀ st,Q st->Q' st):EB c f v x st Q->EB c f v x st Q':=by
 unfold EB;split
 ·exact C2 fun _ _ z=>⟨z.1,z.2.1,h _ z.2.2⟩
 ·exact id
theorem SN {x y:D}{st:aB}{P P':Bool->Prop}(h:∀ b,P b->P' b):wN x y st P->wN x y st P':=by
 unfold wN;split
 ·exact wZ fun _ _ z=>⟨z.1,h _ z.2⟩
 ·exact id
theorem QN {x y:D}{st:aB}{Q Q':VK}(h:∀ d st,Q d st->Q' d st):rE x y st Q->rE x y st Q':=by
 unfold rE;split
 ·exact wZ fun _ _ z=>⟨z.1,eO (fun _=>h _ _) z.2⟩
 ·exact id
theorem LH {x v y:D}{st:aB}{Q Q':aB->Prop}(h:∀ st,Q st->Q' st):zC x v y st Q->zC x v y st Q':=by
 unfold zC;split
 ·exact wZ fun _ _ z=>⟨z.1,z.2.1,z.2.2.1,h _ z.2.2.2⟩
 ·exact id
noncomputable def bY (C C':bL):Prop:=∀ f ds st Q Q' E E',(∀ d st,Q d st->Q' d st)->(∀ c st,E c st->E' c st)->C f ds st Q E->C' f ds st Q' E'
mutual
theorem aW {C C':bL}{sub}{E E':XK}(hC:bY C C')(hE:∀ c st,E c st->E' c st):∀(e:Ex){σ:St}{st:aB}{Q Q':VK},(∀ d st,Q d st->Q' d st)->aI C sub E e σ st Q->aI C' sub E' e σ st Q'
 |.c d,σ,st,Q,Q',h=>by exact h _ _
 |.v i,σ,st,Q,Q',h=>by exact GA fun d=>h _ _
 |.tup es,σ,st,Q,Q',h=>by exact cX hC hE es fun _ _=>h _ _
 |.lst es,σ,st,Q,Q',h=>by exact cX hC hE es fun _ _=>pD h
 |.bin op a b,σ,st,Q,Q',h=>by exact aW hC hE a fun _ _=>aW hC hE b fun _ _=>FQ h
 |.neg a,σ,st,Q,Q',h=>by
  exact aW hC hE a fun _ _=>QS h
 |.cmp op a b,σ,st,Q,Q',h=>by exact aW hC hE a fun _ _=>aW hC hE b fun _ _=>zN fun _=>h _ _
 |.chain op op' a b c,σ,st,Q,Q',h=>by
  refine aW hC hE a fun _ _=>aW hC hE b fun _ _=>zN fun k=>?_
  split
  ·exact aW hC hE c fun _ _=>zN fun _=>h _ _
  ·exact h _ _
 |.and_ a b,σ,st,Q,Q',h=>by
  refine aW hC hE a fun _ _=>jM fun k=>?_
  split
  ·exact aW hC hE b h
  ·exact h _ _
 |.or_ a b,σ,st,Q,Q',h=>by
  refine aW hC hE a fun _ _=>jM fun k=>?_
  split
  ·exact h _ _
  ·exact aW hC hE b h
 |.not_ a,σ,st,Q,Q',h=>by exact aW hC hE a fun _ _=>jM fun k=>h _ _
 |.ite c a b,σ,st,Q,Q',h=>by
  refine aW hC hE c fun _ _=>jM fun k=>?_
  split
  ·exact aW hC hE a h
  ·exact aW hC hE b h
 |.call f es,σ,st,Q,Q',h=>by exact cX hC hE es fun _ _=>hC _ _ _ _ _ _ _ h hE
 |.bi f es,σ,st,Q,Q',h=>by exact cX hC hE es fun _ _=>UI h
 |.isi a ts,σ,st,Q,Q',h=>by exact aW hC hE a fun _ _=>HF fun _=>h _ _
 |.cB m o es,σ,st,Q,Q',h=>by exact aW hC hE o fun _ _ z=>⟨z.1,cX hC hE es (fun _ _=>NS h) z.2⟩
 |.ix a b,σ,st,Q,Q',h=>by exact aW hC hE a fun _ _=>aW hC hE b fun _ _=>UE h
 |.sl a lo hi,σ,st,Q,Q',h=>by exact aW hC hE a fun _ _=>cX hC hE lo fun _ _=>C3 fun _=>cX hC hE hi fun _ _=>C3 fun _=>SU h
 |.bit f k es,σ,st,Q,Q',h=>by exact cX hC hE es fun _ _=>zB fun _ _=>BV h
 |.comp n bG tg one k aD ifs elt,σ,st,Q,Q',h=>by
  refine cX hC hE aD fun d aC=>zB fun as xs=>?_
  intro z
  refine DW (fun x st K K' hK=>?_) (fun _ _=>pD h) z
  refine CW fun σ'=>HG hC hE ifs fun b st=>?_
  split
  ·exact aW hC hE elt fun _ _=>hK _ _
  ·exact hK _ _
 |.dic _ _,σ,st,Q,Q',h=>by exact id
 |.fld c f o,σ,st,Q,Q',h=>by exact aW hC hE o fun _ _=>RB h
 |.mk c f es,σ,st,Q,Q',h=>by exact cX hC hE es fun _ _ z p hp=>hC _ _ _ _ _ _ _ (fun _ _ y=>⟨y.1,h _ _ y.2⟩) hE (z p hp)
 |.mcl c m f o es,σ,st,Q,Q',h=>by exact aW hC hE o fun _ _ z=>⟨z.1,cX hC hE es (fun _ _=>hC _ _ _ _ _ _ _ h hE) z.2⟩
 |.dnew,σ,st,Q,Q',h=>by exact fun z p hp=>h _ _ (z p hp)
 |.d1 k v,σ,st,Q,Q',h=>by exact fun z p hp=>aW hC hE k (fun _ _=>aW hC hE v fun _ _=>LH fun _=>h _ _) (z p hp)
 |.din neg k d,σ,st,Q,Q',h=>by exact aW hC hE k fun _ _=>aW hC hE d fun _ _=>SN fun _=>h _ _
 |.dix d k,σ,st,Q,Q',h=>by exact aW hC hE d fun _ _=>aW hC hE k fun _ _=>QN h
theorem cX {C C':bL}{sub}{E E':XK}(hC:bY C C')(hE:∀ c st,E c st->E' c st):∀(es:List Ex){σ:St}{st:aB}{Q Q':List D->aB->Prop},(∀ d st,Q d st->Q' d st)->bU C sub E es σ st Q->bU C' sub E' es σ st Q'
 |[],σ,st,Q,Q',h=>by exact h _ _
 |e::es,σ,st,Q,Q',h=>by exact aW hC hE e fun _ _=>cX hC hE es fun _ _=>h _ _
theorem HG {C C':bL}{sub}{E E':XK}(hC:bY C C')(hE:∀ c st,E c st->E' c st):∀(es:List Ex){σ:St}{st:aB}{Q Q':Bool->aB->Prop},(∀ d st,Q d st->Q' d st)->iM C sub E es σ st Q->iM C' sub E' es σ st Q'
 |[],σ,st,Q,Q',h=>by exact h _ _
 |e::es,σ,st,Q,Q',h=>by
  refine aW hC hE e fun _ _=>jM fun k=>?_
  split
  ·exact HG hC hE es h
  ·exact h _ _
end
structure gO.Le (P P':gO):Prop where
 nx:∀ σ st,P.nx σ st->P'.nx σ st
 rt:∀ d st,P.rt d st->P'.rt d st
 bk:∀ σ st,P.bk σ st->P'.bk σ st
 ct:∀ σ st,P.ct σ st->P'.ct σ st
 ex:∀ c σ st,P.ex c σ st->P'.ex c σ st
theorem Q0 {o i v:D}{st:aB}{Q Q':aB->Prop}(h:∀ st,Q st->Q' st):CA o i v st Q->CA o i v st Q':=by
 unfold CA
 split
 ·exact dJ fun _=>eO fun _=>h _
 ·exact id
theorem wX {C C':bL}{sub}{E E':XK}(hC:bY C C')(hE:∀ c st,E c st->E' c st){d:D}{Q Q':St->aB->Prop}(h:∀ σ st,Q σ st->Q' σ st):∀(t:Tg){σ:St}{st:aB},nI C sub E t d σ st Q->nI C' sub E' t d σ st Q'
 |.nm i,_,_=>by exact h _ _
 |.tp is,_,_=>by exact CW fun _=>h _ _
 |.ix o i,_,_=>by exact aW hC hE o fun _ _=>aW hC hE i fun _ _=>Q0 fun _=>h _ _
 |.fl c f o,_,_=>by exact aW hC hE o fun _ _=>U5 fun _=>h _ _
 |.dk o i,_,_=>by exact aW hC hE o fun _ _=>aW hC hE i fun _ _=>LH fun _=>h _ _
theorem GW {g:aB->Prop}{turn tT:D->(St->aB->Prop)->St->aB->Prop}{N N':St->aB->Prop}
 (ht:∀ x M M' σ st,(∀ σ st,M σ st->M' σ st)->turn x M σ st->tT x M' σ st)(h:∀ σ st,N σ st->N' σ st):∀{xs:List D}{σ:St}{st:aB},rV g turn N xs σ st->rV g tT N' xs σ st
 |[],_,_,z=>⟨z.1,h _ _ z.2⟩
 |_::_,_,_,z=>⟨z.1,ht _ _ _ _ _ (fun _ _=>GW ht h) z.2⟩
theorem B4 {turn tT:(St->aB->Prop)->St->aB->Prop}(ht:∀ M M' σ st,(∀ σ st,M σ st->M' σ st)->turn M σ st->tT M' σ st):∀{n:Nat}{σ:St}{st:aB},pF turn n σ st->pF tT n σ st
 |0,_,_,z=>z
 |n+1,_,_,z=>ht _ _ _ _ (fun _ _=>B4 ht) z
theorem L5:bY LG LG:=fun _ _ _ _ _ _ _ _ _ x=>x
mutual
theorem wpS_mono {C C':bL}{sub}(hC:bY C C'):∀(s:Sx){P P':gO}{σ:St}{st:aB},P.Le P'->wpS C sub s P σ st->wpS C' sub s P' σ st
 |.ex e,P,P',σ,st,h=>by exact aW hC (fun _ _=>h.ex _ _ _) e fun _ _=>h.nx _ _
 |.asg t e,P,P',σ,st,h=>by exact aW hC (fun _ _=>h.ex _ _ _) e fun _ _=>wX hC (fun _ _=>h.ex _ _ _) h.nx t
 |.aug i op e,P,P',σ,st,h=>by
  exact GA fun x=>aW hC (fun _ _=>h.ex _ _ _) e fun _ _ z=>⟨z.1,FQ (fun _ _=>h.nx _ _) z.2⟩
 |.iff c a b,P,P',σ,st,h=>by
  refine aW hC (fun _ _=>h.ex _ _ _) c fun _ _=>jM fun k=>?_
  split
  ·exact iS hC a h
  ·exact iS hC b h
 |.whl c b,P,P',σ,st,h=>by
  rintro⟨n,z⟩
  refine⟨n,B4 (fun M M' σ st hM=>aW hC (fun _ _=>h.ex _ _ _) c fun _ _=>jM fun k=>?_) z⟩
  split
  ·exact iS hC b ⟨hM,h.rt,h.nx,hM,h.ex⟩
  ·exact h.nx _ _
 |.gR t k aD b,P,P',σ,st,h=>by
  refine cX hC (fun _ _=>h.ex _ _ _) aD fun _ _=>zB fun as xs=>?_
  exact GW (fun x M M' σ st hM=>wX hC (fun _ _=>h.ex _ _ _) (fun _ _=>iS hC b (P:={ P with nx:=M,ct:=M,bk:=P.nx }) (P':={ P' with nx:=M',ct:=M',bk:=P'.nx }) ⟨hM,h.rt,h.nx,hM,h.ex⟩) t) h.nx
 |.ret e,P,P',σ,st,h=>by exact aW hC (fun _ _=>h.ex _ _ _) e h.rt
 |.brk,P,P',σ,st,h=>by exact h.bk _ _
 |.cnt,P,P',σ,st,h=>by exact h.ct _ _
 |.pass,P,P',σ,st,h=>by exact h.nx _ _
 |.rais c es,P,P',σ,st,h=>by exact cX hC (fun _ _=>h.ex _ _ _) es fun _ _=>h.ex _ _ _
 |.tryy b c n hh,P,P',σ,st,h=>by
  refine iS hC b ⟨h.nx,h.rt,h.bk,h.ct,fun c' σ st=>?_⟩
  show(if sub c' c=true then _ else _)->(if sub c' c=true then _ else _)
  split
  ·exact iS L5 hh ⟨fun _ _=>h.nx _ _,h.rt,fun _ _=>id,fun _ _=>id,fun _ _ _=>id⟩
  ·exact h.ex _ _ _
theorem iS {C C':bL}{sub}(hC:bY C C'):∀(ss:List Sx){P P':gO}{σ:St}{st:aB},P.Le P'->cR C sub ss P σ st->cR C' sub ss P' σ st
 |[],P,P',σ,st,h=>by exact h.nx _ _
 |s::ss,P,P',σ,st,h=>by exact wpS_mono hC s ⟨fun _ _=>iS hC ss h,h.rt,h.bk,h.ct,h.ex⟩
end
theorem pG (G:Prog):∀{j k:Nat},j<=k->bY (aO G j) (aO G k)
 |0,k,_=>fun _ _ _ _ _ _ _ _ _ x=>x.elim
 |j+1,0,h=>by omega
 |j+1,k+1,h=>fun f ds st Q Q' E E' hQ hE=>by
  simp only[aO]
  split
  ·exact id
  ·have hj:j<=k:=by omega
   exact fun z=>⟨z.1,iS (pG G hj) _ (P:=⟨fun _ aA=>Q .non aA,Q,fun _ _=>False,fun _ _=>False,fun c _ aA=>E c aA⟩) (P':=⟨fun _ aA=>Q' .non aA,Q',fun _ _=>False,fun _ _=>False,fun c _ aA=>E' c aA⟩) ⟨fun _ _=>hQ _ _,hQ,fun _ _=>id,fun _ _=>id,fun _ _ _=>hE _ _⟩ z.2⟩
end L3
end
section
namespace L3
section
variable {C:bL}{sub:Nat->Nat->Bool}{E:XK}{σ:St}{st:aB}{Q:VK}{P:Bool->Prop}{e a b c:Ex}{es:List Ex}{x y:D}{i j:Int}{u v:List Nat}{ds xs ys ks vs:List D}{p q:Nat}{K:List D->Prop}{M:List D->List D->Prop}
theorem aF {R:gO}:cR C sub [] R σ st=R.nx σ st:=rfl
theorem R3 {R:gO}{s:Sx}{ss:List Sx}:cR C sub (s::ss) R σ st=wpS C sub s { R with nx:=cR C sub ss R } σ st:=rfl
theorem fJ {R:gO}{s:Sx}{ss:List Sx}(h:wpS C sub s { R with nx:=cR C sub ss R } σ st):cR C sub (s::ss) R σ st:=h
theorem cN (h:st p=some (.lst ds)):eR st p K M=K ds:=by unfold eR;rw[h]
theorem aE (h:st p=some (.lst ds)):cM st p K=K ds:=by unfold cM;rw[h]
theorem bD {α:Type}{x:α}{K:α->Prop}:cZ (some x) K=K x:=rfl
theorem RH {α:Type}{K:α->Prop}:cZ none K=False:=rfl
theorem Ct {d:D}{r:St}{R:D->Prop}:gD (some d::r) 0 R=R d:=rfl
theorem Bm {o:Option D}{r:St}{n:Nat}{R:D->Prop}:gD (o::r) (n+1) R=gD r n R:=rfl
theorem aN {o:MO}:put st p o p=some o:=by unfold put;rw[if_pos rfl]
theorem aH {o:MO}(h:q≠p):put st p o q=st q:=by unfold put;rw[if_neg h]
theorem AX {o u:MO}(h:st p=none)(h':st q=some u):put st p o q=some u:=by
 rw[aH];exact h'
 intro e;rw[e,h]at h';cases h'
theorem WQ {o u:MO}:put (put st p o) p u=put st p u:=by funext b;unfold put;split<;>rfl
theorem X3:eF .non st P=P false:=rfl
theorem Be {k:Bool}:eF (.bl k) st P=P k:=rfl
theorem XS:eF (.int i) st P=P (i != 0):=rfl
theorem Y4:eF (.tup ds) st P=P (!ds.isEmpty):=rfl
theorem YC:eF (.ref p) st P=eR st p (fun ds=>P (!ds.isEmpty)) fun ks _=>P (!ks.isEmpty):=rfl
theorem TF:eF (.bP ds) st P=P (!ds.isEmpty):=rfl
theorem Bs:dE .eq x y st P=(plainS st x/\plainS st y/\P (bT st x y)):=rfl
theorem Ef:dE .ne x y st P=(plainS st x/\plainS st y/\P (!bT st x y)):=rfl
theorem Fh:dE .lt (.int i) (.int j) st P=P (decide (i<j)):=rfl
theorem Cd:dE .le (.int i) (.int j) st P=P (decide (i<=j)):=rfl
theorem cmp_gt:dE .gt (.int i) (.int j) st P=P (decide (j<i)):=rfl
theorem Cp:dE .ge (.int i) (.int j) st P=P (decide (j<=i)):=rfl
theorem W0:dE .is_ x .non st P=P (HQ x):=rfl
theorem YD {k:Bool}:dE .is_ x (.bl k) st P=P (SY k x):=rfl
theorem U7:dE .isnot x .non st P=P (!HQ x):=rfl
theorem TN {k:Bool}:dE .isnot x (.bl k) st P=P (!SY k x):=rfl
theorem NU:dE .in_ x (.tup ds) st P=(plainS st x/\dW st ds/\P (ds.any fun d=>bT st d x)):=rfl
theorem LZ {w:List Nat}:dE .in_ (.str w) (.dA ks vs) st P=P (ks.any fun d=>bK d (.str w)):=rfl
theorem OV:dE .in_ (.str u) (.str v) st P=P (occurs u v):=rfl
theorem LX:dE .fX x (.tup ds) st P=(plainS st x/\dW st ds/\P (!ds.any fun d=>bT st d x)):=rfl
theorem tY:dE .fX x (.ref p) st P=eR st p (fun ds=>plainS st x/\dW st ds/\P (!ds.any fun d=>bT st d x)) fun ks _=>plain x/\vE ks/\P (!ks.any fun d=>bK d x):=rfl
theorem K5 {w:List Nat}:dE .fX (.str w) (.dA ks vs) st P=P (!ks.any fun d=>bK d (.str w)):=rfl
theorem L8:dE .fX (.str u) (.str v) st P=P (!occurs u v):=rfl
theorem add_int:iC .add (.int i) (.int j) st Q=Q (.int (i+j)) st:=rfl
theorem add_str:iC .add (.str u) (.str v) st Q=(u.length+v.length<=aZ/\Q (.str (u++v)) st):=rfl
theorem EK:iC .add (.tup xs) (.tup ys) st Q=(xs.length+ys.length<=aZ/\Q (.tup (xs++ys)) st):=rfl
theorem XN:iC .add (.ref p) (.ref q) st Q=cM st p fun xs=>cM st q fun ys=>iF (xs++ys) st Q:=rfl
theorem sub_int:iC .sub (.int i) (.int j) st Q=Q (.int (i-j)) st:=rfl
theorem mul_int:iC .mul (.int i) (.int j) st Q=((DF i∨DF j)/\Q (.int (i*j)) st):=rfl
theorem WW:iC .mul (.tup xs) (.int i) st Q=((0<xs.length/\xs.length<=1000/\1<=i/\i<1000)/\Q (.tup (ai i.toNat xs).flatten) st):=rfl
theorem UM:iC .fdiv (.int i) (.int j) st Q=((0<j/\j<1073741824)/\Q (.int (i / j)) st):=rfl
theorem mod_int:iC .mod (.int i) (.int j) st Q=(0<j/\Q (.int (i % j)) st):=rfl
theorem pow_int:iC .pow (.int i) (.int j) st Q=((0<=j/\j<=1000000/\i.natAbs<18446744073709551616)/\Q (.int (i ^ j.toNat)) st):=rfl
theorem neg_int:zY (.int i) st Q=Q (.int (-i)) st:=rfl
theorem X6 {t:Ty}:vX sub x st [t] P=jW sub x st t P:=rfl
theorem YI {t t':Ty}{ts:List Ty}:vX sub x st (t::t'::ts) P=jW sub x st t fun b=>if b=true then P true else vX sub x st (t'::ts) P:=rfl
theorem lK:nZ (.tup ds) (.int i) st Q=cZ (fZ ds i) fun d=>Q d st:=rfl
theorem ML:nZ (.bP ds) (.int i) st Q=cZ (fZ ds i) fun d=>Q d st:=rfl
theorem IZ:nZ (.str u) (.int i) st Q=(u.length<=aZ/\cZ (fZ u i) fun c=>Q (.str [c]) st):=rfl
theorem WT {w:List Nat}:nZ (.dA ks vs) (.str w) st Q=cZ (vW ks vs (.str w)) fun d=>Q d st:=rfl
theorem dX (h:st p=some (.lst ds)):nZ (.ref p) (.int i) st Q=cZ (fZ ds i) fun d=>Q d st:=by
 show eR st p _ _=_
 rw[cN h]
theorem dR {α:Type}{xs:List α}{n:Nat}(h:n<xs.length):fZ xs (n:Int)=xs[n]?:=by
 unfold fZ oA
 rw[if_pos (by omega),if_pos (by omega)]
 simp
theorem EU {α:Type}{x:α}{r:List α}:fZ (x::r) 0=some x:=dR (n:=0) (by simp)
theorem UH {α:Type}{x y:α}{r:List α}:fZ (x::y::r) 1=some y:=dR (n:=1) (by simp)
theorem UR {α:Type}{x y z:α}{r:List α}:fZ (x::y::z::r) 2=some z:=dR (n:=2) (by simp)
theorem Mb {α:Type}{x y z w:α}{r:List α}:fZ (x::y::z::w::r) 3=some w:=dR (n:=3) (by simp)
theorem Nj {α:Type}{x y z w t:α}{r:List α}:fZ (x::y::z::w::t::r) 4=some t:=dR (n:=4) (by simp)
theorem Ei {R:Option Int->Prop}:oV [] R=R none:=rfl
theorem Es {R:Option Int->Prop}:oV [.int i] R=R (some i):=rfl
theorem K1 {lo hi:Option Int}:DK (.tup ds) lo hi st Q=Q (.tup (cut ds lo hi)) st:=rfl
theorem Cq {lo hi:Option Int}:DK (.ref p) lo hi st Q=cM st p fun ds=>∀ p,st p=none->Q (.ref p) (put st p (.lst (cut ds lo hi))):=rfl
theorem Hx {α:Type}{d:α}{ds:List α}:cut (d::ds) (some 1) none=ds:=by simp [cut,cJ]
theorem A5 {α:Type}{xs:List α}{lo hi:Option Int}:(cut xs lo hi).length<=xs.length:=by simp only[cut,ny,td];omega
theorem W5 {R:List Nat->List D->Prop}:gN none [x] st R=oW x st R:=rfl
theorem UB {R:List Nat->List D->Prop}:oW (.tup ds) st R=R [] ds:=rfl
theorem U4 {R:List Nat->List D->Prop}:oW (.str u) st R=(u.length<=aZ/\R [] (u.map fun c=>.str [c])):=rfl
theorem mF {R:List Nat->List D->Prop}:oW (.ref p) st R=cM st p fun ds=>R [p] ds:=rfl
theorem QW {R:List Nat->List D->Prop}:oW (.bP ds) st R=R [] ds:=rfl
theorem uS {R:List Nat->List D->Prop}:eE (.tup ds) st R=R [] ds:=rfl
theorem vN {R:List Nat->List D->Prop}:eE (.ref p) st R=cM st p fun ds=>R [p] ds:=rfl
theorem SR {R:List Nat->List D->Prop}:eE (.bP ds) st R=R [] ds:=rfl
theorem OX {R:List Nat->List D->Prop}:gN (some .range) [.int j] st R=(dU j/\R [] (iY 0 j.toNat)):=rfl
theorem NV {R:List Nat->List D->Prop}:gN (some .range) [.int i,.int j] st R=(dU i/\dU j/\R [] (iY i (j-i).toNat)):=rfl
theorem DM {R:List Nat->List D->Prop}{c:Int}:gN (some .range) [.int i,.int j,.int c] st R=(c = -1/\dU i/\dU j/\R [] (oG i (i-j).toNat)):=rfl
theorem YO {R:List Nat->List D->Prop}:gN (some .rev) [x] st R=eE x st fun as xs=>R as xs.reverse:=rfl
theorem PQ:gS .len [x] st Q=pS x st fun n=>Q (.int (n:Nat)) st:=rfl
theorem WS {R:Nat->Prop}:pS (.tup ds) st R=R ds.length:=rfl
theorem LA {R:Nat->Prop}:pS (.bP ds) st R=R ds.length:=rfl
theorem len_str {R:Nat->Prop}:pS (.str u) st R=(u.length<=aZ/\R u.length):=rfl
theorem FC {R:Nat->Prop}:pS (.ref p) st R=eR st p (fun ds=>R ds.length) fun ks _=>R ks.length:=rfl
theorem Q1:gS .all [x] st Q=eE x st fun _ xs=>eT .all xs st Q:=rfl
theorem Q6:gS .any [x] st Q=eE x st fun _ xs=>eT .any xs st Q:=rfl
theorem Z7:gS .max [x] st Q=eE x st fun _ xs=>eT .max xs st Q:=by cases x<;>rfl
theorem Ak:gS .min [x] st Q=eE x st fun _ xs=>eT .min xs st Q:=by cases x<;>rfl
theorem RO:gS .sum [x] st Q=eE x st fun _ xs=>eT .sum xs st Q:=by cases x<;>rfl
theorem MI:gS .list [x] st Q=eE x st fun _ xs=>eT .list xs st Q:=rfl
theorem KW:gS .tuple [x] st Q=eE x st fun _ xs=>eT .tuple xs st Q:=rfl
theorem G6 {ds:List D}:gS .sH [.tup ds] st Q=cZ (strsOf ds) fun ws=>ws.length<4000/\Q (.int (zT [] ws:Nat)) st:=rfl
theorem Y5:gS .max [.int i,.int j] st Q=Q (.int (if j>i then j else i)) st:=rfl
theorem ZQ:gS .int [.int i] st Q=Q (.int i) st:=rfl
theorem YE {k:Bool}:gS .int [.bl k] st Q=Q (.int (if k then 1 else 0)) st:=rfl
theorem Fm:eT .all xs st Q=cZ (boolsOf xs) fun bs=>Q (.bl (bs.all id)) st:=rfl
theorem As:eT .any xs st Q=cZ (boolsOf xs) fun bs=>Q (.bl (bs.any id)) st:=rfl
theorem Bh:eT .sum xs st Q=cZ (intsOf xs) fun is=>Q (.int is.sum) st:=rfl
theorem WM:eT .list xs st Q=iF xs st Q:=rfl
theorem UD:eT .tuple xs st Q=(xs.length<=aZ/\Q (.tup xs) st):=rfl
theorem ZN:zL (.tup ds) st K=K ds:=rfl
theorem M3:zL (.ref p) st K=cM st p K:=rfl
theorem vR:zM .append (.ref p) st=cM st p fun _=>True:=rfl
theorem NP:zM .extend (.ref p) st=cM st p fun _=>True:=rfl
theorem XH:zM .pop (.ref p) st=cM st p fun _=>True:=rfl
theorem tL {x:D}:zM .index x st=eE x st fun _ _=>True:=rfl
theorem vU {x d:D}:jX .index x [d] st Q=eE x st fun _ ds=>plainS st d/\dW st ds/\cZ (findD st d ds) fun i=>Q (.int (i:Nat)) st:=rfl
theorem sT:jX .append (.ref p) [x] st Q=cM st p fun xs=>xs.length<aZ/\Q .non (put st p (.lst (xs++[x]))):=rfl
theorem yU:jX .extend (.ref p) [x] st Q=cM st p fun xs=>zL x st fun ys=>xs.length+ys.length<=aZ/\Q .non (put st p (.lst (xs++ys))):=rfl
theorem LD:jX .pop (.ref p) [] st Q=cM st p fun xs=>cZ (xs[xs.length-1]?) fun d=>Q d (put st p (.lst xs.dropLast)):=rfl
theorem MG {R:aB->Prop}:CA (.ref p) (.int i) x st R=cM st p fun xs=>cZ (oA xs.length i) fun j=>R (put st p (.lst (xs.set j x))):=rfl
theorem Fj {n:Nat}{R:St->Prop}:kQ true [n] x σ R=R (σ.set n (some x)):=rfl
theorem RT {is:List Nat}{R:St->Prop}:kQ false is (.tup ds) σ R=(ds.length=is.length/\R ((is.zip ds).foldl (fun σ p=>σ.set p.1 (some p.2)) σ)):=by cases is<;>rfl
end
theorem Ext.refl {st:aB}:Ext st st:=fun _ _ h=>h
theorem Ext.trans {a b c:aB}(h:Ext a b)(h':Ext b c):Ext a c:=fun x o e=>h' x o (h x o e)
theorem Ext.new {st:aB}{p:Nat}{o:MO}(h:st p=none):Ext st (put st p o):=fun a u e=>AX h e
end L3
end
section
namespace L3
theorem jU {st aA:aB}:same [] st aA:=fun _ h=>nomatch h
theorem comp_map {g:aB->Prop}{turn:D->aB->(Option D->aB->Prop)->Prop}{R:List D->aB->Prop}(f:D->D):∀(xs acc:List D)(st:aB),
  (∀ aA,Ext st aA->g aA)->(∀ x∈xs,∀ aA (K:Option D->aB->Prop),Ext st aA->(∀ aX,Ext aA aX->K (some (f x)) aX)->turn x aA K) ->
  acc.length+xs.length<=aZ->(∀ aA,Ext st aA->R (acc++xs.map f) aA)->jQ g turn xs acc st R
 |[],acc,st,hg,_,_,hR=>⟨hg st .refl,by simpa using hR st .refl⟩
 |x::xs,acc,st,hg,ht,hl,hR=>by
  refine⟨hg st .refl,by simp at hl;omega,ht x (by simp) st _ .refl fun aX h''=>?_⟩
  refine comp_map f xs (acc++[f x]) aX (fun aA h=>hg aA (h''.trans h)) (fun y hy aA K h=>ht y (by simp [hy]) aA K (h''.trans h)) (by simp at hl ⊢;omega) fun aA h=>?_
  simpa using hR aA (h''.trans h)
mutual
theorem xB {st:aB}:∀ d:D,bH d=true->fH st d=true
 |.non,_=>rfl
 |.bl _,_=>rfl
 |.int _,_=>rfl
 |.str _,_=>rfl
 |.tup ds,h=>by simp only[bH]at h;simp only[fH];exact pL ds h
 |.ref _,h=>by simp [bH]at h
 |.dA _ _,h=>by simp [bH]at h
 |.bP _,h=>by simp [bH]at h
 |.exc _,h=>by simp [bH]at h
theorem pL {st:aB}:∀ ds:List D,bO ds=true->hU st ds=true
 |[],_=>rfl
 |d::ds,h=>by
  simp only[bO,ay]at h
  simp only[hU,ay]
  exact⟨xB d h.1,pL ds h.2⟩
end
theorem plain.s {d:D}(h:plain d){st:aB}:plainS st d:=⟨xB d h.1,h.2⟩
theorem vE.s {ds:List D}(h:vE ds){st:aB}:dW st ds:=⟨pL ds h.1,h.2⟩
theorem FW {x:List Nat}:plain (.str x):=⟨rfl,cu _⟩
theorem G9 {i:Int}:plain (.int i):=⟨rfl,cu _⟩
theorem LF {b:Bool}:plain (.bl b):=⟨rfl,cu _⟩
theorem G7:plain .non:=⟨rfl,cu _⟩
theorem wK {x:List Nat}{st:aB}:plainS st (.str x):=FW.s
theorem O4 {i:Int}{st:aB}:plainS st (.int i):=G9.s
theorem RR {b:Bool}{st:aB}:plainS st (.bl b):=LF.s
theorem NL {st:aB}:plainS st .non:=G7.s
theorem lS:∀ xs:List (List Nat),vE (xs.map .str)
 |[]=>⟨rfl,cu _⟩
 |x::xs=>by
  have h:=lS xs
  exact⟨by simp only[av,bO,bH,fe];exact h.1,by simp only[av,cI,cL];exact Nat.max_le.mpr ⟨Nat.zero_le _,h.2⟩⟩
theorem iP {st:aB}{x y:List Nat}:bT st (.str x) (.str y)=(x==y):=by simp only[bT]
theorem YK {st:aB}{x y:Int}:bT st (.int x) (.int y)=(x==y):=by simp only[bT]
theorem Df {st:aB}{x y:Bool}:bT st (.bl x) (.bl y)=(x==y):=by simp only[bT]
theorem WY {x y:List Nat}:bK (.str x) (.str y)=(x==y):=by simp only[bK]
theorem rT {st:aB}(x:List Nat):∀ xs:List (List Nat),((xs.map D.str).any fun d=>bT st d (.str x))=xs.contains x
 |[]=>rfl
 |y::xs=>by
  simp only[av,jk,iP,rT x xs,l8]
  congr 1
  exact Bool.beq_comm
end L3
end
section
namespace L3
open PySem PySem.Spec PyProof.Rows L2
mutual
noncomputable def qN (w:World):D->Int
 |.str x=>hashStr w ⟨x.toArray⟩
 |.bl b=>Qn (if b=true then 1 else 0)
 |.tup ds=>Qn (fo (hZ w ds))
 |_=>0
noncomputable def hZ (w:World):List D->List Int
 |[]=>[]
 |d::ds=>qN w d::hZ w ds
end
mutual
noncomputable def sU:D->Nat
 |.tup ds=>kF ds+1
 |_=>1
noncomputable def kF:List D->Nat
 |[]=>0
 |d::ds=>sU d+kF ds
end
noncomputable def Mv (w:World)(x:D×Addr×Value):DictEntry:=⟨qN w x.1,.ref x.2.1,x.2.2⟩
noncomputable def ON (a:Addr)(xs:List (D×Addr×Value))(w:World)(h:Heap):Prop:=∃ o es ep,h.get? a=some o/\o.ExactDict/\o.data=.dict es ep/\es.toList=xs.map (Mv w)
noncomputable def rH (a:Addr)(xs:List (D×Addr×Value)):HO:=.ext fun _ w h=>ON a xs w h
noncomputable def clsAt (K:ab)(c:List Nat)(C:Addr):Prop:=jf K cj ⟨c.toArray⟩=some (some (.ref C))
theorem clsAt.inj {K:ab}{c:List Nat}{C C':Addr}(h:clsAt K c C)(h':clsAt K c C'):C=C':=by
 have:=h.symm.trans h'
 injection this with e;injection e with e;injection e
end L3
end
section
namespace L3
open PySem PySem.Spec PyProof.Rows L2
noncomputable def rO (K:ab)(H:Hp)(a:Addr)(vs:List V):Prop :=
 (∃ o,H a=some (.frz o (.lst vs)))∨∃(o:Obj)(aD:Array Value)(n:Nat),K.lookup a=some o/\o.cls=.type "list" /\ o.dict=none/\o.data=.seq aD n/\aD.size<=sizeLine/\aQ vs aD.toList
theorem rO.sq {K:ab}{H:Hp}{a:Addr}{vs:List V}:rO K H a vs->dQ K H a vs
 |.inl ⟨o,h⟩=>.inl (.inr ⟨o,h⟩)
 |.inr h=>.inr h
noncomputable def tI:Qo->D
 |.bool b=>.bl b
 |.int i=>.int i
 |.str x=>.str x.cps.toList
 |_=>.non
noncomputable def oJ:Qo->Bool
 |.none=>true
 |.bool _=>true
 |.int _=>true
 |.str _=>true
 |_=>false
noncomputable def Dz (K:ab)(a:Addr)(ks vs:List D):Prop:=∃ T:List (Str×PyData),wj rm (fun b=>K.lookup b) a T=true/\(T.all fun p=>oJ p.2)=true/\ks=T.map (fun p=>.str p.1.cps.toList)/\vs=T.map (fun p=>tI p.2)
mutual
inductive Rep (K:ab)(H:Hp):D->V->Prop where
 |non:Rep K H .non .non
 |bl (b:Bool):Rep K H (.bl b) (.bl b)
 |int (i:Int):Rep K H (.int i) (.int i)
 |str (x:List Nat):Rep K H (.str x) (.str ⟨x.toArray⟩)
 |tup {ds:List D}{a:Addr}{vs:List V}(h:eS K H a vs)(r:aL K H ds vs):Rep K H (.tup ds) (.ref a)
 |ref (a:Addr):Rep K H (.ref a) (.ref a)
 |bP {ds:List D}{a:Addr}{vs:List V}(h:rO K H a vs)(r:aL K H ds vs):Rep K H (.bP ds) (.ref a)
 |dA {ks vs:List D}{a:Addr}(h:Dz K a ks vs):Rep K H (.dA ks vs) (.ref a)
inductive aL (K:ab)(H:Hp):List D->List V->Prop where
 |nil:aL K H [] []
 |cons {d:D}{v:V}{ds:List D}{vs:List V}(h:Rep K H d v)(r:aL K H ds vs):aL K H (d::ds) (v::vs)
end
noncomputable def iW (K:ab)(H:Hp)(fs:List (List Nat×D))(ws:List (Str×V)):Prop:=ws.map (·.1)=fs.map (fun p=>(⟨p.1.toArray⟩:Str))/\aL K H (fs.map (·.2)) (ws.map (·.2))
noncomputable def bears:HO->Bool
 |.lst _=>true
 |.ins _ _ _=>true
 |.ext _=>true
 |_=>false
noncomputable def AE (K:ab)(H:Hp)(a:Addr):MO->Prop
 |.lst ds=>∃ vs,H a=some (.lst vs)/\aL K H ds vs
 |.dic _ _=>False
 |.ins c fs=>∃ C dx ws,clsAt K c C/\H a=some (.ins C dx ws)/\iW K H fs ws
 |.tab ks vs=>∃(xs:List (D×Addr×Value))(ws:List V),H a=some (rH a xs)/\(a==nv)=false/\xs.map (·.1)=ks/\(xs.map (·.1)).Nodup/\aL K H ks (xs.map fun x=>.ref x.2.1)/\(∀ x∈xs,keyed x.1)/\aQ ws (xs.map (·.2.2))/\aL K H vs ws
noncomputable def aS (K:ab)(st:aB)(H:Hp):Prop:=∀ a o,st a=some o->AE K H a o
noncomputable def Step (H:Hp)(st:aB)(H':Hp)(aA:aB):Prop:=∀ a o,H a=some o->st a=none->H' a=some o/\aA a=none
theorem Step.refl {H:Hp}{st:aB}:Step H st H st:=fun _ _ h n=>⟨h,n⟩
theorem Step.trans {H H1 H2:Hp}{st aC aG:aB}(a:Step H st H1 aC)(b:Step H1 aC H2 aG):Step H st H2 aG:=fun x o h n=>let⟨h1,n1⟩:=a x o h n;b x o h1 n1
section
variable {K:ab}{H H' H1:Hp}{st aA aC:aB}{a p:Addr}{d:D}{v:V}{ds:List D}{vs:List V}
theorem AE.bears {m:MO}(h:AE K H a m):∃ o,H a=some o/\L3.bears o=true:=by
 cases m with
 |lst ds=>obtain⟨vs,q,_⟩:=h;exact⟨_,q,rfl⟩
 |dic _ _=>exact h.elim
 |ins c fs=>obtain⟨_,_,_,_,q,_⟩:=h;exact⟨_,q,rfl⟩
 |tab ks vs=>obtain⟨_,_,q,_⟩:=h;exact⟨_,q,rfl⟩
theorem aS.LJ (ok:aS K st H){o:HO}(h:H a=some o)(n:L3.bears o=false):st a=none:=by
 cases e:st a with
 |none=>rfl
 |some u =>
 obtain⟨o',e1,e2⟩:=(ok a u e).bears
 rw[h]at e1;cases e1
 rw[n]at e2;cases e2
theorem aS.fresh (ok:aS K st H)(h:H a=none):st a=none:=by
 cases e:st a with
 |none=>rfl
 |some u =>
 obtain⟨o',e1,e2⟩:=(ok a u e).bears
 rw[h]at e1;cases e1
theorem wV (ok:aS K st H)(s:Step H st H' aA)(h:eS K H a vs):eS K H' a vs:=by
 rcases h with(h|⟨o,h⟩)|h
 ·exact .inl (.inl (s a _ h (ok.LJ h rfl)).1)
 ·exact .inl (.inr ⟨o,(s a _ h (ok.LJ h rfl)).1⟩)
 ·exact .inr h
theorem tG (ok:aS K st H)(s:Step H st H' aA)(h:rO K H a vs):rO K H' a vs:=by
 rcases h with⟨o,h⟩|h
 ·exact .inl ⟨o,(s a _ h (ok.LJ h rfl)).1⟩
 ·exact .inr h
mutual
theorem Rep.step (ok:aS K st H)(s:Step H st H' aA):∀{d:D}{v:V},Rep K H d v->Rep K H' d v
 |_,_,.non=>.non
 |_,_,.bl b=>.bl b
 |_,_,.int i=>.int i
 |_,_,.str x=>.str x
 |_,_,.tup h r=>.tup (wV ok s h) (aL.step ok s r)
 |_,_,.ref a=>.ref a
 |_,_,.bP h r=>.bP (tG ok s h) (aL.step ok s r)
 |_,_,.dA h=>.dA h
theorem aL.step (ok:aS K st H)(s:Step H st H' aA):∀{ds:List D}{vs:List V},aL K H ds vs->aL K H' ds vs
 |_,_,.nil=>.nil
 |_,_,.cons h r=>.cons (Rep.step ok s h) (aL.step ok s r)
end
theorem AE.step (ok:aS K st H)(s:Step H st H' aA){m:MO}(h:AE K H a m)(e:H' a=H a):AE K H' a m:=by
 cases m with
 |lst ds=>obtain⟨vs,q,r⟩:=h;exact⟨vs,e.trans q,r.step ok s⟩
 |dic _ _=>exact h
 |ins c fs=>obtain⟨C,dx,ws,q,q2,q3,r⟩:=h;exact⟨C,dx,ws,q,e.trans q2,q3,r.step ok s⟩
 |tab ks vs=>obtain⟨xs,ws,q,q0,q1,q2,q3,q4,q5,r⟩:=h;exact⟨xs,ws,e.trans q,q0,q1,q2,q3.step ok s,q4,q5,r.step ok s⟩
theorem aL.length:∀{ds:List D}{vs:List V},aL K H ds vs->ds.length=vs.length
 |_,_,.nil=>rfl
 |_,_,.cons _ r=>by simp [aL.length r]
theorem aL.get:∀{ds:List D}{vs:List V}{i:Nat}{d:D},aL K H ds vs->ds[i]? = some d->∃ v,vs[i]? = some v/\Rep K H d v
 |_,_,_,_,.nil,e=>by simp at e
 |_,_,0,_,.cons h _,e=>by simp at e;subst e;exact⟨_,rfl,h⟩
 |_,_,i+1,d,.cons _ r,e=>by
  obtain⟨v,e1,e2⟩:=aL.get (i:=i) (d:=d) r (by simpa using e)
  exact⟨v,by simpa using e1,e2⟩
theorem aL.append:∀{ds es:List D}{vs us:List V},aL K H ds vs->aL K H es us->aL K H (ds++es) (vs++us)
 |_,_,_,_,.nil,s=>s
 |_,_,_,_,.cons h r,s=>.cons h (aL.append r s)
theorem aL.take:∀{ds:List D}{vs:List V}(n:Nat),aL K H ds vs->aL K H (ds.take n) (vs.take n)
 |_,_,0,_=>by simp;exact .nil
 |_,_,_+1,.nil=>by simp;exact .nil
 |_,_,n+1,.cons h r=>by simp only[List.take_succ_cons];exact .cons h (aL.take n r)
theorem aL.drop:∀{ds:List D}{vs:List V}(n:Nat),aL K H ds vs->aL K H (ds.drop n) (vs.drop n)
 |_,_,0,r=>by simpa using r
 |_,_,_+1,.nil=>by simp;exact .nil
 |_,_,n+1,.cons _ r=>by simp only[xf];exact aL.drop n r
theorem aL.set (h:Rep K H d v):∀{ds:List D}{vs:List V}(i:Nat),aL K H ds vs->aL K H (ds.set i d) (vs.set i v)
 |_,_,_,.nil=>by simp;exact .nil
 |_,_,0,.cons _ r=>by simp only[dg];exact .cons h r
 |_,_,i+1,.cons q r=>by simp only[du];exact .cons q (aL.set h i r)
theorem aL.dropLast {ds:List D}{vs:List V}(r:aL K H ds vs):aL K H ds.dropLast vs.dropLast:=by
 rw[vw,vw,r.length]
 exact r.take _
theorem aL.reverse:∀{ds:List D}{vs:List V},aL K H ds vs->aL K H ds.reverse vs.reverse
 |_,_,.nil=>by simp;exact .nil
 |_,_,.cons h r=>by simp only[kn];exact(aL.reverse r).append (.cons h .nil)
inductive QD (K:ab)(H:Hp)(st:aB)(R:VK)(v:V)(H':Hp):Prop where
 |mk (d:D)(aA:aB)(s:Step H st H' aA)(ok:aS K aA H')(r:Rep K H' d v)(q:R d aA):QD K H st R v H'
inductive Ln (K:ab)(H:Hp)(st:aB)(R:List D->aB->Prop)(vs:List V)(H':Hp):Prop where
 |mk (ds:List D)(aA:aB)(s:Step H st H' aA)(ok:aS K aA H')(r:aL K H' ds vs)(q:R ds aA):Ln K H st R vs H'
inductive QX (K:ab)(H:Hp)(st:aB)(R:aB->Prop)(H':Hp):Prop where
 |mk (aA:aB)(s:Step H st H' aA)(ok:aS K aA H')(q:R aA):QX K H st R H'
theorem QD.here {R:VK}(ok:aS K st H)(r:Rep K H d v)(h:R d st):QD K H st R v H:=⟨d,st,.refl,ok,r,h⟩
theorem QD.after {R:VK}(s:Step H st H1 aC)(h:QD K H1 aC R v H'):QD K H st R v H':=let⟨d,aA,s',ok,r,q⟩:=h;⟨d,aA,s.trans s',ok,r,q⟩
theorem sE {o:HO}(hp:H p=none):Step H st (upd H p o) st:=fun a u h n=>by
 have e:a≠p:=fun e=>by rw[e,hp]at h;cases h
 exact⟨by rw[cA e];exact h,n⟩
theorem mR {o:HO}{m:MO}(hp:H p=none):Step H st (upd H p o) (put st p m):=fun a u h n=>by
 have e:a≠p:=fun e=>by rw[e,hp]at h;cases h
 exact⟨by rw[cA e];exact h,by rw[aH e];exact n⟩
theorem aS.new {o:HO}(ok:aS K st H)(hp:H p=none):aS K st (upd H p o):=fun a u e=>by
 have ne:a≠p:=fun z=>by obtain⟨o',q,_⟩:=(ok a u e).bears;rw[z,hp]at q;cases q
 exact(ok a u e).step ok (sE (st:=st) hp) (cA ne)
theorem aS.VC {o:HO}{m:MO}(ok:aS K st H)(hp:H p=none)(r:AE K (upd H p o) p m):aS K (put st p m) (upd H p o):=fun a u e=>by
 have s:Step H st (upd H p o) (put st p m):=mR hp
 by_cases ha:a=p
 ·subst ha
  rw[aN]at e;cases e
  exact r
 ·rw[aH ha]at e
  exact(ok a u e).step ok s (cA ha)
theorem aS.iF (ok:aS K st H)(hp:H p=none)(r:aL K H ds vs):aS K (put st p (.lst ds)) (upd H p (.lst vs)):=fun a u e=>by
 have s:Step H st (upd H p (.lst vs)) (put st p (.lst ds)):=mR hp
 by_cases ha:a=p
 ·subst ha
  rw[aN]at e;cases e
  exact⟨vs,eI,r.step ok s⟩
 ·rw[aH ha]at e
  exact(ok a u e).step ok s (cA ha)
theorem QD.IL {R:VK}(ok:aS K st H)(r:aL K H ds vs)(hp:H p=none)(h:R (.tup ds) st):QD K H st R (.ref p) (upd H p (.tup vs)) :=
 ⟨.tup ds,st,sE hp,ok.new hp,.tup (eS.of eI) (r.step ok (sE (st:=st) hp)),h⟩
theorem QD.iF {R:VK}(ok:aS K st H)(r:aL K H ds vs)(hp:H p=none)(h:∀ p,st p=none->R (.ref p) (put st p (.lst ds))):QD K H st R (.ref p) (upd H p (.lst vs)) :=
 ⟨.ref p,put st p (.lst ds),mR hp,ok.iF hp r,.ref p,h p (ok.fresh hp)⟩
theorem aS.lst (ok:aS K st H)(h:st a=some (.lst ds)):∃ vs,H a=some (.lst vs)/\aL K H ds vs:=ok a _ h
theorem lG {o:HO}{m m':MO}(h:st a=some m):Step H st (upd H a o) (put st a m'):=fun b u hb n=>by
 have e:b≠a:=fun e=>by rw[e,h]at n;cases n
 exact⟨by rw[cA e];exact hb,by rw[aH e];exact n⟩
theorem aS.set (ok:aS K st H){m:MO}(h:st a=some m)(r:aL K H ds vs):aS K (put st a (.lst ds)) (upd H a (.lst vs)):=fun b u e=>by
 have s:Step H st (upd H a (.lst vs)) (put st a (.lst ds)):=lG h
 by_cases ha:b=a
 ·subst ha
  rw[aN]at e;cases e
  exact⟨vs,eI,r.step ok s⟩
 ·rw[aH ha]at e
  exact(ok b u e).step ok s (cA ha)
theorem aS.EG {o:HO}{m m':MO}(ok:aS K st H)(h:st a=some m)(r:AE K (upd H a o) a m'):aS K (put st a m') (upd H a o):=fun b u e=>by
 have s:Step H st (upd H a o) (put st a m'):=lG h
 by_cases ha:b=a
 ·subst ha
  rw[aN]at e;cases e
  exact r
 ·rw[aH ha]at e
  exact(ok b u e).step ok s (cA ha)
theorem QD.set {R:VK}(ok:aS K st H){m:MO}(h:st a=some m)(r:aL K H ds vs)(rd:Rep K H d v)(q:R d (put st a (.lst ds))):QD K H st R v (upd H a (.lst vs)) :=
 ⟨d,put st a (.lst ds),lG h,ok.set h r,rd.step ok (lG (m':=.lst ds) h),q⟩
end
noncomputable def dO (K:ab)(H:Hp)(σd:St)(σ:L2.St):Prop:=σd.length=σ.length/\∀(i:Nat)(d:D),σd[i]? = some (some d)->∃ v,σ[i]? = some (some v)/\Rep K H d v
theorem dO.step {K:ab}{H H':Hp}{st aA:aB}{σd:St}{σ:L2.St}(r:dO K H σd σ)(ok:aS K st H)(s:Step H st H' aA):dO K H' σd σ :=
 ⟨r.1,fun i d e=>let⟨v,e1,e2⟩:=r.2 i d e;⟨v,e1,e2.step ok s⟩⟩
theorem dO.set {K:ab}{H:Hp}{σd:St}{σ:L2.St}{d:D}{v:V}(r:dO K H σd σ)(i:Nat)(h:Rep K H d v):dO K H (σd.set i (some d)) (σ.set i (some v)):=by
 refine⟨by simpa using r.1,fun j e hj=>?_⟩
 by_cases q:j=i
 ·subst q
  by_cases hl:j<σd.length
  ·rw[kc hl]at hj
   cases hj
   exact⟨v,by rw[kc (by rw[<-r.1];exact hl)],h⟩
  ·rw[de (by simp;omega)]at hj;cases hj
 ·rw[gV (cz q)]at hj
  obtain⟨u,e1,e2⟩:=r.2 j e hj
  exact⟨u,by rw[gV (cz q)];exact e1,e2⟩
noncomputable abbrev Bx:=St->aB->VK->Prop
inductive bZ (K:ab)(te:Bx)(σ:L2.St)(H:Hp)(Q:L2.VK):Prop where
 |mk (σd:St)(st:aB)(R:VK)(r:dO K H σd σ)(ok:aS K st H)(q:te σd st R)(hq:∀ v H',QD K H st R v H'->Q v H'):bZ K te σ H Q
inductive lQ (K:ab)(te:St->aB->(List D->aB->Prop)->Prop)(σ:L2.St)(H:Hp)(Q:List V->Hp->Prop):Prop where
 |mk (σd:St)(st:aB)(R:List D->aB->Prop)(r:dO K H σd σ)(ok:aS K st H)(q:te σd st R)(hq:∀ vs H',Ln K H st R vs H'->Q vs H'):lQ K te σ H Q
inductive jS (K:ab)(te:Bx)(σ:L2.St)(H:Hp)(Q:Bool->Hp->Prop):Prop where
 |mk (σd:St)(st:aB)(R:Bool->aB->Prop)(r:dO K H σd σ)(ok:aS K st H)(q:te σd st (fun d aA=>eF d aA fun b=>R b aA))(hq:∀(b:Bool) H',QX K H st (R b) H'->Q b H'):jS K te σ H Q
theorem _root_.L2.PE.imp {X:Cx}{e:Expr}{t t':L2.TE}(i:∀ σ H Q,t' σ H Q->t σ H Q)(h:PE X e t):PE X e t':=fun pins s σ H Q I q=>h pins s σ H Q I (i σ H Q q)
theorem _root_.L2.PT.imp {X:Cx}{e:Expr}{t t':L2.TT}(i:∀ σ H Q,t' σ H Q->t σ H Q)(h:PT X e t):PT X e t':=fun pins s σ H Q I q=>h pins s σ H Q I (i σ H Q q)
theorem _root_.L2.PW.imp {X:Cx}{e:Expr}{t t':L2.TT}(i:∀ σ H Q,t' σ H Q->t σ H Q)(h:PW X e t):PW X e t':=fun wh pins s σ H Q I q=>h wh pins s σ H Q I (i σ H Q q)
theorem _root_.L2.PA.imp {X:Cx}{es:List Expr}{t t':L2.TA}(i:∀ σ H Q,t' σ H Q->t σ H Q)(h:PA X es t):PA X es t':=fun pos pins s σ H Q I q=>h pos pins s σ H Q I (i σ H Q q)
theorem _root_.L2.PS.imp {X:Cx}{e:Stmt}{t t':L2.TS}(i:∀ D σ H,t' D σ H->t D σ H)(h:PS X e t):PS X e t':=fun pins s σ H D I q=>h pins s σ H D I (i D σ H q)
theorem _root_.L2.lI.imp {X:Cx}{e:List Stmt}{t t':L2.TS}(i:∀ D σ H,t' D σ H->t D σ H)(h:lI X e t):lI X e t':=fun pins s σ H D I q=>h pins s σ H D I (i D σ H q)
end L3
end
section
namespace L3
open PySem PySem.Spec PyProof.Rows L2
theorem fQ:sizeLine=aZ:=jx
section
variable {X:Cx}{C:bL}{sub:Nat->Nat->Bool}{E:XK}{a b c e:Expr}{x y z:Ex}{pos:Pos}
theorem vJ {d:D}{v:V}(h:PE X e (tC v))(r:∀ H,Rep X.K H d v):PE X e (bZ X.K (aI C sub E (.c d))) :=
 h.imp fun σ H Q ⟨σd,st,R,_,ok,q,hq⟩=>by
 exact hq v H (.here ok (r H) q)
set_option tactic.hygienic true in
theorem VQ {i:Nat}(h:PE X e (SW i)):PE X e (bZ X.K (aI C sub E (.v i))) :=
 h.imp fun σ H Q ⟨σd,st,R,r,ok,q,hq⟩=>by
 have q:gD σd i (fun d=>R d st):=q
 unfold gD at q
 split at q
 ·rename_i d ed
  obtain⟨v,e1,e2⟩:=r.2 i d ed
  exact⟨v,e1,hq v H (.here ok e2 q)⟩
 ·exact q.elim
theorem Ja:PA X [] (lQ X.K (bU C sub E [])) :=
 QU.imp fun σ H Q ⟨σd,st,R,r,ok,q,hq⟩=>by
 exact hq [] H ⟨[],st,.refl,ok,.nil,q⟩
theorem Bl {es:List Expr}{xs:List Ex}(h:PE X e (bZ X.K (aI C sub E x)))(hs:PA X es (lQ X.K (bU C sub E xs)))
 (fF:ar (e::es) X.env=(false,eval e X.env)::ar es X.env):PA X (e::es) (lQ X.K (bU C sub E (x::xs))) :=
 (EM h hs fF).imp fun σ H Q ⟨σd,st,R,r,ok,q,hq⟩=>by
 refine⟨σd,st,_,r,ok,q,fun v H1 ⟨d,aC,s1,aP,r1,q1⟩=>?_⟩
 refine⟨σd,aC,_,r.step ok s1,aP,q1,fun vs H2 ⟨ds,aG,s2,cD,r2,q2⟩=>?_⟩
 exact hq _ _ ⟨d::ds,aG,s1.trans s2,cD,.cons (r1.step aP s2) r2,q2⟩
theorem rJ:∀(xs:List Ex){σ:St}{st:aB}{R:List D->aB->Prop},bY C C->bU C sub E xs σ st R->bU C sub E xs σ st (fun ds aA=>ds.length=xs.length/\R ds aA)
 |[],σ,st,R,_,h=>by exact⟨rfl,h⟩
 |x::xs,σ,st,R,hC,h=>by
  refine aW hC (fun _ _ z=>z) x (fun d aA h'=>?_) h
  exact cX hC (fun _ _ z=>z) xs (fun ds aX z=>⟨by simp [z.1],z.2⟩) (rJ xs hC h')
theorem Jz {es:List Expr}{xs:List Ex}{k:Nat}(hC:bY C C)(hs:PA X es (lQ X.K (bU C sub E xs)))(hl:xs.length<=aZ):PE X (.Tuple es k pos) (bZ X.K (aI C sub E (.tup xs))) :=
 (Eb hs).imp fun σ H Q ⟨σd,st,R,r,ok,q,hq⟩=>by
 refine⟨σd,st,_,r,ok,rJ xs hC q,fun vs H1 ⟨ds,aC,s1,aP,r1,l1,q1⟩=>⟨?_,fun p hp=>?_⟩⟩
 ·rw[fQ,<-r1.length,l1];exact hl
 ·exact hq _ _ (.after s1 (.IL aP r1 hp q1))
theorem Gc {es:List Expr}{xs:List Ex}(hs:PA X es (lQ X.K (bU C sub E xs))):PE X (.List es pos) (bZ X.K (aI C sub E (.lst xs))) :=
 (Ej hs).imp fun σ H Q ⟨σd,st,R,r,ok,q,hq⟩=>by
 refine⟨σd,st,_,r,ok,q,fun vs H1 ⟨ds,aC,s1,aP,r1,q1⟩=>⟨?_,fun p hp=>?_⟩⟩
 ·rw[fQ,<-r1.length];exact q1.1
 ·exact hq _ _ (.after s1 (.iF aP r1 hp q1.2))
theorem two {r:R2}{te tf:Bx}{σ:L2.St}{H:Hp}{Q:L2.VK}{σd:St}{st:aB}{W:D->D->aB->Prop}{R:VK}
 (sr:dO X.K H σd σ)(ok:aS X.K st H)(q:te σd st fun d aC=>tf σd aC fun d' aG=>W d d' aG)(hq:∀ v H',QD X.K H st R v H'->Q v H')
 (op:∀ d d' v v' H2 aG,aS X.K aG H2->Rep X.K H2 d v->Rep X.K H2 d' v'->W d d' aG->r v v' H2 (QD X.K H2 aG R))
 (mono:∀ v v' H (Q Q':L2.VK),(∀ v H,Q v H->Q' v H)->r v v' H Q->r v v' H Q'):Ay r (bZ X.K te) (bZ X.K tf) σ H Q:=by
 refine⟨σd,st,_,sr,ok,q,fun v H1 ⟨d,aC,s1,aP,r1,q1⟩=>?_⟩
 refine⟨σd,aC,_,sr.step ok s1,aP,q1,fun v' H2 ⟨d',aG,s2,cD,r2,q2⟩=>?_⟩
 refine mono _ _ _ _ _ (fun u H' z=>hq u H' (.after (s1.trans s2) z)) (op d d' v v' H2 aG cD (r1.step aP s2) r2 q2)
theorem JM {g:Int->Int->V}(v v':V)(H:Hp)(Q Q':L2.VK)(h:∀ v H,Q v H->Q' v H)(z:JV g v v' H Q):JV g v v' H Q':=let⟨i,j,e,e',q⟩:=z;⟨i,j,e,e',h _ _ q⟩
theorem AG {P:Int->Int->Prop}{g:Int->Int->V}(v v':V)(H:Hp)(Q Q':L2.VK)(h:∀ v H,Q v H->Q' v H)(z:rI P g v v' H Q):rI P g v v' H Q':=let⟨i,j,e,e',p,q⟩:=z;⟨i,j,e,e',p,h _ _ q⟩
end
end L3
end
section
namespace L3
open PySem PySem.Spec PyProof.Rows L2
theorem CN:fillsNumberSlot (.type "tuple") "mul" = pure false:=by kernel_rfl
theorem IG:seqRepeat? (.type "tuple")=pure (some (.builtin "tuple.__mul__")):=by kernel_rfl
theorem EL (a:Int)(t:Tok)(l:Addr)(items:Array Value)(n:Nat)(dd:Option Addr)(sl:Array (Option Value)):
 Meets (Builtin.«int.__rmul__» ⟨[.int a t,.ref l],[]⟩) (fun _ R s=>s.heap.get? l=some { cls:=.type "tuple", dict:=dd,data:=.seq items n,slots:=sl }/\R (.ok (.ret Value.notImplemented)) s) :=
 .of_wp fun prog w A R s h=>by obtain⟨hp,g,d,tk,os⟩:=s;obtain⟨hl,h⟩:=h;wp_walk;exact⟨_,rfl,h⟩
section
variable {prog:br}{w:World}{A:cg}{E:Value->af->Prop}{s:af}
theorem IU {l:Addr}{items:Array Value}{n:Nat}{dd:Option Addr}{sl:Array (Option Value)}{k:Int}{t:Tok}{Q:PySem.Fin->af->Prop}(hl:s.heap.get? l=some { cls:=.type "tuple", dict:=dd,data:=.seq items n,slots:=sl })
  (h1:1<=k)(h2:k<1000)(hm:0<items.size)(hm2:items.size<=1000)(oN:k=1->Q (.done (.ret (.ref l))) s)
  (h:Q (.done (.ret (.ref s.heap.objs.size))) { s with heap:=s.heap.push { cls:=.type "tuple", data:=.seq ((ai k.toNat items).foldl (·++ ·) #[]) } }):
  wpAny (model prog w) A (Builtin.«tuple.__mul__» ⟨[.ref l,.int k t],[]⟩) Q E s:=by
 have hT:s.TypeIs (.ref l) "tuple":=⟨_,hl,rfl⟩
 unfold Builtin.«tuple.__mul__»
 wp_walk
 rw[if_neg (by simp;omega)]
 show wpAny _ _ (gj (.ref l) >>= _) _ _ s
 refine ae (yf hl rfl ?_)
 have hne:items.isEmpty=false:=by
  rw[Array.isEmpty_eq_false_iff];intro z;rw[z]at hm;simp at hm
 have jp:wpAny (model prog w) A (if(decide (k<=0)||items.isEmpty)=true then do
     let __do_lift <-fy #[]
     ret __do_lift
    else
     have __do_jp:=fun(__r:Unit) =>
      have __do_jp:=fun(__r:Unit)=>do
       let __do_lift <-
        fy (nz (fun x1 x2=>x1++x2) #[] (ai k.toNat items))
       ret __do_lift;
      if qo (↑items.size*k)=true then do
       let __r <-unsupported "tuple.__mul__:memory"
       __do_jp __r
      else __do_jp ();
     if ↑items.size*k>(2 ^ 63-1) / 8 then do
      rule "tuple.repeat.no-memory"
      let __do_lift <-Su (fq "MemoryError") []
      let __r <-raiseNew __do_lift
      __do_jp __r
     else __do_jp ()) Q E s:=by
  rw[if_neg (by rw[hne];simp;omega)]
  have hmul:(items.size:Int)*k<=1000*1000:=Int.mul_le_mul (by omega) (by omega) (by omega) (by decide)
  have hmul0:0<=(items.size:Int)*k:=Int.mul_nonneg (by omega) (by omega)
  dsimp only
  rw[if_neg (by omega),if_neg (by simp [qo,jx];omega)]
  wp_walk
  have iZ:¬(nz (fun x1 x2=>x1++x2) #[] (ai k.toNat items)).size>sizeLine:=by
   have e1:=w8 items.toList k.toNat []
   rw[az]at e1
   have e2:nz (fun x1 x2=>x1++x2) #[] (ai k.toNat items)=(ai k.toNat items.toList).flatten.toArray:=by simpa using e1
   rw[e2,aw,List.length_flatten,List.map_replicate,List.sum_replicate_nat,i9,jx]
   have:k.toNat*items.size<=1000*1000:=Qp (by omega) hm2
   omega
  rw[if_neg iZ]
  wp_walk
  exact h
 show wpAny _ _ (if(items.isEmpty||k==1)=true then _ else _) _ _ s
 by_cases hk:k=1
 ·subst hk
  rw[if_pos (by simp)]
  wp_walk
  exact oN rfl
 ·rw[if_neg (by rw[hne];simpa using hk)]
  exact jp
end
noncomputable def WG (K:ab):R2:=fun x y H Q=>∃(a:Addr)(k:Int)(xs:List V),x=.ref a/\y=.int k/\eS K H a xs/\0<xs.length/\xs.length<=1000/\1<=k/\k<1000/\(k=1->Q (.ref a) H)/\∀ p,H p=none->Q (.ref p) (upd H p (.tup (ai k.toNat xs).flatten))
theorem WV {X:Cx}:iJ X (g7 .Mult) (WG X.K):=by
 intro pins s σ H x y v u Q I rx ry h
 obtain⟨a,k,xs,rfl,rfl,hH,h0,h00,h1,h2,oN,q⟩:=h
 cases rx
 obtain⟨t,rfl⟩:=ry
 obtain⟨aD,r,⟨⟨cls,dd,data,sl⟩,ho,hc,n,hd⟩,z⟩:=I.tuple hH
 simp only at hc hd
 subst hc hd
 have hl:xs.length=aD.length:=r.length
 have hnew:nz (fun x1 x2=>x1++x2) #[] (ai k.toNat aD.toArray)=(ai k.toNat aD).flatten.toArray:=by
  have:=w8 aD k.toNat []
  rw[az]at this
  exact this
 refine qw (T :="tuple") (U :="int") (by decide) ⟨_,ho,rfl⟩ (fun s'=>ye s' k t) CN PySem.F.fills_int_mul vx IG PySem.F.slot_int_index.lookup
  (l6 vx (ye s k t) PySem.F.entry_int_rmul (PySem.F.args_int_rmul_2 _ _) (EL k t a aD.toArray n dd sl)
   ⟨ho,rfl,⟨_,ho,rfl⟩,ff PySem.F.slot_tuple_mul ⟨_,ho,rfl⟩ PySem.F.entry_tuple_mul (IU ho h1 h2 (by simpa [<-hl]using h0) (by simpa [<-hl]using h00) (fun e=>?_) ?_) (PySem.F.args_tuple_mul_2 _ _)⟩)
 ·exact⟨_,rfl,.ref a,H,I,rfl,oN e⟩
 ·refine⟨_,rfl,.ref s.heap.objs.size,_,I.laid (a:=s.heap.objs.size) (o:=.tup (ai k.toNat xs).flatten) (t':=s.toks) (fun b u e=>ak _ e) (bb _) ?_,rfl,q _ (I.cG.fresh (bb _))⟩
  refine⟨by rw[len_rep,jx];have:k.toNat*xs.length<=1000*1000:=Qp (by omega) h00;omega,_,r.rep k.toNat,?_⟩
  rw[hnew]
  exact pX.new s.heap _
end L3
end
section
namespace L3
open PySem PySem.Spec PyProof.Rows L2
section
variable {X:Cx}
theorem XO {prog:br}{w:World}{A:cg}{E:Value->af->Prop}{s:af}{t b:Addr}{ws:List Value}{Q:Value->af->Prop}(ht:IsTup s.heap t #[])(hb:IsTup s.heap b ws.toArray)
  (h:Q (.ref b) s):wpAny (model prog w) A (g7 .Add (.ref t) (.ref b)) Q E s:=by
 obtain⟨⟨cls,dd,data,sl⟩,ho,hc,n,hd⟩:=id ht
 obtain⟨⟨cls2,dd2,data2,sl2⟩,ho2,hc2,n2,hd2⟩:=id hb
 simp only at hc hd hc2 hd2
 subst hc hd hc2 hd2
 exact yn ⟨_,ho,rfl⟩ ⟨_,ho2,rfl⟩ sy xm ng mf (lu _ _)
  (tuple_addW0 t b #[] ws.toArray n n2 dd dd2 sl sl2 (by simp)) ⟨ho,ho2,h⟩
noncomputable def VZ (K:ab):R2:=fun x y H Q=>∃ a b ys,x=.ref a/\y=.ref b/\eS K H a []/\eS K H b ys/\Q (.ref b) H
theorem YQ:iJ X (g7 .Add) (VZ X.K):=by
 intro pins s σ H x y v u Q I rx ry h
 obtain⟨a,b,ys,rfl,rfl,ha,hb,q⟩:=h
 cases rx
 cases ry
 obtain⟨aD,r1,p1,_⟩:=I.tuple ha
 obtain⟨nV,r2,p2,_⟩:=I.tuple hb
 have e:aD=[]:=r1.A4.mpr rfl
 subst e
 exact XO p1 p2 ⟨.ref b,H,I,rfl,q⟩
noncomputable def Jy:R2:=fun x y H Q=>∃ i j,x=.str i/\y=.str j/\i.length+j.length<=sizeLine/\Q (.str (i++j)) H
noncomputable abbrev VN (K:ab):R2:=fun x y H Q=>JV (fun i j=>.int (i+j)) x y H Q∨Jy x y H Q∨VT K x y H Q∨VZ K x y H Q∨Aj x y H Q
theorem ZE:iJ X (g7 .Add) (VN X.K):=iJ.or Ag (iJ.or OF (iJ.or W4 (iJ.or YQ Ec)))
noncomputable abbrev WE (K:ab):R2:=fun x y H Q=>rI O3 (fun i j=>.int (i*j)) x y H Q∨Fd x y H Q∨WG K x y H Q
theorem XC:iJ X (g7 .Mult) (WE X.K):=iJ.or Ar (iJ.or Bj WV)
noncomputable def Dk:uJ->Operator
 |.add=>.Add|.sub=>.Sub|.mul=>.Mult|.fdiv=>.FloorDiv|.mod=>.Mod|.pow=>.Pow
noncomputable def O2 (K:ab):uJ->R2
 |.add=>VN K
 |.sub=>JV fun i j=>.int (i-j)
 |.mul=>WE K
 |.fdiv=>rI Ea fun i j=>.int (i / j)
 |.mod=>rI (fun _ j=>0<j) fun i j=>.int (i % j)
 |.pow=>rI ZZ fun i j=>.int (i ^ j.toNat)
theorem Cj:∀ op:uJ,iJ X (g7 (Dk op)) (O2 X.K op)
 |.add=>ZE
 |.sub=>Ad
 |.mul=>XC
 |.fdiv=>YW
 |.mod=>Bz
 |.pow=>De
theorem PZ {K:ab}:∀(op:uJ)(v v':V)(H:Hp)(Q Q':L2.VK),(∀ v H,Q v H->Q' v H)->O2 K op v v' H Q->O2 K op v v' H Q'
 |.add,v,v',H,Q,Q',h,z=>by
  rcases z with z|⟨i,j,e,e',l,q⟩|⟨a,b,xs,ys,e,e',s,s',n,l,q,q'⟩|⟨a,b,ys,e,e',s,s',q⟩|⟨l,b,xs,zs,e,e',s,s',n,q⟩
  ·exact .inl (JM _ _ _ _ _ h z)
  ·exact .inr (.inl ⟨i,j,e,e',l,h _ _ q⟩)
  ·exact .inr (.inr (.inl ⟨a,b,xs,ys,e,e',s,s',n,l,fun z=>h _ _ (q z),fun z p hp=>h _ _ (q' z p hp)⟩))
  ·exact .inr (.inr (.inr (.inl ⟨a,b,ys,e,e',s,s',h _ _ q⟩)))
  ·exact .inr (.inr (.inr (.inr ⟨l,b,xs,zs,e,e',s,s',n,fun p hp=>h _ _ (q p hp)⟩)))
 |.sub,v,v',H,Q,Q',h,z=>JM _ _ _ _ _ h z
 |.mul,v,v',H,Q,Q',h,z=>by
  rcases z with z|⟨l,k,xs,e,e',s,b1,b2,b3,q⟩|⟨l,k,xs,e,e',s,b1,b2,b3,b4,q0,q⟩
  ·exact .inl (AG _ _ _ _ _ h z)
  ·exact .inr (.inl ⟨l,k,xs,e,e',s,b1,b2,b3,fun p hp=>h _ _ (q p hp)⟩)
  ·exact .inr (.inr ⟨l,k,xs,e,e',s,b1,b2,b3,b4,fun z=>h _ _ (q0 z),fun p hp=>h _ _ (q p hp)⟩)
 |.fdiv,v,v',H,Q,Q',h,z=>AG _ _ _ _ _ h z
 |.mod,v,v',H,Q,Q',h,z=>AG _ _ _ _ _ h z
 |.pow,v,v',H,Q,Q',h,z=>AG _ _ _ _ _ h z
end
section
variable {K:ab}{H:Hp}{st:aB}{R:VK}
theorem Rep.int_inv {i:Int}{v:V}(r:Rep K H (.int i) v):v=.int i:=by cases r;rfl
theorem Rep.str_inv {x:List Nat}{v:V}(r:Rep K H (.str x) v):v=.str ⟨x.toArray⟩:=by cases r;rfl
theorem Rep.fL {b:Bool}{v:V}(r:Rep K H (.bl b) v):v=.bl b:=by cases r;rfl
theorem Rep.fR {v:V}(r:Rep K H .non v):v=.non:=by cases r;rfl
theorem Rep.cP {a:Addr}{v:V}(r:Rep K H (.ref a) v):v=.ref a:=by cases r;rfl
theorem Rep.bS {ds:List D}{v:V}(r:Rep K H (.tup ds) v):∃ a vs,v=.ref a/\eS K H a vs/\aL K H ds vs:=by cases r with|tup h r=>exact⟨_,_,rfl,h,r⟩
theorem Rep.JU {ks vs:List D}{v:V}(r:Rep K H (.dA ks vs) v):∃ a,v=.ref a/\Dz K a ks vs:=by cases r with|dA h=>exact⟨_,rfl,h⟩
theorem Rep.lC {ds:List D}{v:V}(r:Rep K H (.bP ds) v):∃ a vs,v=.ref a/\rO K H a vs/\aL K H ds vs:=by cases r with|bP h r=>exact⟨_,_,rfl,h,r⟩
set_option tactic.hygienic true in
theorem eB {a:Nat}{P:List D->Prop}(h:cM st a P):∃ ds,st a=some (.lst ds)/\P ds:=by
 unfold cM at h
 split at h
 ·rename_i ds e;exact⟨ds,e,h⟩
 ·exact h.elim
set_option tactic.hygienic true in
theorem sJ {a:Nat}{P:List D->Prop}{M:List D->List D->Prop}(ok:aS K st H)(h:eR st a P M):∃ ds,st a=some (.lst ds)/\P ds:=by
 unfold eR at h
 split at h
 ·rename_i ds e;exact⟨ds,e,h⟩
 ·rename_i e;exact(ok _ _ e).elim
 ·exact h.elim
theorem eJ {α:Type}{o:Option α}{P:α->Prop}(h:cZ o P):∃ x,o=some x/\P x:=by
 unfold cZ at h
 split at h
 ·exact⟨_,rfl,h⟩
 ·exact h.elim
theorem YS (x y:List Nat):(⟨x.toArray⟩:Str)++⟨y.toArray⟩=⟨(x++y).toArray⟩:=by
 show Str.mk _=Str.mk _
 simp
theorem aL.nil_inv {vs:List V}(r:aL K H [] vs):vs=[]:=by cases r;rfl
theorem aL.flat {ds:List D}{vs:List V}(r:aL K H ds vs):∀ k:Nat,aL K H (ai k ds).flatten (ai k vs).flatten
 |0=>.nil
 |k+1=>by simp only[gq,ko];exact r.append (aL.flat r k)
set_option tactic.hygienic true in
theorem SF {op:uJ}{d d':D}{v v':V}(ok:aS K st H)(r:Rep K H d v)(r':Rep K H d' v')(h:iC op d d' st R):O2 K op v v' H (QD K H st R):=by
 unfold iC at h
 split at h
 ·cases r.int_inv;cases r'.int_inv
  exact .inl ⟨_,_,rfl,rfl,.here ok (.int _) h⟩
 ·rename_i a b
  cases r.str_inv;cases r'.str_inv
  refine .inr (.inl ⟨_,_,rfl,rfl,?_,?_⟩)
  ·rw[fQ];simpa [j3]using h.1
  ·rw[YS];exact .here ok (.str _) h.2
 ·rename_i ds es
  obtain⟨a,vs,rfl,s1,q1⟩:=r.bS
  obtain⟨b,us,rfl,s2,q2⟩:=r'.bS
  cases ds with
  |nil =>
   cases q1.nil_inv
   exact .inr (.inr (.inr (.inl ⟨a,b,us,rfl,rfl,s1,s2,.here ok r' (by simpa using h.2)⟩)))
  |cons d ds =>
   refine .inr (.inr (.inl ⟨a,b,vs,us,rfl,rfl,s1,s2,?_,?_,fun e=>?_,fun _ p hp=>.IL ok (q1.append q2) hp h.2⟩))
   ·intro e;subst e;cases q1
   ·rw[fQ,<-q1.length,<-q2.length];exact h.1
   ·subst e
    cases q2
    exact .here ok r (by simpa using h.2)
 ·rename_i a b
  cases r.cP;cases r'.cP
  obtain⟨xs,e1,h⟩:=eB h
  obtain⟨ys,e2,h⟩:=eB h
  obtain⟨vs,g1,q1⟩:=ok.lst e1
  obtain⟨us,g2,q2⟩:=ok.lst e2
  refine .inr (.inr (.inr (.inr ⟨a,b,vs,us,rfl,rfl,g1,g2,?_,fun p hp=>.iF ok (q1.append q2) hp h.2⟩)))
  rw[fQ,<-q1.length,<-q2.length];simpa using h.1
 ·cases r.int_inv;cases r'.int_inv
  exact⟨_,_,rfl,rfl,.here ok (.int _) h⟩
 ·cases r.int_inv;cases r'.int_inv
  exact .inl ⟨_,_,rfl,rfl,h.1.imp (fun z=>z) (fun z=>z),.here ok (.int _) h.2⟩
 ·rename_i a k
  cases r.cP;cases r'.int_inv
  obtain⟨xs,e1,h1,h2,h⟩:=eB h
  obtain⟨vs,g1,q1⟩:=ok.lst e1
  refine .inr (.inl ⟨a,k,vs,rfl,rfl,g1,by omega,by omega,?_,fun p hp=>.iF ok (q1.flat _) hp h.2⟩)
  rw[fQ,<-q1.length];exact h1
 ·rename_i xs k
  obtain⟨a,vs,rfl,f,g⟩:=r.bS
  cases r'.int_inv
  obtain⟨⟨c1,c2,c3,c4⟩,h⟩:=h
  refine .inr (.inr ⟨a,k,vs,rfl,rfl,f,by rw[<-g.length];exact c1,by rw[<-g.length];exact c2,c3,c4,fun e=>?_,fun p hp=>.IL ok (g.flat _) hp h⟩)
  subst e
  have e1:(ai (1:Int).toNat xs).flatten=xs:=by simp
  rw[e1]at h
  exact .here ok r h
 ·cases r.int_inv;cases r'.int_inv
  exact⟨_,_,rfl,rfl,h.1,.here ok (.int _) h.2⟩
 ·cases r.int_inv;cases r'.int_inv
  exact⟨_,_,rfl,rfl,h.1,.here ok (.int _) h.2⟩
 ·cases r.int_inv;cases r'.int_inv
  exact⟨_,_,rfl,rfl,h.1,.here ok (.int _) h.2⟩
 ·exact h.elim
end
section
variable {X:Cx}{C:bL}{sub:Nat->Nat->Bool}{E:XK}{a b c e:Expr}{x y z:Ex}{pos:Pos}
theorem Iv {op:uJ}(ha:PE X a (bZ X.K (aI C sub E x)))(hb:PE X b (bZ X.K (aI C sub E y))):PE X (.BinOp a (Dk op) b pos) (bZ X.K (aI C sub E (.bin op x y))) :=
 (Jp (Cj op) ha hb).imp fun σ H Q ⟨σd,st,R,r,ok,q,hq⟩=>by
 exact two (W:=fun d d' aG=>iC op d d' aG R) r ok q hq (fun d d' v v' H2 aG cD r1 r2 h=>SF cD r1 r2 h) (PZ op)
theorem Ks (ha:PE X a (bZ X.K (aI C sub E x))):PE X (.UnaryOp .USub a pos) (bZ X.K (aI C sub E (.neg x))) :=
 (Hq Ey ha).imp fun σ H Q ⟨σd,st,R,r,ok,q,hq⟩=>by
 refine⟨σd,st,_,r,ok,q,fun v H1 ⟨d,aC,s1,aP,r1,q1⟩=>?_⟩
 have q1:zY d aC R:=q1
 unfold zY at q1
 split at q1
 ·cases r1.int_inv
  exact⟨_,rfl,hq _ _ (.after s1 (.here aP (.int _) q1))⟩
 ·exact q1.elim
noncomputable def Ml (d:D)(st:aB):Option Bool:=match d with
 |.non=>some false
 |.bl b=>some b
 |.int i=>some (i != 0)
 |.str x=>if x.length<=aZ then some (!x.isEmpty)else none
 |.tup ds=>some (!ds.isEmpty)
 |.ref a=>match st a with
  |some (.lst ds)=>some (!ds.isEmpty)
  |some (.dic ks _)=>some (!ks.isEmpty)
  |some _=>none
  |none=>none
 |.bP ds=>some (!ds.isEmpty)
 |_=>none
set_option tactic.hygienic true in
theorem vT {d:D}{st:aB}{P:Bool->Prop}:eF d st P↔∃ k,Ml d st=some k/\P k:=by
 cases d with
 |str x =>
  show(x.length<=aZ/\P (!x.isEmpty))↔∃ k,(if x.length<=aZ then some (!x.isEmpty)else none)=some k/\P k
  split
  ·rename_i h;exact⟨fun z=>⟨_,rfl,z.2⟩,fun⟨k,e,q⟩=>⟨h,by cases e;exact q⟩⟩
  ·rename_i h;exact⟨fun z=>(h z.1).elim,fun⟨k,e,q⟩=>by cases e⟩
 |ref a =>
  show eR st a _ _↔∃ k,(match st a with|some (.lst ds)=>some (!ds.isEmpty)|some (.dic ks _)=>some (!ks.isEmpty)|some _=>none|none=>none)=some k/\P k
  unfold eR
  cases st a with
  |none=>exact⟨fun z=>z.elim,fun⟨k,e,q⟩=>by cases e⟩
  |some o=>cases o with
   |lst ds=>exact⟨fun z=>⟨_,rfl,z⟩,fun⟨k,e,q⟩=>by cases e;exact q⟩
   |dic ks vs=>exact⟨fun z=>⟨_,rfl,z⟩,fun⟨k,e,q⟩=>by cases e;exact q⟩
   |ins _ _=>exact⟨fun z=>z.elim,fun⟨k,e,q⟩=>by cases e⟩
   |tab _ _=>exact⟨fun z=>z.elim,fun⟨k,e,q⟩=>by cases e⟩
 |dA _ _=>exact⟨fun z=>z.elim,fun⟨k,e,q⟩=>by cases e⟩
 |exc _=>exact⟨fun z=>z.elim,fun⟨k,e,q⟩=>by cases e⟩
 |_=>exact⟨fun z=>⟨_,rfl,z⟩,fun⟨k,e,q⟩=>by cases e;exact q⟩
theorem jD {α:Type}(x:List α):(!x.isEmpty)=(((x.length:Nat):Int) != 0):=by
 cases x with
 |nil=>rfl
 |cons a r =>
 simp only[yp,d5,be]
 symm
 rw[bne_iff_ne];omega
set_option tactic.hygienic true in
theorem tR {K:ab}{H:Hp}{st:aB}{d:D}{v:V}{P:Bool->Prop}(ok:aS K st H)(r:Rep K H d v)(h:eF d st P):∃ k,UO K v H k/\P k:=by
 unfold eF at h
 split at h
 ·cases r.fR;exact⟨_,rfl,h⟩
 ·cases r.fL;exact⟨_,rfl,h⟩
 ·cases r.int_inv;exact⟨_,rfl,h⟩
 ·rename_i x P
  cases r.str_inv
  refine⟨_,⟨by rw[fQ];simpa [j3]using h.1,?_⟩,h.2⟩
  rw[jD];simp [j3]
 ·obtain⟨a,vs,rfl,s1,q1⟩:=r.bS
  refine⟨_,.inr (.inl ⟨vs,s1,?_⟩),h⟩
  rw[jD,jD,q1.length]
 ·cases r.cP
  obtain⟨ds,e,h⟩:=sJ ok h
  obtain⟨vs,g,q⟩:=ok.lst e
  refine⟨_,.inl ⟨vs,dQ.of g,?_⟩,h⟩
  rw[jD,jD,q.length]
 ·obtain⟨a,vs,rfl,s1,q1⟩:=r.lC
  refine⟨_,.inl ⟨vs,s1.sq,?_⟩,h⟩
  rw[jD,jD,q1.length]
 ·exact h.elim
theorem SS (h:PE X e (bZ X.K (aI C sub E x)))(he:∀ whole,ze e X.env whole=(do let v <-whole;mr e.pos;j4 [v] (Sq v))):PT X e (jS X.K (aI C sub E x)) :=
 (UW h he).imp fun σ H Q ⟨σd,st,R,r,ok,q,hq⟩=>by
 refine⟨σd,st,_,r,ok,q,fun v H1 ⟨d,aC,s1,aP,r1,q1⟩=>?_⟩
 obtain⟨k,t,z⟩:=tR aP r1 q1
 exact⟨k,t,hq _ _ ⟨aC,s1,aP,z⟩⟩
theorem Bg (h:PT X e (jS X.K (aI C sub E x))):PT X (.UnaryOp .Not e pos) (jS X.K (aI C sub E (.not_ x))) :=
 (Eh h).imp fun σ H Q ⟨σd,st,R,r,ok,q,hq⟩=>by
 exact⟨σd,st,fun b aA=>R (!b) aA,r,ok,q,fun b H1 z=>hq _ _ z⟩
theorem Kb (h:PE X e (bZ X.K (aI C sub E x))):PE X (.UnaryOp .Not e pos) (bZ X.K (aI C sub E (.not_ x))):=by
 intro pins s σ H Q I ⟨σd,st,R,r,ok,q,hq⟩
 refine UnaryOp_ (bE (h pins s σ H _ I ⟨σd,st,_,r,ok,q,fun v H' z=>z⟩) fun u s1 ⟨v,H1,I1,rv,d,aC,st1s,aP,r1,q1⟩=>?_)
 obtain⟨k,t,z⟩:=tR aP r1 q1
 exact not_of (bE (EC pins s1 σ H1 v u (fun b H'=>Q (.bl (!b)) H') I1 rv ⟨k,t,hq _ _ (.after st1s (.here aP (.bl _) z))⟩) fun b s2 ⟨H2,I2,w⟩=>⟨.bl (!b),H2,I2,rfl,w⟩)
theorem Z2 {op:Sv}(h:PT X e (jS X.K (aI C sub E x))):PW X (.BoolOp op [e] pos) (jS X.K (aI C sub E x)):=by
 cases op
 ·exact WU h
 ·exact Ce h
theorem Ao {rest:List Expr}(hC:bY C C)(ha:PT X a (jS X.K (aI C sub E x)))(hb:PW X (.BoolOp .And (b::rest) pos) (jS X.K (aI C sub E y))):PW X (.BoolOp .And (a::b::rest) pos) (jS X.K (aI C sub E (.and_ x y))) :=
 (Ft ha hb).imp fun σ H Q ⟨σd,st,R,r,ok,q,hq⟩=>by
 refine⟨σd,st,fun k aC=>if k=true then aI C sub E y σd aC (fun d aA=>eF d aA fun b=>R b aA)else R false aC,r,ok,aW hC (fun _ _ z=>z) x (fun d aC z=>?_) q,fun k H1 ⟨aC,s1,aP,z⟩=>?_⟩
 ·rw[vT]at z ⊢
  obtain⟨k,t,z⟩:=z
  refine⟨k,t,?_⟩
  cases k with
  |true=>exact z
  |false =>
  have z':eF d aC fun b=>R b aC:=z
  rw[vT]at z'
  obtain⟨k',t',z'⟩:=z'
  rw[t]at t';cases t'
  exact z'
 ·cases k with
  |true=>exact⟨σd,aC,R,r.step ok s1,aP,z,fun k H2 ⟨aG,s2,cD,w⟩=>hq _ _ ⟨aG,s1.trans s2,cD,w⟩⟩
  |false=>exact hq _ _ ⟨aC,s1,aP,z⟩
theorem Gg {rest:List Expr}(hC:bY C C)(ha:PT X a (jS X.K (aI C sub E x)))(hb:PW X (.BoolOp .Or (b::rest) pos) (jS X.K (aI C sub E y))):PW X (.BoolOp .Or (a::b::rest) pos) (jS X.K (aI C sub E (.or_ x y))) :=
 (Jh ha hb).imp fun σ H Q ⟨σd,st,R,r,ok,q,hq⟩=>by
 refine⟨σd,st,fun k aC=>if k=true then R true aC else aI C sub E y σd aC (fun d aA=>eF d aA fun b=>R b aA),r,ok,aW hC (fun _ _ z=>z) x (fun d aC z=>?_) q,fun k H1 ⟨aC,s1,aP,z⟩=>?_⟩
 ·rw[vT]at z ⊢
  obtain⟨k,t,z⟩:=z
  refine⟨k,t,?_⟩
  cases k with
  |false=>exact z
  |true =>
  have z':eF d aC fun b=>R b aC:=z
  rw[vT]at z'
  obtain⟨k',t',z'⟩:=z'
  rw[t]at t';cases t'
  exact z'
 ·cases k with
  |false=>exact⟨σd,aC,R,r.step ok s1,aP,z,fun k H2 ⟨aG,s2,cD,w⟩=>hq _ _ ⟨aG,s1.trans s2,cD,w⟩⟩
  |true=>exact hq _ _ ⟨aC,s1,aP,z⟩
theorem Gp {rest:List Expr}(ha:PE X a (bZ X.K (aI C sub E x)))(hb:PE X (.BoolOp .And (b::rest) pos) (bZ X.K (aI C sub E y))):PE X (.BoolOp .And (a::b::rest) pos) (bZ X.K (aI C sub E (.and_ x y))):=by
 intro pins s σ H Q I ⟨σd,st,R,r,ok,q,hq⟩
 refine BoolOp_and (bE (ha pins s σ H _ I ⟨σd,st,_,r,ok,q,fun v H' z=>z⟩) fun u s1 ⟨v,H1,I1,rv,d,aC,st1s,aP,r1,q1⟩=>?_)
 obtain⟨k,t,z⟩:=tR aP r1 q1
 refine bE (EC pins s1 σ H1 v u (fun b H'=>b=k/\H'=H1) I1 rv ⟨k,t,rfl,rfl⟩) fun b s2 ⟨H2,I2,e,e'⟩=>?_
 subst e e'
 cases b with
 |true=>exact hb pins s2 σ H2 Q I2 ⟨σd,aC,R,r.step ok st1s,aP,z,fun v H' w=>hq _ _ (.after st1s w)⟩
 |false=>exact⟨v,H2,I2,rv,hq _ _ (.after st1s (.here aP r1 z))⟩
theorem Ow {rest:List Expr}(ha:PE X a (bZ X.K (aI C sub E x)))(hb:PE X (.BoolOp .Or (b::rest) pos) (bZ X.K (aI C sub E y))):PE X (.BoolOp .Or (a::b::rest) pos) (bZ X.K (aI C sub E (.or_ x y))):=by
 intro pins s σ H Q I ⟨σd,st,R,r,ok,q,hq⟩
 refine BoolOp_or (bE (ha pins s σ H _ I ⟨σd,st,_,r,ok,q,fun v H' z=>z⟩) fun u s1 ⟨v,H1,I1,rv,d,aC,st1s,aP,r1,q1⟩=>?_)
 obtain⟨k,t,z⟩:=tR aP r1 q1
 refine bE (EC pins s1 σ H1 v u (fun b H'=>b=k/\H'=H1) I1 rv ⟨k,t,rfl,rfl⟩) fun b s2 ⟨H2,I2,e,e'⟩=>?_
 subst e e'
 cases b with
 |false=>exact hb pins s2 σ H2 Q I2 ⟨σd,aC,R,r.step ok st1s,aP,z,fun v H' w=>hq _ _ (.after st1s w)⟩
 |true=>exact⟨v,H2,I2,rv,hq _ _ (.after st1s (.here aP r1 z))⟩
theorem Hu {op:Sv}(h:PE X e (bZ X.K (aI C sub E x))):PE X (.BoolOp op [e] pos) (bZ X.K (aI C sub E x)):=Dt h
end
end L3
end
section
namespace L3
open PySem PySem.Spec PyProof.Rows L2 PySem.SeqAt
mutual
theorem wD:∀ d:D,bH d=true->bK d d=true
 |.non,_=>rfl
 |.bl b,_=>by simp [bK]
 |.int i,_=>by simp [bK]
 |.str x,_=>by simp [bK]
 |.tup ds,h=>by simp only[bH]at h;simp only[bK];exact kX ds h
 |.ref _,h=>by simp [bH]at h
 |.dA _ _,h=>by simp [bH]at h
 |.bP _,h=>by simp [bH]at h
 |.exc _,h=>by simp [bH]at h
theorem kX:∀ ds:List D,bO ds=true->fM ds ds=true
 |[],_=>rfl
 |d::ds,h=>by
  simp only[bO,ay]at h
  simp only[fM,ay]
  exact⟨wD d h.1,kX ds h.2⟩
end
theorem nT:∀{ds:List D}{d:D},bO ds=true->d∈ds->bH d=true
 |e::ds,d,h,m=>by
  simp only[bO,ay]at h
  rcases List.mem_cons.mp m with rfl|m
  ·exact h.1
  ·exact nT h.2 m
theorem jN:∀{ds:List D}{d:D},d∈ds->cL d<=cI ds
 |e::ds,d,m=>by
  simp only[cI]
  rcases List.mem_cons.mp m with rfl|m
  ·omega
  ·have:=jN m;omega
theorem wC:∀{ds es:List D}(e:Nat->Bool),(∀ j d d',ds[j]? = some d->es[j]? = some d'->e j=bK d d')->((a9 (min ds.length es.length)).all e&&ds.length==es.length)=fM ds es
 |[],[],e,h=>by simp [fM]
 |[],_::_,e,h=>by simp [fM]
 |_::_,[],e,h=>by simp [fM]
 |d::ds,d'::es,e,h=>by
  have ih:=wC (fun j=>e (j+1)) fun j x x' e1 e2=>h (j+1) x x' (by simpa using e1) (by simpa using e2)
  have h0:=h 0 d d' rfl rfl
  simp only[fM,be,vy,kf,lx,p8,nj]
  rw[<-ih,h0]
  have hl:(ds.length+1==es.length+1)=(ds.length==es.length):=by simp
  rw[hl,Qq]
theorem PU {ds es:List D}(e:Nat->Bool)(hl:ds.length=es.length)(h:∀ j d d',ds[j]? = some d->es[j]? = some d'->e j=bK d d'):(a9 ds.length).all e=fM ds es:=by
 rw[<-wC e h,<-hl];simp
theorem J7:∀{ds es:List D},ds.length≠es.length->fM ds es=false
 |[],[],h=>(h rfl).elim
 |[],_::_,h=>rfl
 |_::_,[],h=>rfl
 |d::ds,d'::es,h=>by simp only[fM,J7 (ds:=ds) (es:=es) (by simpa using h),bu]
section
variable {X:Cx}{pins:List (Addr×Obj)}{σ:L2.St}{H:Hp}{s:af}{st:aB}
theorem aQ.at {vs:List V}{aD:List Value}(r:aQ vs aD){j:Nat}(h:j<aD.toArray.size):∃ v,vs[j]? = some v/\RelV v aD.toArray[j]:=by
 have hl:=r.length
 have hj:j<vs.length:=by simp at h;omega
 obtain⟨u,e1,e2⟩:=aQ.get r (aj hj)
 refine⟨vs[j],aj hj,?_⟩
 rw[lh]at e1
 obtain⟨h1,e1⟩:=e1
 simp only[List.getElem_toArray,e1]
 exact e2
theorem aL.get' {K:ab}:∀{ds:List D}{vs:List V}{i:Nat}{v:V},aL K H ds vs->vs[i]? = some v->∃ d,ds[i]? = some d/\Rep K H d v
 |_,_,_,_,.nil,e=>by simp at e
 |_,_,0,_,.cons h _,e=>by simp at e;subst e;exact⟨_,rfl,h⟩
 |_,_,i+1,v,.cons _ r,e=>by
  obtain⟨d,e1,e2⟩:=aL.get' (i:=i) (v:=v) r (by simpa using e)
  exact⟨d,by simpa using e1,e2⟩
set_option tactic.hygienic true in
theorem AR (I:Inv X pins σ H s):∀(n:Nat){d d':D}{v:V},cL d<=n->bH d=true->bH d'=true->Rep X.K H d v->Rep X.K H d' v->d=d':=by
 intro n
 induction n with
 |zero =>
 intro d d' v hn p p' r r'
 cases r<;>cases r'<;>first|rfl|(simp [bH]at p;done)|(simp [bH]at p';done)|(simp [cL]at hn;done)
 |succ n ih =>
 intro d d' v hn p p' r r'
 cases r<;>cases r'<;>first|rfl|(simp [bH]at p;done)|(simp [bH]at p';done)|skip
 rename_i ds a vs h r es us r' h'
 cases I.tQ h h'
 have go:∀(ds es:List D)(vs:List V),cI ds<=n->bO ds=true->bO es=true->aL X.K H ds vs->aL X.K H es vs->ds=es:=by
  intro ds
  induction ds with
  |nil=>intro es vs _ _ _ r r';cases r;cases r';rfl
  |cons d ds ihs =>
  intro es vs hd pp pp' r r'
  cases r with
  |cons r1 r2=>cases r' with
   |cons r1' r2' =>
   simp only[cI]at hd
   simp only[bO,ay]at pp pp'
   rw[ih (by omega) pp.1 pp'.1 r1 r1',ihs _ _ (by omega) pp.2 pp'.2 r2 r2']
 rw[go ds es vs (by simp only[cL]at hn;omega) (by simpa [bH]using p) (by simpa [bH]using p') r r']
noncomputable def yJ (A:cg)(s:af)(u u':Value)(b:Bool):Prop:=RcAt A s u u' b/\EqAt A s u u' b/\RcNeAt A s u u' (!b)
noncomputable def oP:D->Bool
 |.non=>true
 |.bl _=>true
 |.int _=>true
 |.str _=>true
 |_=>false
theorem IM (x y:List Nat):((⟨x.toArray⟩:Str)==⟨y.toArray⟩)=(x==y):=by
 rw[<-Tb]
theorem xE {K:ab}{H:Hp}{A:cg}{s:af}{d d':D}{v v':V}{u u':Value}(p:oP d=true)(p':oP d'=true)(r:Rep K H d v)(rv:RelV v u)(r':Rep K H d' v')(bJ:RelV v' u'):yJ A s u u' (bK d d'):=by
 cases d with
 |non=>cases d' with
  |non =>
   cases r.fR;cases rv
   cases r'.fR;cases bJ
   exact⟨RcAt.none_none,zi _,RcNeAt.none_none⟩
  |bl b' =>
   cases r.fR;cases rv
   cases r'.fL;cases bJ
   simp only[bK]
   exact⟨RcAt.none_bool _,EqAt.none_bool _,RcNeAt.none_bool _⟩
  |int i' =>
   cases r.fR;cases rv
   cases r'.int_inv;obtain⟨_,rfl⟩:=bJ
   simp only[bK]
   exact⟨RcAt.none_int _ _,EqAt.none_int _ _,RcNeAt.none_int _ _⟩
  |str x' =>
   cases r.fR;cases rv
   cases r'.str_inv;obtain⟨_,rfl⟩:=bJ
   simp only[bK]
   exact⟨RcAt.none_str _ _,EqAt.none_str _ _,RcNeAt.none_str _ _⟩
  |_=>cases p'
 |bl b=>cases d' with
  |non =>
   cases r.fL;cases rv
   cases r'.fR;cases bJ
   simp only[bK]
   exact⟨RcAt.bool_none _,EqAt.bool_none _,RcNeAt.bool_none _⟩
  |bl b' =>
   cases r.fL;cases rv
   cases r'.fL;cases bJ
   simp only[bK]
   exact⟨RcAt.bool_bool _ _,wk _ _,RcNeAt.bool_bool _ _⟩
  |int i' =>
   cases r.fL;cases rv
   cases r'.int_inv;obtain⟨_,rfl⟩:=bJ
   simp only[bK]
   exact⟨RcAt.bool_int _ _ _,EqAt.bool_int _ _ _,RcNeAt.bool_int _ _ _⟩
  |str x' =>
   cases r.fL;cases rv
   cases r'.str_inv;obtain⟨_,rfl⟩:=bJ
   simp only[bK]
   exact⟨RcAt.bool_str _ _ _,xp _ _ _,RcNeAt.bool_str _ _ _⟩
  |_=>cases p'
 |int i=>cases d' with
  |non =>
   cases r.int_inv;obtain⟨_,rfl⟩:=rv
   cases r'.fR;cases bJ
   simp only[bK]
   exact⟨RcAt.int_none _ _,EqAt.int_none _ _,RcNeAt.int_none _ _⟩
  |bl b' =>
   cases r.int_inv;obtain⟨_,rfl⟩:=rv
   cases r'.fL;cases bJ
   simp only[bK]
   exact⟨RcAt.int_bool _ _ _,EqAt.int_bool _ _ _,RcNeAt.int_bool _ _ _⟩
  |int i' =>
   cases r.int_inv;obtain⟨_,rfl⟩:=rv
   cases r'.int_inv;obtain⟨_,rfl⟩:=bJ
   simp only[bK]
   exact⟨RcAt.int_int _ _ _ _,EqAt.int_int _ _ _ _,RcNeAt.int_int _ _ _ _⟩
  |str x' =>
   cases r.int_inv;obtain⟨_,rfl⟩:=rv
   cases r'.str_inv;obtain⟨_,rfl⟩:=bJ
   simp only[bK]
   exact⟨RcAt.int_str _ _ _ _,EqAt.int_str _ _ _ _,RcNeAt.int_str _ _ _ _⟩
  |_=>cases p'
 |str x=>cases d' with
  |non =>
   cases r.str_inv;obtain⟨_,rfl⟩:=rv
   cases r'.fR;cases bJ
   simp only[bK]
   exact⟨RcAt.str_none _ _,EqAt.str_none _ _,RcNeAt.str_none _ _⟩
  |bl b' =>
   cases r.str_inv;obtain⟨_,rfl⟩:=rv
   cases r'.fL;cases bJ
   simp only[bK]
   exact⟨RcAt.str_bool _ _ _,xq _ _ _,RcNeAt.str_bool _ _ _⟩
  |int i' =>
   cases r.str_inv;obtain⟨_,rfl⟩:=rv
   cases r'.int_inv;obtain⟨_,rfl⟩:=bJ
   simp only[bK]
   exact⟨RcAt.str_int _ _ _ _,EqAt.str_int _ _ _ _,RcNeAt.str_int _ _ _ _⟩
  |str x' =>
   cases r.str_inv;obtain⟨_,rfl⟩:=rv
   cases r'.str_inv;obtain⟨_,rfl⟩:=bJ
   have e:bK (.str x) (.str x')=((⟨x.toArray⟩:Str)==⟨x'.toArray⟩):=by rw[IM];simp only[bK]
   rw[e]
   exact⟨RcAt.str_str _ _ _ _,yq _ _ _ _,RcNeAt.str_str _ _ _ _⟩
  |_=>cases p'
 |_=>cases p
theorem gZ {K:ab}{H:Hp}{A:cg}{s:af}{l:Addr}{aD:Array Value}{d':D}{v':V}{u':Value}(hl:s.heap.IsTuple l aD)(hu:A.units<cLine)(p':oP d'=true)(r':Rep K H d' v')(bJ:RelV v' u'):yJ A s (.ref l) u' false/\yJ A s u' (.ref l) false:=by
 cases d' with
 |non =>
 cases r'.fR;cases bJ
 exact⟨⟨RcAt.tuple_none hl hu,EqAt.tuple_none hl hu,RcNeAt.tuple_none hl hu⟩,⟨RcAt.none_tuple hl hu,EqAt.none_tuple hl hu,RcNeAt.none_tuple hl hu⟩⟩
 |bl b =>
 cases r'.fL;cases bJ
 exact⟨⟨RcAt.tuple_bool _ hl hu,zy _ hl hu,RcNeAt.tuple_bool _ hl hu⟩,⟨RcAt.bool_tuple _ hl hu,vg _ hl hu,RcNeAt.bool_tuple _ hl hu⟩⟩
 |int i =>
 cases r'.int_inv;obtain⟨_,rfl⟩:=bJ
 exact⟨⟨RcAt.tuple_int _ _ hl hu,EqAt.tuple_int _ _ hl hu,RcNeAt.tuple_int _ _ hl hu⟩,⟨RcAt.int_tuple _ _ hl hu,EqAt.int_tuple _ _ hl hu,RcNeAt.int_tuple _ _ hl hu⟩⟩
 |str x =>
 cases r'.str_inv;obtain⟨_,rfl⟩:=bJ
 exact⟨⟨RcAt.tuple_str _ _ hl hu,Qr _ _ hl hu,RcNeAt.tuple_str _ _ hl hu⟩,⟨RcAt.str_tuple _ _ hl hu,wm _ _ hl hu,RcNeAt.str_tuple _ _ hl hu⟩⟩
 |_=>cases p'
theorem mB {K:ab}{H:Hp}{A:cg}{s:af}{l:Addr}{aD:Array Value}{d':D}{v':V}{u':Value}(hl:s.heap.IsList l aD)(hu:A.units<cLine)(p':oP d'=true)(r':Rep K H d' v')(bJ:RelV v' u'):yJ A s (.ref l) u' false/\yJ A s u' (.ref l) false:=by
 cases d' with
 |non =>
 cases r'.fR;cases bJ
 exact⟨⟨RcAt.list_none hl hu,EqAt.list_none hl hu,RcNeAt.list_none hl hu⟩,⟨RcAt.none_list hl hu,EqAt.none_list hl hu,RcNeAt.none_list hl hu⟩⟩
 |bl b =>
 cases r'.fL;cases bJ
 exact⟨⟨RcAt.list_bool _ hl hu,EqAt.list_bool _ hl hu,RcNeAt.list_bool _ hl hu⟩,⟨RcAt.bool_list _ hl hu,EqAt.bool_list _ hl hu,RcNeAt.bool_list _ hl hu⟩⟩
 |int i =>
 cases r'.int_inv;obtain⟨_,rfl⟩:=bJ
 exact⟨⟨RcAt.list_int _ _ hl hu,EqAt.list_int _ _ hl hu,RcNeAt.list_int _ _ hl hu⟩,⟨RcAt.int_list _ _ hl hu,EqAt.int_list _ _ hl hu,RcNeAt.int_list _ _ hl hu⟩⟩
 |str x =>
 cases r'.str_inv;obtain⟨_,rfl⟩:=bJ
 exact⟨⟨RcAt.list_str _ _ hl hu,EqAt.list_str _ _ hl hu,RcNeAt.list_str _ _ hl hu⟩,⟨RcAt.str_list _ _ hl hu,EqAt.str_list _ _ hl hu,RcNeAt.str_list _ _ hl hu⟩⟩
 |_=>cases p'
theorem KA (I:Inv X pins σ H s){A:cg}{a b:Addr}{vs us:List V}{b0:Bool}(e:Nat->Bool)(ha:eS X.K H a vs)(hb:eS X.K H b us)(hu:A.units<cLine)(hs:a=b->b0=true)
  (he:∀ j v v' u u',vs[j]? = some v->us[j]? = some v'->RelV v u->RelV v' u'->EqAt A.in1 s u u' (e j))(hb0:((a9 (min vs.length us.length)).all e&&vs.length==us.length)=b0):yJ A s (.ref a) (.ref b) b0:=by
 obtain⟨aD,r1,p1,_⟩:=I.tuple ha
 obtain⟨jts,r2,p2,_⟩:=I.tuple hb
 have l1:aD.toArray.size=vs.length:=by rw[aw];exact r1.length.symm
 have l2:jts.toArray.size=us.length:=by rw[aw];exact r2.length.symm
 have hi:∀ j (h1:j<aD.toArray.size)(h2:j<jts.toArray.size),EqAt A.in1 s aD.toArray[j] jts.toArray[j] (e j):=fun j h1 h2=>by
  obtain⟨v,e1,q1⟩:=aQ.at r1 h1
  obtain⟨v',e2,q2⟩:=aQ.at r2 h2
  exact he j v v' _ _ e1 e2 q1 q2
 have rc:RcAt A s (.ref a) (.ref b) b0:=by
  have:=Sf (e:=e) p1 p2 hu hi
  rw[l1,l2,hb0]at this
  exact this
 have rn:RcNeAt A s (.ref a) (.ref b) (!b0):=by
  have:=RcNeAt.tuples (e:=e) p1 p2 hu hi
  rw[l1,l2,hb0]at this
  exact this
 refine⟨rc,?_,rn⟩
 by_cases q:a=b
 ·rw[hs q,q];exact zi _
 ·exact yr q rc
theorem UN (I:Inv X pins σ H s){A:cg}{a b:Addr}{vs us:List V}{b0:Bool}(e:Nat->Bool)(ha:dQ X.K H a vs)(hb:dQ X.K H b us)(hu:A.units<cLine)(hs:a=b->b0=true)
  (he:∀ j v v' u u',vs[j]? = some v->us[j]? = some v'->RelV v u->RelV v' u'->EqAt A.in1 s u u' (e j))(hn:vs.length≠us.length->b0=false)(hb0:vs.length=us.length->(a9 vs.length).all e=b0):yJ A s (.ref a) (.ref b) b0:=by
 obtain⟨aD,r1,p1,_⟩:=I.list ha
 obtain⟨jts,r2,p2,_⟩:=I.list hb
 have l1:aD.toArray.size=vs.length:=by rw[aw];exact r1.length.symm
 have l2:jts.toArray.size=us.length:=by rw[aw];exact r2.length.symm
 have hi:∀ j (h1:j<aD.toArray.size)(h2:j<jts.toArray.size),EqAt A.in1 s aD.toArray[j] jts.toArray[j] (e j):=fun j h1 h2=>by
  obtain⟨v,e1,q1⟩:=aQ.at r1 h1
  obtain⟨v',e2,q2⟩:=aQ.at r2 h2
  exact he j v v' _ _ e1 e2 q1 q2
 have both:RcAt A s (.ref a) (.ref b) b0/\RcNeAt A s (.ref a) (.ref b) (!b0):=by
  by_cases hl:vs.length=us.length
  ·have:=RcAt.lists (e:=e) p1.isList p2.isList (by rw[l1,l2,hl]) hu hi
   have rn:=RcNeAt.lists (e:=e) p1.isList p2.isList (by rw[l1,l2,hl]) hu hi
   rw[l1,hb0 hl]at this rn
   exact⟨this,rn⟩
  ·rw[hn hl]
   have hz:(aD.toArray.size != jts.toArray.size)=true:=by rw[l1,l2,bne_iff_ne];exact hl
   exact⟨RcAt.lists_lengths p1.isList p2.isList hz hu,RcNeAt.lists_lengths p1.isList p2.isList hz hu⟩
 refine⟨both.1,?_,both.2⟩
 by_cases q:a=b
 ·rw[hs q,q];exact zi _
 ·exact yr q both.1
theorem vL {d:D}(p:bH d=true):oP d=true∨∃ ds,d=.tup ds:=by
 cases d<;>first|exact .inl rfl|exact .inr ⟨_,rfl⟩|cases p
theorem Pr (I:Inv X pins σ H s):∀(n:Nat){d d':D}{A:cg}{v v':V}{u u':Value},cL d<=n->bH d=true->bH d'=true->Rep X.K H d v->RelV v u->Rep X.K H d' v'->RelV v' u'->A.units+n+2<cLine ->
  yJ A s u u' (bK d d'):=by
 intro n
 induction n with
 |zero =>
  intro d d' A v v' u u' hn p p' r rv r' bJ hu
  have jJ:A.units<cLine:=by omega
  rcases vL p with q|⟨ds,rfl⟩
  ·rcases vL p' with q'|⟨jO,rfl⟩
   ·exact xE q q' r rv r' bJ
   ·obtain⟨b,us,rfl,h2,q2⟩:=r'.bS
    cases bJ
    obtain⟨aD,r1,p1,_⟩:=I.tuple h2
    have:=(gZ p1 jJ q r rv).2
    have e:bK d (.tup jO)=false:=by cases d<;>first|rfl|cases q
    rw[e];exact this
  ·simp only[cL]at hn;omega
 |succ n ih =>
  intro d d' A v v' u u' hn p p' r rv r' bJ hu
  have jJ:A.units<cLine:=by omega
  rcases vL p with q|⟨ds,rfl⟩
  ·rcases vL p' with q'|⟨jO,rfl⟩
   ·exact xE q q' r rv r' bJ
   ·obtain⟨b,us,rfl,h2,q2⟩:=r'.bS
    cases bJ
    obtain⟨aD,r1,p1,_⟩:=I.tuple h2
    have:=(gZ p1 jJ q r rv).2
    have e:bK d (.tup jO)=false:=by cases d<;>first|rfl|cases q
    rw[e];exact this
  ·obtain⟨a,vs,rfl,h1,q1⟩:=r.bS
   cases rv
   rcases vL p' with q'|⟨jO,rfl⟩
   ·obtain⟨aD,r1,p1,_⟩:=I.tuple h1
    have:=(gZ p1 jJ q' r' bJ).1
    have e:bK (.tup ds) d'=false:=by cases d'<;>first|rfl|cases q'
    rw[e];exact this
   ·obtain⟨b,us,rfl,h2,q2⟩:=r'.bS
    cases bJ
    have pd:bO ds=true:=by simpa [bH]using p
    have pd':bO jO=true:=by simpa [bH]using p'
    have e0:bK (.tup ds) (.tup jO)=fM ds jO:=by simp only[bK]
    rw[e0]
    refine KA I (fun j=>match ds[j]?,jO[j]? with|some x,some y=>bK x y|_,_=>true) h1 h2 jJ (fun e=>?_) (fun j v v' u u' e1 e2 rv bJ=>?_) ?_
    ·subst e
     have:=AR I (cL (.tup ds)) (bb _) p p' r r'
     cases this
     exact kX ds pd
    ·obtain⟨x,f1,g1⟩:=aL.get' q1 e1
     obtain⟨y,f2,g2⟩:=aL.get' q2 e2
     simp only[f1,f2]
     have hx:=jN (bf f1)
     simp only[cL]at hn
     exact(ih (by omega) (nT pd (bf f1)) (nT pd' (bf f2)) g1 rv g2 bJ (by simp only[fj];omega)).2.1
    ·rw[<-q1.length,<-q2.length]
     exact wC _ fun j x y e1 e2=>by simp only[e1,e2]
end
end L3
end
section
namespace L3
open PySem PySem.Spec PyProof.Rows L2 PySem.SeqAt
noncomputable def rR (st:aB):D->Option (List D)
 |.ref a=>match st a with
  |some (.lst xs)=>some xs
  |_=>none
 |.bP xs=>some xs
 |_=>none
theorem kinds {st:aB}{d:D}(p:fH st d=true):oP d=true∨(∃ ds,d=.tup ds/\hU st ds=true)∨∃ xs,rR st d=some xs/\bO xs=true/\cI xs<=mH:=by
 cases d with
 |tup ds=>exact .inr (.inl ⟨ds,rfl,by simpa [fH]using p⟩)
 |ref a =>
  simp only[fH]at p
  cases q:st a with
  |none=>rw[q]at p;cases p
  |some o=>cases o with
   |lst xs =>
    rw[q]at p
    simp only[JK,ay,decide_eq_true_eq]at p
    exact .inr (.inr ⟨xs,by simp [rR,q],p⟩)
   |dic _ _=>rw[q]at p;cases p
   |ins _ _=>rw[q]at p;cases p
   |tab _ _=>rw[q]at p;cases p
 |bP xs =>
  simp only[fH,ay,decide_eq_true_eq]at p
  exact .inr (.inr ⟨xs,rfl,p⟩)
 |dA _ _=>cases p
 |exc _=>cases p
 |_=>exact .inl rfl
set_option tactic.hygienic true in
theorem DH {st:aB}{d d':D}{xs ys:List D}(h:rR st d=some xs)(h':rR st d'=some ys):bT st d d'=fM xs ys:=by
 cases d with
 |ref a =>
  simp only[rR]at h
  split at h
  ·rename_i zs e
   cases h
   cases d' with
   |ref b =>
    simp only[rR]at h'
    split at h'
    ·rename_i ws e'
     cases h'
     simp only[bT,e,e',DI]
    ·cases h'
   |bP ws=>cases h';simp only[bT,e,DI]
   |_=>cases h'
  ·cases h
 |bP zs =>
  cases h
  cases d' with
  |ref b =>
   simp only[rR]at h'
   split at h'
   ·rename_i ws e'
    cases h'
    simp only[bT,e',DI]
   ·cases h'
  |bP ws=>cases h';simp only[bT]
  |_=>cases h'
 |_=>cases h
theorem DY {st:aB}{d d':D}{xs:List D}(h:rR st d=some xs)(p:oP d'=true):bT st d d'=false/\bT st d' d=false:=by
 cases d<;>first|(cases h;done)|skip
 all_goals (cases d'<;>first|(cases p;done)|exact⟨rfl,rfl⟩|(simp [bT];done))
theorem LB {st:aB}{d:D}{ds xs:List D}(h:rR st d=some xs):bT st d (.tup ds)=false/\bT st (.tup ds) d=false:=by
 cases d<;>first|(cases h;done)|exact⟨rfl,rfl⟩|(simp [bT];done)
theorem DU {st:aB}{d d':D}(p:oP d=true)(p':oP d'=true):bT st d d'=bK d d':=by
 cases d<;>first|(cases p;done)|skip
 all_goals (cases d'<;>first|(cases p';done)|rfl|(simp [bT,bK];done))
theorem IE {st:aB}{d:D}{ds:List D}(p:oP d=true):bT st d (.tup ds)=false/\bT st (.tup ds) d=false:=by
 cases d<;>first|(cases p;done)|exact⟨rfl,rfl⟩|(simp [bT];done)
theorem gQ {st:aB}:∀{ds:List D}{d:D},hU st ds=true->d∈ds->fH st d=true
 |e::ds,d,h,m=>by
  simp only[hU,ay]at h
  rcases List.mem_cons.mp m with rfl|m
  ·exact h.1
  ·exact gQ h.2 m
theorem LQ {st:aB}:∀{ds es:List D}(e:Nat->Bool),(∀ j d d',ds[j]? = some d->es[j]? = some d'->e j=bT st d d')->((a9 (min ds.length es.length)).all e&&ds.length==es.length)=jZ st ds es
 |[],[],e,h=>by simp [jZ]
 |[],_::_,e,h=>by simp [jZ]
 |_::_,[],e,h=>by simp [jZ]
 |d::ds,d'::es,e,h=>by
  have ih:=LQ (fun j=>e (j+1)) fun j x x' e1 e2=>h (j+1) x x' (by simpa using e1) (by simpa using e2)
  have h0:=h 0 d d' rfl rfl
  simp only[jZ,be,vy,kf,lx,p8,nj]
  rw[<-ih,h0]
  have hl:(ds.length+1==es.length+1)=(ds.length==es.length):=by simp
  rw[hl,Qq]
section
variable {X:Cx}{pins:List (Addr×Obj)}{σ:L2.St}{H:Hp}{s:af}{st:aB}
set_option tactic.hygienic true in
theorem gB {K:ab}{d:D}{v:V}{xs:List D}(ok:aS K st H)(h:rR st d=some xs)(r:Rep K H d v):∃ a vs,v=.ref a/\dQ K H a vs/\aL K H xs vs:=by
 cases r with
 |ref a =>
 simp only[rR]at h
 split at h
 ·rename_i zs e
  cases h
  obtain⟨vs,g,q⟩:=ok.lst e
  exact⟨a,vs,rfl,dQ.of g,q⟩
 ·cases h
 |bP f q=>cases h;exact⟨_,_,rfl,f.sq,q⟩
 |_=>cases h
theorem rB (I:Inv X pins σ H s):∀{ds es:List D}{vs:List V},bO ds=true->bO es=true->aL X.K H ds vs->aL X.K H es vs->ds=es
 |_,_,_,_,_,.nil,.nil=>rfl
 |_,_,_,p,p',.cons h r,.cons h' r'=>by
  simp only[bO,ay]at p p'
  rw[AR I _ (bb _) p.1 p'.1 h h',rB I p.2 p'.2 r r']
theorem EN (I:Inv X pins σ H s){a:Addr}{vs us:List V}(h:dQ X.K H a vs)(h':eS X.K H a us):False:=by
 obtain⟨aD,_,p1,_⟩:=I.list h
 obtain⟨jts,_,p2,_⟩:=I.tuple h'
 exact ne_of_list_tuple p1.isList p2 rfl
theorem ZP (I:Inv X pins σ H s)(ok:aS X.K st H):∀(n:Nat){d d':D}{v:V},cL d<=n->fH st d=true->fH st d'=true->Rep X.K H d v->Rep X.K H d' v->bT st d d'=true:=by
 intro n
 induction n with
 |zero =>
  intro d d' v hn p p' r r'
  rcases kinds p with q|⟨ds,rfl,q⟩|⟨xs,q,q1,q2⟩
  ·rcases kinds p' with q'|⟨jO,rfl,q'⟩|⟨ys,q',q1',q2'⟩
   ·rw[DU q q']
    have pd:bH d=true:=by cases d<;>first|rfl|cases q
    have pd':bH d'=true:=by cases d'<;>first|rfl|cases q'
    rw[AR I _ (bb _) pd pd' r r']
    exact wD d' pd'
   ·obtain⟨a,vs,rfl,_⟩:=r'.bS
    cases r<;>cases q
   ·obtain⟨a,vs,rfl,_⟩:=gB ok q' r'
    cases r<;>cases q
  ·simp only[cL]at hn;omega
  ·obtain⟨a,vs,rfl,f1,g1⟩:=gB ok q r
   rcases kinds p' with q'|⟨jO,rfl,q'⟩|⟨ys,q',q1',q2'⟩
   ·cases r'<;>cases q'
   ·obtain⟨b,us,e,f2,g2⟩:=r'.bS
    cases e
    exact(EN I f1 f2).elim
   ·obtain⟨b,us,e,f2,g2⟩:=gB ok q' r'
    cases e
    cases I.rF f1 f2
    rw[DH q q',rB I q1 q1' g1 g2]
    exact kX _ q1'
 |succ n ih =>
  intro d d' v hn p p' r r'
  rcases kinds p with q|⟨ds,rfl,q⟩|⟨xs,q,q1,q2⟩
  ·rcases kinds p' with q'|⟨jO,rfl,q'⟩|⟨ys,q',q1',q2'⟩
   ·rw[DU q q']
    have pd:bH d=true:=by cases d<;>first|rfl|cases q
    have pd':bH d'=true:=by cases d'<;>first|rfl|cases q'
    rw[AR I _ (bb _) pd pd' r r']
    exact wD d' pd'
   ·obtain⟨a,vs,rfl,_⟩:=r'.bS
    cases r<;>cases q
   ·obtain⟨a,vs,rfl,_⟩:=gB ok q' r'
    cases r<;>cases q
  ·obtain⟨a,vs,rfl,f1,g1⟩:=r.bS
   rcases kinds p' with q'|⟨jO,rfl,q'⟩|⟨ys,q',q1',q2'⟩
   ·cases r'<;>cases q'
   ·obtain⟨b,us,e,f2,g2⟩:=r'.bS
    cases e
    cases I.tQ f1 f2
    simp only[cL]at hn
    have go:∀(ds es:List D)(vs:List V),cI ds<=n->hU st ds=true->hU st es=true->aL X.K H ds vs->aL X.K H es vs->jZ st ds es=true:=by
     intro ds
     induction ds with
     |nil=>intro es vs _ _ _ r r';cases r;cases r';rfl
     |cons d ds ihs =>
      intro es vs hd pp pp' r r'
      cases r with
      |cons r1 r2=>cases r' with
       |cons r1' r2' =>
        simp only[cI]at hd
        simp only[hU,ay]at pp pp'
        simp only[jZ,ay]
        exact⟨ih (by omega) pp.1 pp'.1 r1 r1',ihs _ _ (by omega) pp.2 pp'.2 r2 r2'⟩
    simp only[bT]
    exact go ds jO vs (by omega) q q' g1 g2
   ·obtain⟨b,us,e,f2,g2⟩:=gB ok q' r'
    cases e
    exact(EN I f2 f1).elim
  ·obtain⟨a,vs,rfl,f1,g1⟩:=gB ok q r
   rcases kinds p' with q'|⟨jO,rfl,q'⟩|⟨ys,q',q1',q2'⟩
   ·cases r'<;>cases q'
   ·obtain⟨b,us,e,f2,g2⟩:=r'.bS
    cases e
    exact(EN I f1 f2).elim
   ·obtain⟨b,us,e,f2,g2⟩:=gB ok q' r'
    cases e
    cases I.rF f1 f2
    rw[DH q q',rB I q1 q1' g1 g2]
    exact kX _ q1'
theorem oM {A:cg}{l b:Addr}{aD jts:Array Value}(hl:s.heap.IsList l aD)(hb:s.heap.IsTuple b jts)(hu:A.units<cLine):yJ A s (.ref l) (.ref b) false/\yJ A s (.ref b) (.ref l) false :=
 ⟨⟨RcAt.list_tuple hl hb hu,EqAt.list_tuple hl hb hu,RcNeAt.list_tuple hl hb hu⟩,⟨RcAt.tuple_list hb hl hu,EqAt.tuple_list hb hl hu,RcNeAt.tuple_list hb hl hu⟩⟩
theorem QC (I:Inv X pins σ H s){A:cg}{a b:Addr}{vs us:List V}{xs ys:List D}(f1:dQ X.K H a vs)(g1:aL X.K H xs vs)(f2:dQ X.K H b us)(g2:aL X.K H ys us)(p1:bO xs=true)(d1:cI xs<=mH)(p2:bO ys=true)
  (hu:A.units+85<cLine):yJ A s (.ref a) (.ref b) (fM xs ys):=by
 refine UN I (fun j=>match xs[j]?,ys[j]? with|some x,some y=>bK x y|_,_=>true) f1 f2 (by omega) (fun e=>?_) (fun j v v' u u' e1 e2 rv bJ=>?_) (fun h=>?_) (fun h=>?_)
 ·subst e
  cases I.rF f1 f2
  rw[rB I p1 p2 g1 g2]
  exact kX _ p2
 ·obtain⟨x,h1,k1⟩:=aL.get' g1 e1
  obtain⟨y,h2,k2⟩:=aL.get' g2 e2
  simp only[h1,h2]
  have hx:=jN (bf h1)
  have hD:mH=80:=rfl
  exact(Pr I mH (by omega) (nT p1 (bf h1)) (nT p2 (bf h2)) k1 rv k2 bJ (by simp only[fj];omega)).2.1
 ·exact J7 (by rw[g1.length,g2.length];exact h)
 ·rw[<-g1.length]
  exact PU _ (by rw[g1.length,g2.length];exact h) fun j x y e1 e2=>by simp only[e1,e2]
theorem OO (I:Inv X pins σ H s)(ok:aS X.K st H):∀(n:Nat){d d':D}{A:cg}{v v':V}{u u':Value},cL d<=n->fH st d=true->fH st d'=true->Rep X.K H d v->RelV v u->Rep X.K H d' v'->RelV v' u'->A.units+n+85<cLine ->
  yJ A s u u' (bT st d d'):=by
 intro n
 induction n with
 |zero =>
  intro d d' A v v' u u' hn p p' r rv r' bJ hu
  have jJ:A.units<cLine:=by omega
  rcases kinds p with q|⟨ds,rfl,q⟩|⟨xs,q,q1,q2⟩
  ·rcases kinds p' with q'|⟨jO,rfl,q'⟩|⟨ys,q',q1',q2'⟩
   ·rw[DU q q'];exact xE q q' r rv r' bJ
   ·obtain⟨b,us,rfl,h2,g2⟩:=r'.bS
    cases bJ
    obtain⟨aD,r1,p1,_⟩:=I.tuple h2
    rw[(IE q).1]
    exact(gZ p1 jJ q r rv).2
   ·obtain⟨b,us,rfl,h2,g2⟩:=gB ok q' r'
    cases bJ
    obtain⟨aD,r1,p1,_⟩:=I.list h2
    rw[(DY q' q).2]
    exact(mB p1.isList jJ q r rv).2
  ·simp only[cL]at hn;omega
  ·obtain⟨a,vs,rfl,f1,g1⟩:=gB ok q r
   cases rv
   obtain⟨aD,r1,p1,_⟩:=I.list f1
   rcases kinds p' with q'|⟨jO,rfl,q'⟩|⟨ys,q',q1',q2'⟩
   ·rw[(DY q q').1]
    exact(mB p1.isList jJ q' r' bJ).1
   ·obtain⟨b,us,rfl,h2,g2⟩:=r'.bS
    cases bJ
    obtain⟨jts,r2,p2,_⟩:=I.tuple h2
    rw[(LB q).1]
    exact(oM p1.isList p2 jJ).1
   ·obtain⟨b,us,rfl,h2,g2⟩:=gB ok q' r'
    cases bJ
    rw[DH q q']
    exact QC I f1 g1 h2 g2 q1 q2 q1' (by omega)
 |succ n ih =>
  intro d d' A v v' u u' hn p p' r rv r' bJ hu
  have jJ:A.units<cLine:=by omega
  rcases kinds p with q|⟨ds,rfl,q⟩|⟨xs,q,q1,q2⟩
  ·rcases kinds p' with q'|⟨jO,rfl,q'⟩|⟨ys,q',q1',q2'⟩
   ·rw[DU q q'];exact xE q q' r rv r' bJ
   ·obtain⟨b,us,rfl,h2,g2⟩:=r'.bS
    cases bJ
    obtain⟨aD,r1,p1,_⟩:=I.tuple h2
    rw[(IE q).1]
    exact(gZ p1 jJ q r rv).2
   ·obtain⟨b,us,rfl,h2,g2⟩:=gB ok q' r'
    cases bJ
    obtain⟨aD,r1,p1,_⟩:=I.list h2
    rw[(DY q' q).2]
    exact(mB p1.isList jJ q r rv).2
  ·obtain⟨a,vs,rfl,f1,g1⟩:=r.bS
   cases rv
   obtain⟨aD,r1,p1,_⟩:=I.tuple f1
   rcases kinds p' with q'|⟨jO,rfl,q'⟩|⟨ys,q',q1',q2'⟩
   ·rw[(IE q').2]
    exact(gZ p1 jJ q' r' bJ).1
   ·obtain⟨b,us,rfl,h2,g2⟩:=r'.bS
    cases bJ
    have e0:bT st (.tup ds) (.tup jO)=jZ st ds jO:=by simp only[bT]
    refine KA I (fun j=>match ds[j]?,jO[j]? with|some x,some y=>bT st x y|_,_=>true) f1 h2 jJ (fun e=>?_) (fun j v v' u u' e1 e2 rv bJ=>?_) ?_
    ·subst e
     exact ZP I ok _ (bb _) p p' r r'
    ·obtain⟨x,k1,l1⟩:=aL.get' g1 e1
     obtain⟨y,k2,l2⟩:=aL.get' g2 e2
     simp only[k1,k2]
     have hx:=jN (bf k1)
     simp only[cL]at hn
     exact(ih (by omega) (gQ q (bf k1)) (gQ q' (bf k2)) l1 rv l2 bJ (by simp only[fj];omega)).2.1
    ·rw[<-g1.length,<-g2.length,e0]
     exact LQ _ fun j x y e1 e2=>by simp only[e1,e2]
   ·obtain⟨b,us,rfl,h2,g2⟩:=gB ok q' r'
    cases bJ
    obtain⟨jts,r2,p2,_⟩:=I.list h2
    rw[(LB q').2]
    exact(oM p2.isList p1 jJ).2
  ·obtain⟨a,vs,rfl,f1,g1⟩:=gB ok q r
   cases rv
   obtain⟨aD,r1,p1,_⟩:=I.list f1
   rcases kinds p' with q'|⟨jO,rfl,q'⟩|⟨ys,q',q1',q2'⟩
   ·rw[(DY q q').1]
    exact(mB p1.isList jJ q' r' bJ).1
   ·obtain⟨b,us,rfl,h2,g2⟩:=r'.bS
    cases bJ
    obtain⟨jts,r2,p2,_⟩:=I.tuple h2
    rw[(LB q).1]
    exact(oM p1.isList p2 jJ).1
   ·obtain⟨b,us,rfl,h2,g2⟩:=gB ok q' r'
    cases bJ
    rw[DH q q']
    exact QC I f1 g1 h2 g2 q1 q2 q1' (by omega)
end
end L3
end
section
namespace L3
open PySem PySem.Spec PyProof.Rows L2 PySem.SeqAt
mutual
inductive jL (h:Heap):D->Value->Prop where
 |str (x:List Nat)(t:Tok):jL h (.str x) (.str ⟨x.toArray⟩ t)
 |bl (b:Bool):jL h (.bl b) (.bool b)
 |tup {ds:List D}{a:Addr}{o:Obj}{aD:Array Value}{n:Nat}(e:h.get? a=some o)(c:o.cls=.type "tuple")(d:o.data=.seq aD n)(r:gA h ds aD.toList):jL h (.tup ds) (.ref a)
inductive gA (h:Heap):List D->List Value->Prop where
 |nil:gA h [] []
 |cons {d:D}{ds:List D}{v:Value}{vs:List Value}(r:jL h d v)(rs:gA h ds vs):gA h (d::ds) (v::vs)
end
section
variable {h h':Heap}
theorem jL.str_inv {d:D}{x:Str}{t:Tok}(q:jL h d (.str x t)):∃ y,d=.str y/\x=⟨y.toArray⟩:=by
 cases q;exact⟨_,rfl,rfl⟩
theorem jL.fL {d:D}{b:Bool}(q:jL h d (.bool b)):d=.bl b:=by
 cases q;rfl
theorem jL.cP {d:D}{a:Addr}(q:jL h d (.ref a)):∃ ds o aD n,d=.tup ds/\h.get? a=some o/\o.cls=.type "tuple" /\ o.data=.seq aD n/\gA h ds aD.toList:=by
 cases q with|tup e c d r=>exact⟨_,_,_,_,rfl,e,c,d,r⟩
mutual
theorem jL.inj:∀{x y:D}{v:Value},jL h x v->jL h y v->x=y
 |_,y,_,.str x t,q=>by
  obtain⟨z,rfl,e⟩:=q.str_inv
  have:x.toArray=z.toArray:=congrArg Tc e
  have:x=z:=by simpa using this
  rw[this]
 |_,y,_,.bl b,q=>q.fL.symm
 |_,y,_,.tup e c d r,q=>by
  obtain⟨ds,o,aD,n,rfl,e',c',d',r'⟩:=q.cP
  rw[e]at e';cases e'
  rw[d]at d'
  injection d' with d1 d2
  subst d1
  rw[gA.inj r r']
theorem gA.inj:∀{xs ys:List D}{vs:List Value},gA h xs vs->gA h ys vs->xs=ys
 |_,_,_,.nil,q=>by cases q;rfl
 |_,_,_,.cons r rs,q=>by cases q with|cons r' rs'=>rw[jL.inj r r',gA.inj rs rs']
end
mutual
theorem jL.keeps {b:Addr}{ob:Obj}{es:Array DictEntry}{ep:Nat}(ho:h.get? b=some ob)(hd:ob.data=.dict es ep)(hs:j9 b h h'):∀{x:D}{v:Value},jL h x v->jL h' x v
 |_,_,.str x t=>.str x t
 |_,_,.bl b=>.bl b
 |_,_,@jL.tup _ ds a o aD n e c d r=>.tup (by
  have ne:a≠b:=by
   intro z
   rw[z,ho]at e;cases e
   rw[hd]at d;cases d
  exact(hs.2 a ne).trans e) c d (gA.keeps ho hd hs r)
theorem gA.keeps {b:Addr}{ob:Obj}{es:Array DictEntry}{ep:Nat}(ho:h.get? b=some ob)(hd:ob.data=.dict es ep)(hs:j9 b h h'):∀{xs:List D}{vs:List Value},gA h xs vs->gA h' xs vs
 |_,_,.nil=>.nil
 |_,_,.cons r rs=>.cons (jL.keeps ho hd hs r) (gA.keeps ho hd hs rs)
end
theorem gA.length:∀{xs:List D}{vs:List Value},gA h xs vs->xs.length=vs.length
 |_,_,.nil=>rfl
 |_,_,.cons _ rs=>by simp [gA.length rs]
theorem gA.get:∀{xs:List D}{vs:List Value}{j:Nat}{v:Value},gA h xs vs->vs[j]? = some v->∃ x,xs[j]? = some x/\jL h x v
 |_,_,_,_,.nil,e=>by simp at e
 |_,_,0,_,.cons r _,e=>by simp at e;subst e;exact⟨_,rfl,r⟩
 |_,_,j+1,v,.cons _ rs,e=>by
  obtain⟨x,e1,e2⟩:=gA.get (j:=j) (v:=v) rs (by simpa using e)
  exact⟨x,by simpa using e1,e2⟩
end
theorem yF (w:World):∀ a b:List D,hZ w (a++b)=hZ w a++hZ w b
 |[],b=>by simp [hZ]
 |d::a,b=>by simp [hZ,yF w a b]
theorem xP:∀ a b:List D,kF (a++b)=kF a+kF b
 |[],b=>by simp [kF]
 |d::a,b=>by simp [kF,xP a b,oi]
theorem M9 {prog:br}{w:World}{b:Bool}{A:cg}{E:Value->af->Prop}{s:af}{Q:Int->af->Prop}(hu:A.units<cLine)(h:Q (qN w (.bl b)) { s with toks:=s.toks+sU (.bl b) }):wpAny (model prog w) A (pyHash (.bool b)) Q E s:=by
 refine PySem.W.pyHash_slot (T :="bool") rfl PySem.F.slot_bool_hash PySem.F.entry_int_hash (PySem.F.args_int_hash_1 _) (zj _) (.inr hu) ?_
 cases b
 ·exact(show wpAny _ _ (do ret (<-mkInt 0)) _ _ s from ae (rj (ao ⟨_,_,rfl,h⟩)))
 ·exact(show wpAny _ _ (do ret (<-mkInt 1)) _ _ s from ae (rj (ao ⟨_,_,rfl,h⟩)))
theorem ZD {prog:br}{w:World}:∀(n:Nat){d:D}{v:Value}{A:cg}{E:Value->af->Prop}{s:af}{Q:Int->af->Prop},cL d<=n->jL s.heap d v->A.units+n<cLine->Q (qN w d) { s with toks:=s.toks+sU d } ->
  wpAny (model prog w) A (pyHash v) Q E s:=by
 intro n
 induction n with
 |zero =>
  intro d v A E s Q hn hk hu h
  cases hk with
  |str x t =>
   simp only[qN,sU]at h
   exact(strKind prog w).pyHash (k:=⟨x.toArray⟩) (yg _ _ _ _) h
  |bl b=>exact M9 (by omega) h
  |tup e c dd r=>simp only[cL]at hn;omega
 |succ n ih =>
  intro d v A E s Q hn hk hu h
  cases hk with
  |str x t =>
   simp only[qN,sU]at h
   exact(strKind prog w).pyHash (k:=⟨x.toArray⟩) (yg _ _ _ _) h
  |bl b=>exact M9 (by omega) h
  |@tup ds a o items m ho c hd hi =>
   have hT:s.TypeIs (.ref a) "tuple":=⟨o,ho,c⟩
   simp only[cL]at hn
   simp only[qN,sU]at h
   unfold pyHash
   first|unfold pyHashByItsType|skip
   first|refine ae (wpAny_cRoomFor_or (.inr (by omega)) ?_)|skip
   refine ae (fz hT PySem.F.slot_tuple_hash.lookup ?_)
   show wpAny _ _ (if(some (Value.builtin "tuple.__hash__")==some iq)=true then _ else _) Q E s
   rw[if_neg (by rw[zj];exact dr)]
   refine ae (fz hT PySem.F.slot_tuple_hash.lookup ?_)
   show wpAny _ _ (callSpecialIfBoundUnlessNone? (.ref a) "__hash__" _ >>= _) Q E s
   refine ae (wpAny_callSpecialIfBoundUnlessNone?_slot hT tj (ff tj hT PySem.F.entry_tuple_hash ?_ (PySem.F.args_tuple_hash_1 _)))
   show wpAny _ _ (gj (.ref a) >>= _) _ _ s
   refine ae (yf ho hd ?_)
   refine ae ?_
   rw[<-yh]
   refine tm _
    (fun rest (b:Array Int) s'=>∃ done left,ds=done++left/\gA s.heap left rest/\b.toList=hZ w done/\s' = { s with toks:=s.toks+kF done })
    _ ?_ ?_ _ _ ⟨[],ds,rfl,hi,rfl,rfl⟩
   ·rintro x rest b s' ⟨done,left,e0,hl,hb,rfl⟩
    cases hl with
    |@cons k ks' _ _ h1 hl' =>
     have hdep:cL k<=cI ds:=jN (by rw[e0];simp)
     refine ae (ih (s:={ s with toks:=s.toks+kF done }) (d:=k) (by omega) h1 (by simp only[fj];omega) ?_)
     have e1:kF (done++[k])=kF done+sU k:=by rw[xP];simp [kF]
     have e2:hZ w (done++[k])=hZ w done++[qN w k]:=by rw[yF];simp [hZ]
     first
      |exact ao ⟨done++[k],ks',by simp [e0],hl',by simp [hb,e2],by simp [e1,oi]⟩
      |exact ae (ao (ao ⟨done++[k],ks',by simp [e0],hl',by simp [hb,e2],by simp [e1,oi]⟩))
   ·rintro b s' ⟨done,left,e0,hl,hb,rfl⟩
    cases hl
    rw[b7]at e0
    subst e0
    show wpAny _ _ (retInt (fo b.toList)) _ _ _
    rw[hb]
    refine wpAny_ret_mkInt ?_
    show wpAny _ _ (if(decide (-(2:Int) ^ 63<=fo (hZ w ds))&&decide (fo (hZ w ds)<2 ^ 63))=true then _ else _) Q E _
    unfold Qn at h
    by_cases hr:(decide (-(2:Int) ^ 63<=fo (hZ w ds))&&decide (fo (hZ w ds)<2 ^ 63))=true
    ·rw[if_pos hr]
     rw[if_pos hr]at h
     exact ao (by simpa [oi]using h)
    ·rw[if_neg hr]
     rw[if_neg hr]at h
     exact ae (uz (ao (by simpa [oi]using h)))
mutual
theorem II:∀ d:D,jC d=true->bH d=true
 |.str _,_=>rfl
 |.tup ds,h=>by simp only[jC]at h;simp only[bH];exact zJ ds h
 |.non,h=>by cases h
 |.bl _,_=>rfl
 |.int _,h=>by cases h
 |.ref _,h=>by cases h
 |.dA _ _,h=>by cases h
 |.bP _,h=>by cases h
 |.exc _,h=>by cases h
theorem zJ:∀ ds:List D,jG ds=true->bO ds=true
 |[],_=>rfl
 |d::ds,h=>by
  simp only[jG,ay]at h
  simp only[bO,ay]
  exact⟨II d h.1,zJ ds h.2⟩
end
mutual
theorem QE:∀ x y:D,jC x=true->jC y=true->bK x y=true->x=y
 |.str a,y,_,_,e=>by
  cases y with
  |str b=>simp only[bK,beq_iff_eq]at e;rw[e]
  |_=>simp [bK]at e
 |.bl a,y,_,h',e=>by
  cases y with
  |bl b=>simp only[bK,beq_iff_eq]at e;rw[e]
  |int _=>cases h'
  |_=>simp [bK]at e
 |.tup as,y,h,h',e=>by
  cases y with
  |tup bs=>simp only[bK]at e;simp only[jC]at h h';rw[MZ as bs h h' e]
  |_=>simp [bK]at e
 |.non,_,h,_,_=>by cases h
 |.int _,_,h,_,_=>by cases h
 |.ref _,_,h,_,_=>by cases h
 |.dA _ _,_,h,_,_=>by cases h
 |.bP _,_,h,_,_=>by cases h
 |.exc _,_,h,_,_=>by cases h
theorem MZ:∀ xs ys:List D,jG xs=true->jG ys=true->fM xs ys=true->xs=ys
 |[],[],_,_,_=>rfl
 |[],_::_,_,_,e=>by cases e
 |_::_,[],_,_,e=>by cases e
 |x::xs,y::ys,h,h',e=>by
  simp only[fM,ay]at e
  simp only[jG,ay]at h h'
  rw[QE x y h.1 h'.1 e.1,MZ xs ys h.2 h'.2 e.2]
end
noncomputable instance decD:DecidableEq D:=fun a b=>Classical.propDecidable (a=b)
theorem FA {x y:D}(h:jC x=true)(h':jC y=true):bK x y=decide (x=y):=by
 by_cases e:x=y
 ·subst e;rw[wD x (II x h)];simp
 ·rw[decide_eq_false e]
  cases q:bK x y with
  |false=>rfl
  |true=>exact(e (QE x y h h' q)).elim
theorem Hs:∀(n:Nat){x y:D}{u v:Value}{A:cg}{s:af},cL x<=n->jL s.heap x u->jL s.heap y v->jC x=true->A.units+n+2<cLine->EqAt A s u v (bK x y):=by
 intro n
 induction n with
 |zero =>
  intro x y u v A s hn hx hy ht hu
  have jJ:A.units<cLine:=by omega
  cases hx with
  |str a t =>
   cases hy with
   |str b t' =>
    have e:bK (.str a) (.str b)=((⟨a.toArray⟩:Str)==⟨b.toArray⟩):=by rw[IM];simp only[bK]
    rw[e]
    exact yq _ _ _ _
   |tup e c d r =>
    simp only[bK]
    exact wm _ _ (show s.heap.IsTuple _ _ from⟨_,e,c,_,d⟩) jJ
   |bl b =>
    simp only[bK]
    exact xq _ _ _
  |bl a =>
   cases hy with
   |str b t' =>
    simp only[bK]
    exact xp _ _ _
   |bl b=>exact wk _ _
   |tup e c d r =>
    simp only[bK]
    exact vg _ (show s.heap.IsTuple _ _ from⟨_,e,c,_,d⟩) jJ
  |tup e c d r=>simp only[cL]at hn;omega
 |succ n ih =>
  intro x y u v A s hn hx hy ht hu
  have jJ:A.units<cLine:=by omega
  cases hx with
  |str a t =>
   cases hy with
   |str b t' =>
    have e:bK (.str a) (.str b)=((⟨a.toArray⟩:Str)==⟨b.toArray⟩):=by rw[IM];simp only[bK]
    rw[e]
    exact yq _ _ _ _
   |tup e c d r =>
    simp only[bK]
    exact wm _ _ (show s.heap.IsTuple _ _ from⟨_,e,c,_,d⟩) jJ
   |bl b =>
    simp only[bK]
    exact xq _ _ _
  |bl a =>
   cases hy with
   |str b t' =>
    simp only[bK]
    exact xp _ _ _
   |bl b=>exact wk _ _
   |tup e c d r =>
    simp only[bK]
    exact vg _ (show s.heap.IsTuple _ _ from⟨_,e,c,_,d⟩) jJ
  |@tup ds a o aD m e c d r =>
   have hp1:s.heap.IsTuple a aD:=⟨_,e,c,_,d⟩
   cases hy with
   |str b t' =>
    simp only[bK]
    exact Qr _ _ hp1 jJ
   |bl b =>
    simp only[bK]
    exact zy _ hp1 jJ
   |@tup es b o' jts m' e' c' d' r' =>
    have gU:s.heap.IsTuple b jts:=⟨_,e',c',_,d'⟩
    have e0:bK (.tup ds) (.tup es)=fM ds es:=by simp only[bK]
    rw[e0]
    have hts:jG ds=true:=by simpa [jC]using ht
    by_cases q:a=b
    ·subst q
     rw[e]at e';cases e'
     rw[d]at d';injection d' with d1 d2;subst d1
     rw[gA.inj r r',kX es (zJ es (by rw[<-gA.inj r r'];exact hts))]
     exact zi _
    ·refine yr q ?_
     have l1:aD.size=ds.length:=by rw[<-i9];exact r.length.symm
     have l2:jts.size=es.length:=by rw[<-i9];exact r'.length.symm
     have:=Sf (e:=fun j=>match ds[j]?,es[j]? with|some x,some y=>bK x y|_,_=>true) hp1 gU jJ (fun j h1 h2=>by
      obtain⟨x,f1,g1⟩:=r.get (j:=j) (v:=aD[j]) (by simp [h1])
      obtain⟨y,f2,g2⟩:=r'.get (j:=j) (v:=jts[j]) (by simp [h2])
      simp only[f1,f2]
      have hx:=jN (bf f1)
      simp only[cL]at hn
      have htx:jC x=true:=by
       have:∀(l:List D)(x:D),jG l=true->x∈l->jC x=true:=by
        intro l
        induction l with
        |nil=>intro x _ hm;cases hm
        |cons z l ihl =>
         intro x hh hm
         simp only[jG,ay]at hh
         rcases List.mem_cons.mp hm with rfl|hm
         ·exact hh.1
         ·exact ihl x hh.2 hm
       exact this ds x hts (bf f1)
      exact ih (by omega) g1 g2 htx (by simp only[fj];omega))
     rw[l1,l2,wC _ fun j x y e1 e2=>by simp only[e1,e2]]at this
     exact this
theorem U0 {prog:br}{w:World}:∀(n:Nat){d:D}{v:Value}{A:cg}{E:Value->af->Prop}{s:af}{Q:Bool->af->Prop},cL d<=n->jL s.heap d v->Q true s->wpAny (model prog w) A (eqIsQuiet n v) Q E s:=by
 intro n
 induction n with
 |zero =>
  intro d v A E s Q hn hk h
  cases hk with
  |str x t=>rw[nk _ rfl];exact ao h
  |bl b=>rw[nk _ rfl];exact ao h
  |tup e c dd r=>simp only[cL]at hn;omega
 |succ n ih =>
  intro d v A E s Q hn hk h
  cases hk with
  |str x t=>rw[nk _ rfl];exact ao h
  |bl b=>rw[nk _ rfl];exact ao h
  |@tup ds a o items m ho c hd hi =>
   have hT:s.TypeIs (.ref a) "tuple":=⟨o,ho,c⟩
   simp only[cL]at hn
   unfold eqIsQuiet
   refine ae (fz hT PySem.F.slot_tuple_eq.lookup ?_)
   show wpAny _ _ (isInstance (.ref a) (.type "tuple") >>= _) _ _ s
   refine ae (kz hT isSubtype_tuple_tuple ?_)
   simp only[d7,ag,if_false]
   refine ae (Qs ho hd ?_)
   refine ae ?_
   show wpAny _ _ (forIn items _ _) _ _ s
   rw[<-yh]
   refine tm _ (fun rest r s'=>r.1=none/\s'=s/\∃ ks,gA s.heap ks rest/\cI ks<=n) _ ?_ ?_ _ _ ⟨rfl,rfl,ds,hi,by omega⟩
   ·rintro v rest r s' ⟨hr,rfl,ks,hks,hdep⟩
    cases hks with
    |@cons k ks' _ _ h1 h2 =>
     simp only[cI]at hdep
     refine ae (ih (d:=k) (by omega) h1 ?_)
     simp only[d7,ag,if_false]
     exact ao ⟨rfl,rfl,ks',h2,by omega⟩
   ·rintro⟨r1,r2⟩ s' ⟨hr,rfl,_⟩
    simp only at hr
    subst hr
    exact ao h
theorem keyed.aK {d:D}(h:keyed d):cL d<=8:=by
 cases d with
 |tup ds=>have:=h.2;simp only[cL];omega
 |_=>exact h.elim
theorem keyed.txt {d:D}(h:keyed d):jC d=true:=by
 cases d with
 |tup ds=>simp only[jC];exact h.1
 |_=>exact h.elim
noncomputable def sM (prog:br)(w:World):HeapKind prog w D where
 is:=fun h d a=>keyed d/\jL h d (.ref a)
 hash:=qN w
 draws:=sU
 room:=fun A=>A.units+12<cLine
 inj:=fun hx hy=>hx.2.inj hy.2
 keeps:=fun x ho hd hs=>⟨x.1,x.2.keeps ho hd hs⟩
 pyHash:=fun hu hk h=>ZD 8 hk.1.aK hk.2 (by omega) h
 eqBool:=fun{A E s x y a b Q} hu hx hy h=>by
  have:=Hs 8 hx.1.aK hx.2 hy.2 hx.1.txt (A:=A) (by omega) prog w E Q
  rw[FA hx.1.txt hy.1.txt]at this
  exact this h
 quiet:=fun hk h=>U0 8 hk.1.aK hk.2 h
end L3
end
section
namespace L3
open PySem PySem.Spec PyProof.Rows L2 PySem.SeqAt
noncomputable def oK (X:Cx)(op:CmpOp)(W:D->D->aB->(Bool->Prop)->Prop):Prop :=
 ∀(pins:List (Addr×Obj))(s:af)(σ:L2.St)(H:Hp)(st:aB)(d d':D)(v v':V)(u u':Value)(P:Bool->Prop),Inv X pins σ H s->aS X.K st H->Rep X.K H d v->RelV v u->Rep X.K H d' v'->RelV v' u'->W d d' st P ->
 wpAny (model X.prog X.w) X.A (sj op u u') (fun r s'=>∃ k,r=.bool k/\P k/\Inv X pins σ H s') X.xe s
theorem D5 (w:List Nat):∀ z:List Nat,occurs w z=true↔∃ i,i+w.length<=z.length/\(z.drop i).take w.length=w
 |[]=>by
  unfold occurs
  constructor
  ·intro h;rw[zk]at h;subst h;exact⟨0,by simp,by simp⟩
  ·rintro⟨i,h,_⟩;rw[zk];exact List.length_eq_zero_iff.mp (by simp only[ba]at h;omega)
 |c::r=>by
  unfold occurs
  rw[ow,D5 w r,List.isPrefixOf_iff_prefix]
  constructor
  ·rintro(h|⟨i,h1,h2⟩)
   ·exact⟨0,by have:=h.length_le;omega,by rw[qp];exact(List.prefix_iff_eq_take.mp h).symm⟩
   ·exact⟨i+1,by simp;omega,by simpa using h2⟩
  ·rintro⟨i,h1,h2⟩
   cases i with
   |zero=>exact .inl (by rw[qp]at h2;rw[List.prefix_iff_eq_take];exact h2.symm)
   |succ i=>exact .inr ⟨i,by simp at h1;omega,by simpa using h2⟩
theorem GF (w z:List Nat):(!(me ⟨z.toArray⟩ ⟨w.toArray⟩ 0 (⟨z.toArray⟩:Str).length 1).isEmpty)=occurs w z:=by
 rw[Bool.eq_iff_iff,PySem.StrLaws.found_iff,D5]
 refine⟨fun⟨i,h1,h2⟩=>⟨i,by simpa [j3]using h1,?_⟩,fun⟨i,h1,h2⟩=>⟨i,by simpa [j3]using h1,?_⟩⟩
 ·unfold yt at h2
  have:=eq_of_beq h2
  simp only[j3,aw]at this
  have e:=congrArg yj this
  simp only[wo,qx,tq]at e
  exact e
 ·unfold yt
  rw[beq_iff_eq]
  simp only[j3,aw]
  apply Array.toList_inj.mp
  simp only[wo,qx,tq]
  exact h2
section
variable {X:Cx}{C:bL}{sub:Nat->Nat->Bool}{E:XK}{a b c e:Expr}{x y z:Ex}{pos:Pos}
theorem My (hu:X.A.units+180<cLine):oK X .Eq (dE .eq):=by
 intro pins s σ H st d d' v v' u u' P I ok r rv r' bJ ⟨p,p',q⟩
 have hD:mH=80:=rfl
 exact(OO I ok 80 (by have:=p.2;omega) p.1 p'.1 r rv r' bJ (by omega)).1 _ _ _ _ ⟨_,rfl,q,I⟩
theorem Mx (hu:X.A.units+180<cLine):oK X .NotEq (dE .ne):=by
 intro pins s σ H st d d' v v' u u' P I ok r rv r' bJ ⟨p,p',q⟩
 have hD:mH=80:=rfl
 exact(OO I ok 80 (by have:=p.2;omega) p.1 p'.1 r rv r' bJ (by omega)).2.2 _ _ _ _ ⟨_,rfl,q,I⟩
theorem HW {op:CmpOp}{o:rD}{f:Int->Int->Bool}(hW:∀ d d' st P,dE o d d' st P=vP f d d' P)
  (rule:∀(i j:Int)(t u:Tok)(Q:Value->af->Prop)(s:af),Q (.bool (f i j)) s->wpAny (model X.prog X.w) X.A (sj op (.int i t) (.int j u)) Q X.xe s):oK X op (dE o):=by
 intro pins s σ H st d d' v v' u u' P I ok r rv r' bJ q
 rw[hW]at q
 unfold vP at q
 split at q
 ·cases r.int_inv;cases r'.int_inv
  obtain⟨t,rfl⟩:=rv
  obtain⟨t',rfl⟩:=bJ
  exact rule _ _ _ _ _ _ ⟨_,rfl,q,I⟩
 ·exact q.elim
theorem Me:oK X .Lt (dE .lt):=HW (fun _ _ _ _=>rfl) fun _ _ _ _ _ _ h=>lt_int h
theorem Nz:oK X .LtE (dE .le):=HW (fun _ _ _ _=>rfl) fun _ _ _ _ _ _ h=>le_int h
theorem Oc:oK X .Gt (dE .gt):=HW (fun _ _ _ _=>rfl) fun _ _ _ _ _ _ h=>gt_int h
theorem Ly:oK X .GtE (dE .ge):=HW (fun _ _ _ _=>rfl) fun _ _ _ _ _ _ h=>ge_int h
theorem RG {pins:List (Addr×Obj)}{s:af}{σ:L2.St}{H:Hp}{a:Addr}{vs us:List V}(I:Inv X pins σ H s)(h:H a=some (.lst vs))(f:rO X.K H a us):False:=by
 rcases f with⟨o,e⟩|⟨o,_,_,e,_⟩
 ·rw[h]at e;cases e
 ·have:=(I.bs a o (I.ok.mod.kin a o e)).2
  rw[h]at this;cases this
set_option tactic.hygienic true in
theorem J6 {pins:List (Addr×Obj)}{s:af}{σ:L2.St}{H:Hp}{st:aB}(I:Inv X pins σ H s)(ok:aS X.K st H):∀(n:Nat){d d':D}{v:V},cL d<=n->fH st d=true->fH st d'=true->Rep X.K H d v->Rep X.K H d' v->d=d':=by
 have lists:∀{d d':D}{v:V}{xs ys:List D},rR st d=some xs->rR st d'=some ys->bO xs=true->bO ys=true->Rep X.K H d v->Rep X.K H d' v->d=d':=by
  intro d d' v xs ys q q' p p' r r'
  cases r with
  |ref a=>cases r' with
   |ref _=>rfl
   |bP f g =>
    simp only[rR]at q
    split at q
    ·rename_i e
     obtain⟨vs,h,_⟩:=ok.lst e
     exact(RG I h f).elim
    ·cases q
   |_=>cases q'
  |bP f g=>cases r' with
   |ref _ =>
    simp only[rR]at q'
    split at q'
    ·rename_i e
     obtain⟨vs,h,_⟩:=ok.lst e
     exact(RG I h f).elim
    ·cases q'
   |bP f' g' =>
    cases q;cases q'
    cases I.rF f.sq f'.sq
    rw[rB I p p' g g']
   |_=>cases q'
  |_=>cases q
 intro n
 induction n with
 |zero =>
  intro d d' v hn p p' r r'
  rcases kinds p with q|⟨ds,rfl,q⟩|⟨xs,q,q1,q2⟩
  ·cases r<;>cases r'<;>first|rfl|(cases q;done)|skip
  ·simp only[cL]at hn;omega
  ·obtain⟨a,vs,rfl,f1,g1⟩:=gB ok q r
   rcases kinds p' with q'|⟨jO,rfl,q'⟩|⟨ys,q',q1',q2'⟩
   ·cases r'<;>cases q'
   ·obtain⟨b,us,e,f2,g2⟩:=r'.bS
    cases e
    exact(EN I f1 f2).elim
   ·exact lists q q' q1 q1' r r'
 |succ n ih =>
  intro d d' v hn p p' r r'
  rcases kinds p with q|⟨ds,rfl,q⟩|⟨xs,q,q1,q2⟩
  ·cases r<;>cases r'<;>first|rfl|(cases q;done)|skip
  ·obtain⟨a,vs,rfl,f1,g1⟩:=r.bS
   rcases kinds p' with q'|⟨jO,rfl,q'⟩|⟨ys,q',q1',q2'⟩
   ·cases r'<;>cases q'
   ·obtain⟨b,us,e,f2,g2⟩:=r'.bS
    cases e
    cases I.tQ f1 f2
    simp only[cL]at hn
    have go:∀(ds es:List D)(vs:List V),cI ds<=n->hU st ds=true->hU st es=true->aL X.K H ds vs->aL X.K H es vs->ds=es:=by
     intro ds
     induction ds with
     |nil=>intro es vs _ _ _ r r';cases r;cases r';rfl
     |cons d ds ihs =>
      intro es vs hd pp pp' r r'
      cases r with
      |cons r1 r2=>cases r' with
       |cons r1' r2' =>
        simp only[cI]at hd
        simp only[hU,ay]at pp pp'
        rw[ih (by omega) pp.1 pp'.1 r1 r1',ihs _ _ (by omega) pp.2 pp'.2 r2 r2']
    rw[go ds jO vs (by omega) q q' g1 g2]
   ·obtain⟨b,us,e,f2,g2⟩:=gB ok q' r'
    cases e
    exact(EN I f2 f1).elim
  ·obtain⟨a,vs,rfl,f1,g1⟩:=gB ok q r
   rcases kinds p' with q'|⟨jO,rfl,q'⟩|⟨ys,q',q1',q2'⟩
   ·cases r'<;>cases q'
   ·obtain⟨b,us,e,f2,g2⟩:=r'.bS
    cases e
    exact(EN I f1 f2).elim
   ·exact lists q q' q1 q1' r r'
theorem GI {pins:List (Addr×Obj)}{s:af}{σ:L2.St}{H:Hp}{st:aB}(I:Inv X pins σ H s)(ok:aS X.K st H){ds:List D}{vs:List V}{aD:List Value}{d:D}{v:V}{u:Value}{A:cg}
  (g:aL X.K H ds vs)(r:aQ vs aD)(p:dW st ds)(pd:plainS st d)(rd:Rep X.K H d v)(rv:RelV v u)(hu:A.units+178<cLine):
  ∃ e:Value->Bool,(∀ y,y∈aD.toArray->EqAt A.in1 s y u (e y))/\aD.toArray.any e=ds.any fun d'=>bT st d' d:=by
 classical
 have hD:mH=80:=rfl
 have item:∀(d':D)(v':V)(y:Value),d'∈ds->Rep X.K H d' v'->RelV v' y->EqAt A.in1 s y u (bT st d' d):=fun d' v' y m r' bJ=>by
  have h1:=jN m
  have h2:=p.2
  exact(OO I ok 80 (by omega) (gQ p.1 m) pd.1 r' bJ rd rv (by simp only[fj];omega)).2.1
 let e:Value->Bool:=fun y=>decide (∃ d' v',d'∈ds/\Rep X.K H d' v'/\RelV v' y/\bT st d' d=true)
 have he:∀(d':D)(v':V)(y:Value),d'∈ds->Rep X.K H d' v'->RelV v' y->e y=bT st d' d:=fun d' v' y m r' bJ=>by
  show decide _=_
  cases q:bT st d' d with
  |true=>exact decide_eq_true ⟨d',v',m,r',bJ,q⟩
  |false =>
   refine decide_eq_false fun⟨d2,v2,m2,r2,rv2,q2⟩=>?_
   cases RelV.inj bJ rv2
   have:=J6 I ok _ (bb _) (gQ p.1 m) (gQ p.1 m2) r' r2
   subst this
   rw[q]at q2;cases q2
 refine⟨e,fun y hy=>?_,?_⟩
 ·obtain⟨j,hj,rfl⟩:=Array.mem_iff_getElem.mp hy
  obtain⟨v',e1,e2⟩:=aQ.at r hj
  obtain⟨d',e3,e4⟩:=aL.get' g e1
  rw[he d' v' _ (bf e3) e4 e2]
  exact item d' v' _ (bf e3) e4 e2
 ·have go:∀(es:List D)(vs:List V)(aD:List Value),(∀ d∈es,d∈ds)->aL X.K H es vs->aQ vs aD->aD.any e=es.any fun d'=>bT st d' d:=by
   intro es
   induction es with
   |nil=>intro vs aD _ g r;cases g;cases r;rfl
   |cons d1 es ih =>
    intro vs aD hm g r
    cases g with
    |cons g1 g2=>cases r with
     |cons r1 r2 =>
      simp only[jk]
      rw[he d1 _ _ (hm d1 (by simp)) g1 r1,ih _ _ (fun d m=>hm d (by simp [m])) g2 r2]
  rw[List.any_toArray]
  exact go ds vs aD (fun _ m=>m) g r
theorem QK (k x:Str):(decide (k=x))=(x.cps.toList==k.cps.toList):=by
 by_cases h:k=x
 ·subst h;simp
 ·rw[decide_eq_false h]
  symm
  refine beq_eq_false_iff_ne.mpr fun e=>h ?_
  obtain⟨⟨k⟩⟩:=k
  obtain⟨⟨x⟩⟩:=x
  have e:x=k:=e
  subst e;rfl
theorem E5 {pins:List (Addr×Obj)}{s:af}{σ:L2.St}{H:Hp}{a:Addr}{T:List (Str×PyData)}(I:Inv X pins σ H s)(h:wj rm (fun b=>X.K.lookup b) a T=true):KTD.Here s.heap s.heap a (T.map fun p=>(p.1,u4 p.2)) :=
 ⟨(KTD.tab_of_look (fun d v=>KTD.flat_of_looks) (fun a o e=>I.kG a o e) h).text,fun _ _ e=>e⟩
theorem NJ (k:List Nat):∀(T:List (Str×PyData)),KTD.inKeys (⟨k.toArray⟩:Str) (T.map fun p=>(p.1,u4 p.2))=(T.map fun p=>D.str p.1.cps.toList).any fun d=>bK d (.str k)
 |[]=>rfl
 |(x,d)::T=>by
  show(decide ((⟨k.toArray⟩:Str)=x)||KTD.inKeys _ _)=((x.cps.toList==k)||_)
  rw[NJ k T,QK]
theorem Bt (hu:X.A.units+180<cLine):oK X .In (dE .in_)/\oK X .NotIn (dE .fX):=by
 have main:∀(neg:Bool)(pins:List (Addr×Obj))(s:af)(σ:L2.St)(H:Hp)(st:aB)(d d':D)(v v':V)(u u':Value)(P:Bool->Prop),Inv X pins σ H s->aS X.K st H->Rep X.K H d v->RelV v u->Rep X.K H d' v'->RelV v' u' ->
   LI d d' st (fun b=>P (if neg then !b else b))->wpAny (model X.prog X.w) X.A (sj (if neg then .NotIn else .In) u u') (fun r s'=>∃ k,r=.bool k/\P k/\Inv X pins σ H s') X.xe s:=by
  intro neg pins s σ H st d d' v v' u u' P I ok r rv r' bJ q
  have lst:∀(a:Addr)(vs:List V)(ds:List D),dQ X.K H a vs->aL X.K H ds vs->plainS st d->dW st ds->P (if neg then !(ds.any fun d'=>bT st d' d)else ds.any fun d'=>bT st d' d) ->
    wpAny (model X.prog X.w) X.A (sj (if neg then .NotIn else .In) u (.ref a)) (fun r s'=>∃ k,r=.bool k/\P k/\Inv X pins σ H s') X.xe s:=by
   intro a vs ds f g pd ps q
   obtain⟨aD,r1,p1,_⟩:=I.list f
   obtain⟨e,he,ha⟩:=GI I ok g r1 ps pd r rv (A:=X.A) (by omega)
   rw[<-ha]at q
   cases neg with
   |true=>exact notIn_listAt e p1.isList he ⟨_,rfl,q,I⟩
   |false=>exact in_listAt e p1.isList he ⟨_,rfl,q,I⟩
  unfold LI at q
  split at q
  ·obtain⟨a,vs,rfl,f,g⟩:=r'.bS
   cases bJ
   obtain⟨aD,r1,p1,_⟩:=I.tuple f
   obtain⟨pd,ps,q⟩:=q
   obtain⟨e,he,ha⟩:=GI I ok g r1 ps pd r rv (A:=X.A) (by omega)
   rw[<-ha]at q
   cases neg with
   |true=>exact notIn_tupleAt e p1 he ⟨_,rfl,q,I⟩
   |false=>exact in_tupleAt e p1 he ⟨_,rfl,q,I⟩
  ·cases r'.cP
   cases bJ
   obtain⟨ds,e1,pd,ps,q⟩:=sJ ok q
   obtain⟨vs,g1,g2⟩:=ok.lst e1
   exact lst _ vs ds (dQ.of g1) g2 pd ps q
  ·obtain⟨a,rfl,T,h1,_,h2,_⟩:=r'.JU
   cases bJ
   cases r.str_inv
   obtain⟨t,rfl⟩:=rv
   rw[h2,<-NJ]at q
   cases neg with
   |true=>exact KTD.notin_text (E5 I h1) ⟨_,rfl,q,I.tok _⟩
   |false=>exact KTD.in_text (E5 I h1) ⟨_,rfl,q,I.tok _⟩
  ·obtain⟨a,vs,rfl,f,g⟩:=r'.lC
   cases bJ
   exact lst a vs _ f.sq g q.1 q.2.1 q.2.2
  ·cases r.str_inv;cases r'.str_inv
   cases neg with
   |true =>
    refine bE (KG (X:=X) pins s σ H _ _ _ _ (fun v H'=>H'=H/\∃ k,v=.bl k/\P k) I rv bJ ⟨_,_,rfl,rfl,rfl,_,rfl,?_⟩) fun r s1 ⟨v,H',I1,r1,e,k,e',q'⟩=>?_
    ·rw[GF];exact q
    ·subst e e';cases r1;exact⟨k,rfl,q',I1⟩
   |false =>
    refine bE (QI (X:=X) pins s σ H _ _ _ _ (fun v H'=>H'=H/\∃ k,v=.bl k/\P k) I rv bJ ⟨_,_,rfl,rfl,rfl,_,rfl,?_⟩) fun r s1 ⟨v,H',I1,r1,e,k,e',q'⟩=>?_
    ·rw[GF];exact q
    ·subst e e';cases r1;exact⟨k,rfl,q',I1⟩
  ·exact q.elim
 exact⟨fun pins s σ H st d d' v v' u u' P I ok r rv r' bJ q=>main false pins s σ H st d d' v v' u u' P I ok r rv r' bJ q,fun pins s σ H st d d' v v' u u' P I ok r rv r' bJ q=>main true pins s σ H st d d' v v' u u' P I ok r rv r' bJ q⟩
theorem G2 {K:ab}{H:Hp}{d:D}{v:V}{u:Value}(r:Rep K H d v)(rv:RelV v u):(u==iq)=HQ d:=by
 rw[rv.VD]
 cases r<;>rfl
set_option tactic.hygienic true in
theorem Z5:oK X .Is (dE .is_)/\oK X .IsNot (dE .isnot):=by
 constructor
 ·intro pins s σ H st d d' v v' u u' P I ok r rv r' bJ q
  have q:DO d d' P:=q
  unfold DO at q
  split at q
  ·cases r'.fR;cases bJ
   exact is_none_gen ⟨_,rfl,by rw[G2 r rv];exact q,I⟩
  ·rename_i b
   cases r'.fL;cases bJ
   cases r with
   |bl c=>cases rv;exact is_bool ⟨_,rfl,q,I⟩
   |non=>cases rv;exact j6 rfl (by intro z;cases z) ⟨_,rfl,q,I⟩
   |int i=>obtain⟨t,rfl⟩:=rv;exact j6 rfl (by intro z;cases z) ⟨_,rfl,q,I⟩
   |str z=>obtain⟨t,rfl⟩:=rv;exact j6 rfl (by intro z;cases z) ⟨_,rfl,q,I⟩
   |tup _ _=>cases rv;exact j6 rfl (by intro z;cases z) ⟨_,rfl,q,I⟩
   |ref _=>cases rv;exact j6 rfl (by intro z;cases z) ⟨_,rfl,q,I⟩
   |bP _ _=>cases rv;exact j6 rfl (by intro z;cases z) ⟨_,rfl,q,I⟩
   |dA _=>cases rv;exact j6 rfl (by intro z;cases z) ⟨_,rfl,q,I⟩
  ·exact q.elim
 ·intro pins s σ H st d d' v v' u u' P I ok r rv r' bJ q
  have q:DO d d' (fun b=>P (!b)):=q
  unfold DO at q
  split at q
  ·cases r'.fR;cases bJ
   exact isnot_none_gen ⟨_,rfl,by rw[G2 r rv];exact q,I⟩
  ·rename_i b
   cases r'.fL;cases bJ
   cases r with
   |bl c=>cases rv;exact isnot_bool ⟨_,rfl,q,I⟩
   |non=>cases rv;exact ig rfl (by intro z;cases z) ⟨_,rfl,q,I⟩
   |int i=>obtain⟨t,rfl⟩:=rv;exact ig rfl (by intro z;cases z) ⟨_,rfl,q,I⟩
   |str z=>obtain⟨t,rfl⟩:=rv;exact ig rfl (by intro z;cases z) ⟨_,rfl,q,I⟩
   |tup _ _=>cases rv;exact ig rfl (by intro z;cases z) ⟨_,rfl,q,I⟩
   |ref _=>cases rv;exact ig rfl (by intro z;cases z) ⟨_,rfl,q,I⟩
   |bP _ _=>cases rv;exact ig rfl (by intro z;cases z) ⟨_,rfl,q,I⟩
   |dA _=>cases rv;exact ig rfl (by intro z;cases z) ⟨_,rfl,q,I⟩
  ·exact q.elim
noncomputable def oX:rD->CmpOp
 |.eq=>.Eq|.ne=>.NotEq|.lt=>.Lt|.le=>.LtE|.gt=>.Gt|.ge=>.GtE|.is_=>.Is|.isnot=>.IsNot|.in_=>.In|.fX=>.NotIn
theorem HS (hu:X.A.units+180<cLine):∀ o:rD,oK X (oX o) (dE o)
 |.eq=>My hu
 |.ne=>Mx hu
 |.lt=>Me
 |.le=>Nz
 |.gt=>Oc
 |.ge=>Ly
 |.is_=>Z5.1
 |.isnot=>Z5.2
 |.in_=>(Bt hu).1
 |.fX=>(Bt hu).2
theorem La {o:rD}(hu:X.A.units+180<cLine)(ha:PE X a (bZ X.K (aI C sub E x)))(hb:PE X b (bZ X.K (aI C sub E y)))(hm:kh (oX o) b=false):PE X (.Compare a [oX o] [b] pos) (bZ X.K (aI C sub E (.cmp o x y))):=by
 intro pins s σ H Q I ⟨σd,st,R,r,ok,q,hq⟩
 refine wpAny_Compare1 (bE (ha pins s σ H _ I ⟨σd,st,_,r,ok,q,fun v H' z=>z⟩) fun u s1 ⟨v,H1,I1,rv,d,aC,dC,aP,r1,q1⟩ =>
 bE (hb pins s1 σ H1 _ I1 ⟨σd,aC,_,r.step ok dC,aP,q1,fun v H' z=>z⟩) fun u' s2 ⟨v',H2,I2,bJ,d',aG,gM,cD,r2,q2⟩ =>
 bE (HS hu o pins s2 σ H2 aG d d' v v' u u' _ I2 cD (r1.step aP gM) rv r2 bJ q2) fun w s3 ⟨k,e,q3,I3⟩=>?_) hm
 subst e
 exact⟨.bl k,H2,I3,rfl,hq _ _ (.after (dC.trans gM) (.here cD (.bl k) q3))⟩
theorem Fx {o:rD}(hu:X.A.units+180<cLine)(ha:PE X a (bZ X.K (aI C sub E x)))(hb:PE X b (bZ X.K (aI C sub E y)))(hm:kh (oX o) b=false):PT X (.Compare a [oX o] [b] pos) (jS X.K (aI C sub E (.cmp o x y))):=by
 intro pins s σ H Q I ⟨σd,st,R,r,ok,q,hq⟩
 refine vz (bE (ha pins s σ H _ I ⟨σd,st,_,r,ok,q,fun v H' z=>z⟩) fun u s1 ⟨v,H1,I1,rv,d,aC,dC,aP,r1,q1⟩ =>
 bE (hb pins s1 σ H1 _ I1 ⟨σd,aC,_,r.step ok dC,aP,q1,fun v H' z=>z⟩) fun u' s2 ⟨v',H2,I2,bJ,d',aG,gM,cD,r2,q2⟩ =>
 bE (HS hu o pins s2 σ H2 aG d d' v v' u u' _ I2 cD (r1.step aP gM) rv r2 bJ q2) fun w s3 ⟨k,e,q3,I3⟩=>?_) hm
 subst e
 exact kj ⟨H2,I3,hq _ _ ⟨aG,dC.trans gM,cD,q3⟩⟩
theorem Y9 {o o':rD}(hu:X.A.units+180<cLine)(ha:PE X a (bZ X.K (aI C sub E x)))(hb:PE X b (bZ X.K (aI C sub E y)))(hc:PE X c (bZ X.K (aI C sub E z)))(hm:lastMarks [oX o,oX o'] [b,c]=false):
 PE X (.Compare a [oX o,oX o'] [b,c] pos) (bZ X.K (aI C sub E (.chain o o' x y z))):=by
 intro pins s σ H Q I ⟨σd,st,R,r,ok,q,hq⟩
 refine Compare_chain (bE (ha pins s σ H _ I ⟨σd,st,_,r,ok,q,fun v H' z=>z⟩) fun u s1 ⟨v,H1,I1,rv,d,aC,dC,aP,r1,q1⟩ =>
 chain_link (bE (hb pins s1 σ H1 _ I1 ⟨σd,aC,_,r.step ok dC,aP,q1,fun v H' z=>z⟩) fun u' s2 ⟨v',H2,I2,bJ,d',aG,gM,cD,r2,q2⟩ =>
 bE (HS hu o pins s2 σ H2 aG d d' v v' u u' _ I2 cD (r1.step aP gM) rv r2 bJ q2) fun w s3 ⟨k,e,q3,I3⟩=>?_)) hm
 subst e
 refine kj ?_
 cases k with
 |false=>exact ite_ff ⟨.bl false,H2,I3,rfl,hq _ _ (.after (dC.trans gM) (.here cD (.bl _) q3))⟩
 |true =>
 refine ite_tt (chain_last (bE (hc pins s3 σ H2 _ I3 ⟨σd,aG,_,(r.step ok dC).step aP gM,cD,q3,fun v H' z=>z⟩) fun u3 s4 ⟨v3,H4,I4,rv3,d3,cH,s4s,WH,r4,q4⟩ =>
  bE (HS hu o' pins s4 σ H4 cH d' d3 v' v3 u' u3 _ I4 WH (r2.step cD s4s) bJ r4 rv3 q4) fun w s5 ⟨k,e,q5,I5⟩=>?_))
 subst e
 exact⟨.bl k,H4,I5,rfl,hq _ _ (.after ((dC.trans gM).trans s4s) (.here WH (.bl k) q5))⟩
end
end L3
end
section
namespace L3
open PySem PySem.Spec PyProof.Rows PyProof.V L2
section
variable {X:Cx}{C:bL}{sub:Nat->Nat->Bool}{E:XK}{a b c e:Expr}{x y z:Ex}{pos:Pos}
theorem Cg (n:Nat)(i:Int):L2.oA n i=oA n i:=rfl
theorem FJ {K:ab}{H:Hp}{ds:List D}{vs:List V}{i:Int}{d:D}(r:aL K H ds vs)(h:fZ ds i=some d):∃ v,L2.fZ vs i=some v/\Rep K H d v:=by
 unfold fZ at h
 unfold L2.fZ
 rw[Cg,<-r.length]
 cases e:oA ds.length i with
 |none=>rw[e]at h;cases h
 |some j =>
 rw[e]at h
 obtain⟨v,e1,e2⟩:=r.get (i:=j) h
 exact⟨v,e1,e2⟩
noncomputable def Ax (K:ab):R2:=fun x y H Q=>∃(p:Addr)(T:List (Str×PyData))(k:Str)(d:Qo),x=.ref p/\y=.str k/\wj rm (fun b=>K.lookup b) p T=true/\oo k T=some d/\oJ d=true/\∀ v u,RelV v u->Flat u d->Q v H
noncomputable def OU (K:ab):R2:=fun x y H Q=>Lb K x y H Q∨Ax K x y H Q
theorem xJ {k:Str}{d:Qo}:∀{T:List (Str×PyData)},oo k T=some d->oo k (T.map fun p=>(p.1,u4 p.2))=some (.flat d)
 |[],h=>by cases h
 |(x,e)::T,h=>by
  show(if decide (k=x)=true then some (u4 e)else _)=_
  have h:(if decide (k=x)=true then some e else oo k T)=some d:=h
  by_cases c:decide (k=x)=true
  ·rw[if_pos c]at h ⊢;cases h;rfl
  ·rw[if_neg c]at h ⊢;exact xJ h
theorem Ke {X:Cx}:xY X (Ax X.K):=by
 intro value slice pins s σ H x y v u Q I rx ry h hs
 obtain⟨p,T,k,d,rfl,rfl,hT,hd,hsd,q⟩:=h
 cases rx
 obtain⟨t,rfl⟩:=ry
 have hh:=E5 I hT
 refine subscriptTail_builtin_flat hh.typeIs slot_dict_getitem.lookup ?_ hs
 unfold uh
 try with_reducible refine gf ?_
 refine ae (rh hh.typeIs (by decide) ?_)
 refine ae (h9 (name:=j0 "__getitem__") hh.typeIs yu
  (ff yu hh.typeIs entry_dict_getitem ?_ (args_dict_getitem _ _)))
 show wpAny _ _ (dictGet p (.str k t) >>= _) _ _ s
 refine ae (KTD.dictGet_text hh (fun d' v ha hv=>?_) fun hn=>?_)
 ·rw[xJ hd]at ha
  cases ha
  have hv:Flat v d:=hv
  refine ao ⟨v,rfl,ao ⟨Flat.notRef hv,?_⟩⟩
  obtain⟨w,rw'⟩:∃ w,RelV w v:=by
   cases d with
   |none=>cases Flat.none_inv hv;exact⟨.non,rfl⟩
   |bool b=>cases Flat.bool_inv hv;exact⟨.bl b,rfl⟩
   |int i=>obtain⟨t,rfl⟩:=Flat.int_inv hv;exact⟨.int i,⟨t,rfl⟩⟩
   |str x=>obtain⟨t,rfl⟩:=Flat.str_inv hv;exact⟨.str x,⟨t,rfl⟩⟩
   |_=>cases hsd
  exact⟨w,H,I.tok _,rw',q w v rw' hv⟩
 ·rw[xJ hd]at hn;cases hn
theorem Di {X:Cx}:xY X (OU X.K):=ZU.or Ke
theorem RA {K:ab}(v v':V)(H:Hp)(Q Q':L2.VK)(h:∀ v H,Q v H->Q' v H)(z:OU K v v' H Q):OU K v v' H Q':=by
 rcases z with z|⟨p,T,k,d,e,e',e1,e2,e3,q⟩
 ·refine .inl ?_
  rcases z with⟨p,xs,i,v,e,e',s,t,q⟩|⟨p,xs,i,v,e,e',s,t,q⟩|⟨z,i,c,e,e',s,t,q⟩
  ·exact .inl ⟨p,xs,i,v,e,e',s,t,h _ _ q⟩
  ·exact .inr (.inl ⟨p,xs,i,v,e,e',s,t,h _ _ q⟩)
  ·exact .inr (.inr ⟨z,i,c,e,e',s,t,h _ _ q⟩)
 ·exact .inr ⟨p,T,k,d,e,e',e1,e2,e3,fun v u r f=>h _ _ (q v u r f)⟩
theorem JC {k:List Nat}{d:D}:∀{T:List (Str×PyData)},(T.all fun p=>oJ p.2)=true->vW (T.map fun p=>.str p.1.cps.toList) (T.map fun p=>tI p.2) (.str k)=some d->∃ e,oo (⟨k.toArray⟩:Str) T=some e/\oJ e=true/\d=tI e
 |[],_,h=>by cases h
 |(x,e)::T,a,h=>by
  simp only[lx,ay]at a
  have h:(if(x.cps.toList==k)=true then some (tI e)else vW (T.map fun p=>.str p.1.cps.toList) (T.map fun p=>tI p.2) (.str k))=some d:=h
  show ∃ e',(if decide ((⟨k.toArray⟩:Str)=x)=true then some e else oo _ T)=some e'/\_
  rw[QK]
  by_cases c:(x.cps.toList==k)=true
  ·rw[if_pos c]at h;cases h
   exact⟨e,if_pos c,a.1,rfl⟩
  ·rw[if_neg c]at h
   obtain⟨e',h1,h2⟩:=JC a.2 h
   exact⟨e',(if_neg c).trans h1,h2⟩
theorem TR {K:ab}{H:Hp}{e:Qo}{v:V}{u:Value}(s:oJ e=true)(r:RelV v u)(f:Flat u e):Rep K H (tI e) v:=by
 cases e with
 |none=>cases Flat.none_inv f;cases RelV.inj r (show RelV .non .none from rfl);exact .non
 |bool b=>cases Flat.bool_inv f;cases RelV.inj r (show RelV (.bl b) (.bool b)from rfl);exact .bl b
 |int i=>obtain⟨t,rfl⟩:=Flat.int_inv f;cases RelV.inj r (show RelV (.int i) (.int i t)from⟨t,rfl⟩);exact .int i
 |str x=>obtain⟨t,rfl⟩:=Flat.str_inv f;cases RelV.inj r (show RelV (.str x) (.str x t)from⟨t,rfl⟩);exact .str x.cps.toList
 |_=>cases s
theorem UU {K:ab}{H:Hp}{st:aB}{R:VK}{d d':D}{v v':V}(ok:aS K st H)(r:Rep K H d v)(r':Rep K H d' v')(h:nZ d d' st R):OU K v v' H (QD K H st R):=by
 unfold nZ at h
 split at h
 ·obtain⟨a,vs,rfl,f,g⟩:=r.bS
  cases r'.int_inv
  obtain⟨d,e,q⟩:=eJ h
  obtain⟨v,e1,e2⟩:=FJ g e
  exact .inl (.inr (.inl ⟨a,vs,_,v,rfl,rfl,f,e1,.here ok e2 q⟩))
 ·obtain⟨a,vs,rfl,f,g⟩:=r.lC
  cases r'.int_inv
  obtain⟨d,e,q⟩:=eJ h
  obtain⟨v,e1,e2⟩:=FJ g e
  exact .inl (.inl ⟨a,vs,_,v,rfl,rfl,f.sq,e1,.here ok e2 q⟩)
 ·cases r.str_inv
  cases r'.int_inv
  obtain⟨l,h⟩:=h
  obtain⟨c,e,q⟩:=eJ h
  exact .inl (.inr (.inr ⟨_,_,c,rfl,rfl,by rw[fQ];simpa [j3]using l,e,.here ok (.str [c]) q⟩))
 ·obtain⟨a,rfl,T,h1,h2,h3,h4⟩:=r.JU
  cases r'.str_inv
  obtain⟨d,e,q⟩:=eJ h
  rw[h3,h4]at e
  obtain⟨e',e1,e2,rfl⟩:=JC h2 e
  exact .inr ⟨a,T,_,e',rfl,rfl,h1,e1,e2,fun v u r f=>.here ok (TR e2 r f) q⟩
 ·cases r.cP
  obtain⟨ds,e,q⟩:=sJ ok h
  obtain⟨vs,g1,g2⟩:=ok.lst e
  split at q
  ·cases r'.int_inv
   obtain⟨d,e,q⟩:=eJ q
   obtain⟨v,e1,e2⟩:=FJ g2 e
   exact .inl (.inl ⟨_,vs,_,v,rfl,rfl,dQ.of g1,e1,.here ok e2 q⟩)
  ·exact q.elim
 ·exact h.elim
theorem Lz (ha:PE X a (bZ X.K (aI C sub E x)))(hb:PE X b (bZ X.K (aI C sub E y)))(hp:uG b):PE X (.Subscript a b pos) (bZ X.K (aI C sub E (.ix x y))) :=
 (VG Di ha hb hp).imp fun σ H Q ⟨σd,st,R,r,ok,q,hq⟩=>by
 exact two (W:=fun d d' aG=>nZ d d' aG R) r ok q hq (fun d d' v v' H2 aG cD r1 r2 h=>UU cD r1 r2 h) RA
theorem yL {prog:br}{w:World}{A:cg}{E:Value->af->Prop}{s:af}{t sl:Addr}{items:Array Value}{vl vu:Value}{lo hi:Option Int}{Q:Value->af->Prop}(ht:IsTup s.heap t items)(hs:s.heap.IsSliceOf sl vl vu .none)(pl:ug vl lo)(pu:ug vu hi)
  (hw:HT.cJ items.size 0 lo=0/\HT.cJ items.size items.size hi=items.size)(h:Q (.ref t) s):wpAny (model prog w) A (uh (.ref t) (.ref sl)) Q E s:=by
 obtain⟨os,hos,hcs,hds⟩:=id hs
 have hTs:s.TypeIs (.ref sl) "slice":=⟨os,hos,hcs⟩
 unfold uh
 try with_reducible refine gf ?_
 first|refine ae (ao ?_)|skip
 refine ae (rh ht.typeIs (by decide) ?_)
 refine ae (h9 (name:=j0 "__getitem__") ht.typeIs gv
  (ff gv ht.typeIs xa ?_ (yc _ _)))
 show wpAny _ _ (gj (.ref t) >>= _) _ _ s
 refine ae (xn ht ?_)
 refine ae (uj hTs ?_)
 rw[if_pos (by decide)]
 refine ae (HT.qV hs pl pu ?_)
 have hyes:(((HT.cJ items.size 0 lo:Nat):Int)==0&&(1:Int)==1&&(HT.cJ items.size items.size hi-HT.cJ items.size 0 lo)==items.size)=true:=by
  rw[hw.1,hw.2];simp
 show wpAny _ _ (if(((HT.cJ items.size 0 lo:Nat):Int)==0&&(1:Int)==1&&(HT.cJ items.size items.size hi-HT.cJ items.size 0 lo)==items.size)=true then _ else _) _ _ s
 rw[if_pos hyes]
 have hex:∀{Q:Bool->af->Prop},Q true s->wpAny (model prog w) A.in1 (qr (.ref t)) Q E s:=fun h=>by
  unfold qr
  exact ae (uj ht.typeIs (ao h))
 refine ae (hex ?_)
 rw[if_pos rfl]
 exact ae (uz (ao ⟨_,rfl,ao h⟩))
theorem PX (n d:Nat)(o:Option Int):HT.cJ n d o=cJ n d o:=rfl
theorem aL.cut {K:ab}{H:Hp}{ds:List D}{vs:List V}(r:aL K H ds vs)(lo hi:Option Int):aL K H (cut ds lo hi) (cut vs lo hi):=by
 unfold L3.cut
 rw[r.length]
 exact(r.drop _).take _
noncomputable def Fb (K:ab):V->Option Int->Option Int->Hp->L2.VK->Prop:=fun x lo hi H Q=>∃ a xs,x=.ref a/\eS K H a xs/\(HT.cJ xs.length 0 lo=0/\HT.cJ xs.length xs.length hi=xs.length)/\Q (.ref a) H
theorem X4:yP X (Fb X.K):=by
 intro pins s σ H x v vl vu lo hi sl Q I rx hs pl pu h
 obtain⟨a,xs,rfl,hx,hw,q⟩:=h
 cases rx
 obtain⟨aD,r,ht,hz⟩:=I.tuple hx
 have hlen:aD.toArray.size=xs.length:=by rw[aw];exact r.length.symm
 refine⟨"tuple", _,PyProof.Rows.slot_tuple_getitem.lookup,ht.typeIs,?_⟩
 exact yL ht hs pl pu (by rw[hlen];exact hw) ⟨.ref a,H,I,rfl,q⟩
noncomputable abbrev Eu (K:ab):V->Option Int->Option Int->Hp->L2.VK->Prop:=fun x lo hi H Q=>Fi K x lo hi H Q∨Fb K x lo hi H Q∨Al K x lo hi H Q
theorem Z9:yP X (Eu X.K):=yP.or L2.K1 (yP.or X4 X2)
set_option tactic.hygienic true in
theorem VB {K:ab}{H:Hp}{st:aB}{R:VK}{Q:L2.VK}{d:D}{v:V}{lo hi:Option Int}(ok:aS K st H)(r:Rep K H d v)(h:DK d lo hi st R)(hq:∀ v H',QD K H st R v H'->Q v H'):Eu K v lo hi H Q:=by
 unfold DK at h
 split at h
 ·rename_i ds0
  obtain⟨a,vs,rfl,f,g⟩:=r.bS
  by_cases hw:HT.cJ vs.length 0 lo=0/\HT.cJ vs.length vs.length hi=vs.length
  ·refine .inr (.inl ⟨a,vs,rfl,f,hw,hq _ _ (.here ok r ?_)⟩)
   have e:L3.cut ds0 lo hi=ds0:=by
    unfold L3.cut
    rw[g.length,<-PX,<-PX,hw.1,hw.2,qp,Nat.sub_zero,<-g.length,zl]
   rw[e]at h
   exact h
  ·exact .inl ⟨a,vs,rfl,f,hw,fun p hp=>hq _ _ (.IL ok (g.cut lo hi) hp h)⟩
 ·cases r.cP
  obtain⟨ds,e,h⟩:=eB h
  obtain⟨vs,g1,g2⟩:=ok.lst e
  exact .inr (.inr ⟨_,vs,rfl,dQ.of g1,fun p hp=>hq _ _ (.iF ok (g2.cut lo hi) hp h)⟩)
 ·exact h.elim
inductive E7 (K:ab)(te:St->aB->(List D->aB->Prop)->Prop)(σ:L2.St)(H:Hp)(Q:Option Int->Hp->Prop):Prop where
 |mk (σd:St)(st:aB)(R:Option Int->aB->Prop)(r:dO K H σd σ)(ok:aS K st H)(q:te σd st (fun ds aA=>oV ds fun o=>R o aA))(hq:∀(o:Option Int) H',QX K H st (R o) H'->Q o H'):E7 K te σ H Q
theorem _root_.L2.PO.imp {X:Cx}{e:Option Expr}{t t':TO}(i:∀ σ H Q,t' σ H Q->t σ H Q)(h:PO X e t):PO X e t':=fun pins s σ H Q I q=>h pins s σ H Q I (i σ H Q q)
theorem XY:PO X none (E7 X.K (bU C sub E [])) :=
 ZF.imp fun σ H Q ⟨σd,st,R,r,ok,q,hq⟩=>by
 exact hq _ _ ⟨st,.refl,ok,q⟩
theorem XE (h:PE X e (bZ X.K (aI C sub E x))):PO X (some e) (E7 X.K (bU C sub E [x])) :=
 (YT h).imp fun σ H Q ⟨σd,st,R,r,ok,q,hq⟩=>by
 refine⟨σd,st,_,r,ok,q,fun v H1 ⟨d,aC,s1,aP,r1,q1⟩=>?_⟩
 cases d with
 |int i=>cases r1.int_inv;exact⟨i,rfl,hq _ _ ⟨aC,s1,aP,q1⟩⟩
 |_=>exact q1.elim
theorem Ma {lo hi:Option Expr}{xl xh:List Ex}{p2:Pos}(ha:PE X a (bZ X.K (aI C sub E x)))(hl:PO X lo (E7 X.K (bU C sub E xl)))(hh:PO X hi (E7 X.K (bU C sub E xh))):
 PE X (.Subscript a (.Slice lo hi none p2) pos) (bZ X.K (aI C sub E (.sl x xl xh))) :=
 (U9 Z9 ha hl hh).imp fun σ H Q ⟨σd,st,R,r,ok,q,hq⟩=>by
 refine⟨σd,st,_,r,ok,q,fun v H1 ⟨d,aC,s1,aP,r1,q1⟩=>?_⟩
 refine⟨σd,aC,_,r.step ok s1,aP,q1,fun lo H2 ⟨aG,s2,cD,q2⟩=>?_⟩
 refine⟨σd,aG,_,(r.step ok s1).step aP s2,cD,q2,fun hi H3 ⟨aV,s3,vO,q3⟩=>?_⟩
 exact VB vO ((r1.step aP s2).step cD s3) q3 fun v H' z=>hq _ _ (.after ((s1.trans s2).trans s3) z)
noncomputable def xQ (X:Cx)(f:Value)(W:List D->aB->VK->Prop):Prop :=
 ∀(pins:List (Addr×Obj))(s:af)(σ:L2.St)(H:Hp)(st:aB)(ds:List D)(vs:List V)(us:List Value)(R:VK),Inv X pins σ H s->aS X.K st H->aL X.K H ds vs->aQ vs us->W ds st R ->
 wpAny (model X.prog X.w) X.A (call f us) (EP X pins σ (QD X.K H st R)) X.xe s
inductive Br (K:ab)(W:List D->aB->VK->Prop)(vs:List V)(H:Hp)(Q:L2.VK):Prop where
 |mk (ds:List D)(st:aB)(R:VK)(r:aL K H ds vs)(ok:aS K st H)(q:W ds st R)(hq:∀ v H',QD K H st R v H'->Q v H'):Br K W vs H Q
theorem xQ.call {f:Value}{W:List D->aB->VK->Prop}(h:xQ X f W):wH X f (Br X.K W):=fun pins s σ H vs us Q I rv ⟨ds,st,R,r,ok,q,hq⟩ =>
 bE (h pins s σ H st ds vs us R I ok r rv q) fun u s' ⟨v,H',I',r',z⟩=>⟨v,H',I',r',hq _ _ z⟩
theorem KI {K:ab}{W:List D->aB->VK->Prop}{xs:List Ex}{σ:L2.St}{H:Hp}{Q:L2.VK}(h:bZ K (fun σ st R=>bU C sub E xs σ st fun ds aA=>W ds aA R) σ H Q):Bf (Br K W) (lQ K (bU C sub E xs)) σ H Q:=by
 obtain⟨σd,st,R,r,ok,q,hq⟩:=h
 refine⟨σd,st,_,r,ok,q,fun vs H1 ⟨ds,aC,s1,aP,r1,q1⟩=>?_⟩
 exact⟨ds,aC,R,r1,aP,q1,fun v H' z=>hq _ _ (.after s1 z)⟩
theorem Hw {W:List D->aB->VK->Prop}{n:Str}{id:String}{p:Pos}{es:List Expr}{xs:List Ex}(hW:xQ X (.builtin id) W)(hg:Gl X n)(hm:X.mg n=none)(hv:cf n=some (.builtin id))(ha:PA X (e::es) (lQ X.K (bU C sub E xs)))
 (hn:n ≠"__name__")(hdb:(n==("__debug__" : Str))=false)(he:ar (e::es) X.env=(false,eval e X.env)::ar es X.env)(dB:(dq pos (ar es X.env)).any (·.1)=false):
 PE X (.Call (.Name n p) (e::es) [] pos) (bZ X.K fun σ st R=>bU C sub E xs σ st fun ds aA=>W ds aA R) :=
 (IW hW.call hg hm hv ha hn hdb he dB).imp fun σ H Q h=>KI h
theorem Au {W:List D->aB->VK->Prop}{n:Str}{T:String}{p:Pos}{es:List Expr}{xs:List Ex}(hW:xQ X (.type T) W)(hg:Gl X n)(hm:X.mg n=none)(hv:cf n=some (.type T))(ha:PA X (e::es) (lQ X.K (bU C sub E xs)))
 (hn:n ≠"__name__")(hdb:(n==("__debug__" : Str))=false)(he:ar (e::es) X.env=(false,eval e X.env)::ar es X.env)(dB:(dq pos (ar es X.env)).any (·.1)=false):
 PE X (.Call (.Name n p) (e::es) [] pos) (bZ X.K fun σ st R=>bU C sub E xs σ st fun ds aA=>W ds aA R) :=
 (PN hW.call hg hm hv ha hn hdb he dB).imp fun σ H Q h=>KI h
theorem aL.one {K:ab}{H:Hp}{d:D}{vs:List V}(r:aL K H [d] vs):∃ v,vs=[v]/\Rep K H d v:=by
 cases r with|cons h r=>cases r;exact⟨_,rfl,h⟩
theorem PM {K:ab}{H:Hp}{st:aB}{d:D}{v:V}{P:Nat->Prop}(ok:aS K st H)(r:Rep K H d v)(h:pS d st P):∃ n,Bv K v H n/\P n:=by
 unfold pS at h
 split at h
 ·obtain⟨a,vs,rfl,f,g⟩:=r.bS
  exact⟨_,.inr ⟨vs,f,g.length⟩,h⟩
 ·cases r.str_inv
  exact⟨_,⟨by rw[fQ];simpa [j3]using h.1,by simp [j3]⟩,h.2⟩
 ·cases r.cP
  obtain⟨ds,e,h⟩:=sJ ok h
  obtain⟨vs,g1,g2⟩:=ok.lst e
  exact⟨_,.inl ⟨vs,dQ.of g1,g2.length⟩,h⟩
 ·obtain⟨a,vs,rfl,f,g⟩:=r.lC
  exact⟨_,.inl ⟨vs,f.sq,g.length⟩,h⟩
 ·exact h.elim
theorem bW:xQ X (.builtin "len") (gS .len):=by
 intro pins s σ H st ds vs us R I ok r rv q
 match ds,q with
 |[d],q =>
 have q:pS d st fun n=>R (.int (n:Nat)) st:=q
 obtain⟨v,rfl,rd⟩:=r.one
 obtain⟨n,l,q⟩:=PM ok rd q
 exact TL pins s σ H _ us _ I rv ⟨v,n,rfl,l,.here ok (.int _) q⟩
 |[],q=>exact(show False from q).elim
 |_::_::_,q=>exact(show False from q).elim
end
end L3
end
section
namespace L3
open PySem PySem.Spec PyProof.Rows L2
section
variable {X:Cx}{pins:List (Addr×Obj)}{σ:L2.St}{H:Hp}{s:af}
noncomputable def QH (K:ab)(H:Hp)(a:Addr)(vs:List V):Prop:=dQ K H a vs∨eS K H a vs
theorem CH {A:cg}{E:Value->af->Prop}{a:Addr}{vs:List V}{Q:Value->af->Prop}(hh:A.handled=none)(I:Inv X pins σ H s)(h:QH X.K H a vs)
  (hQ:∀(aD:List Value)(I0:Addr)(fp wr:List Addr)(St:Nat->Heap->Prop)(s₂:af),aQ vs aD->Walks X.prog X.w A I0 fp wr aD.length (fun i v=>aD[i]? = some v) St->St 0 s₂.heap->(∀ b∈fp,b<s₂.heap.objs.size) ->
   (∀ h' tk,(∀ b o,b∉wr->s₂.heap.get? b=some o->h'.get? b=some o)->Inv X pins σ H { s₂ with heap:=h',toks:=tk })->Q (.ref I0) s₂):wpAny (model X.prog X.w) A (ub (.ref a)) Q E s:=by
 rcases h with h|h
 ·obtain⟨aD,r,p,hz⟩:=I.list h
  have hl:=p.isList
  have dP:a<s.heap.objs.size:=by obtain⟨_,e,_⟩:=hl;exact bo e
  have W:=Walks.list (prog:=X.prog) (w:=X.w) (A:=A) hh s.heap.objs.size a (cb dP) aD.toArray
  have e1:aD.toArray.size=aD.length:=by simp
  have e2:(fun(i:Nat)(v:Value)=>aD.toArray[i]? = some v)=fun i v=>aD[i]? = some v:=by funext i v;simp
  rw[e1,e2]at W
  refine yv hl (hQ aD s.heap.objs.size _ _ _ _ r W ⟨⟨_,bg _ rfl,rfl,rfl⟩,hl.push _⟩ (fun b hb=>?_) fun h' tk hk=>?_)
  ·show b<(s.heap.push _).objs.size
   rw[jm]
   rcases List.mem_cons.mp hb with rfl|hb
   ·exact f9 _
   ·rcases List.mem_cons.mp hb with rfl|hb
    ·exact j1 dP
    ·cases hb
  ·exact I.kept (t':=tk) (old_kept hk)
 ·obtain⟨aD,r,p,hz⟩:=I.tuple h
  have hl:s.heap.IsTuple a aD.toArray:=p
  have dP:a<s.heap.objs.size:=by obtain⟨_,e,_⟩:=hl;exact bo e
  have W:=Sg (prog:=X.prog) (w:=X.w) (A:=A) hh s.heap.objs.size a (cb dP) aD.toArray
  have e1:aD.toArray.size=aD.length:=by simp
  have e2:(fun(i:Nat)(v:Value)=>aD.toArray[i]? = some v)=fun i v=>aD[i]? = some v:=by funext i v;simp
  rw[e1,e2]at W
  refine qs hl (hQ aD s.heap.objs.size _ _ _ _ r W ⟨⟨_,bg _ rfl,rfl,rfl⟩,hl.push _⟩ (fun b hb=>?_) fun h' tk hk=>?_)
  ·show b<(s.heap.push _).objs.size
   rw[jm]
   rcases List.mem_cons.mp hb with rfl|hb
   ·exact f9 _
   ·rcases List.mem_cons.mp hb with rfl|hb
    ·exact j1 dP
    ·cases hb
  ·refine I.kept (t':=tk) fun b o e=>hk b o (fun hm=>?_) (ak _ e)
   rcases List.mem_cons.mp hm with e1|hm
   ·exact absurd (e1▸Heap.lt_size e) (jj _)
   ·cases hm
theorem mP {K:ab}{st:aB}{d:D}{v:V}{P:List Nat->List D->Prop}(ok:aS K st H)(r:Rep K H d v)(h:eE d st P):∃ a vs as ds,v=.ref a/\QH K H a vs/\aL K H ds vs/\P as ds:=by
 unfold eE at h
 split at h
 ·obtain⟨a,vs,rfl,f,g⟩:=r.bS
  exact⟨a,vs,_,_,rfl,.inr f,g,h⟩
 ·cases r.cP
  obtain⟨ds,e,h⟩:=eB h
  obtain⟨vs,g1,g2⟩:=ok.lst e
  exact⟨_,vs,_,ds,rfl,.inl (dQ.of g1),g2,h⟩
 ·obtain⟨a,vs,rfl,f,g⟩:=r.lC
  exact⟨a,vs,_,_,rfl,.inl f.sq,g,h⟩
 ·exact h.elim
theorem CI {K:ab}:∀{ds:List D}{vs:List V}{aD:List Value}{bs:List Bool},boolsOf ds=some bs->aL K H ds vs->aQ vs aD->aD=bs.map qb
 |_,_,_,_,h,.nil,.nil=>by cases h;rfl
 |d::ds,_,_,bs,h,.cons r1 r2,.cons v1 v2=>by
  cases d with
  |bl b =>
   simp only[boolsOf,dh]at h
   obtain⟨bs',e,rfl⟩:=h
   cases r1.fL
   cases v1
   rw[CI e r2 v2];rfl
  |_=>simp [boolsOf]at h
theorem all_range (bs:List Bool):(a9 bs.length).all (fun i=>(bs[i]?).getD true)=bs.all id:=by
 induction bs with
 |nil=>rfl
 |cons b bs ih =>
 simp only[be,kf,lx,p8,nj,mi,mj,j7,id]
 rw[<-ih]
theorem any_range (bs:List Bool):(a9 bs.length).any (fun i=>(bs[i]?).getD true)=bs.any id:=by
 induction bs with
 |nil=>rfl
 |cons b bs ih =>
 simp only[be,kf,jk,kg,nj,mi,mj,j7,id]
 rw[<-ih]
theorem BH {prog:br}{w:World}{A:cg}(bs:List Bool):TruthOf prog w A (fun i v=>(bs.map qb)[i]? = some v) (fun i=>(bs[i]?).getD true):=fun i v s Q E hP hQ=>by
 have hP:(bs.map qb)[i]? = some v:=hP
 rw[bc,dh]at hP
 obtain⟨b,e,rfl⟩:=hP
 simp only[e,j7]at hQ
 exact kj hQ
theorem lB (hh:X.A.handled=none):xQ X (.builtin "all") (gS .all):=by
 intro pins s σ H st ds vs us R I ok r rv q
 match ds,q with
 |[d],q =>
 have q:gS .all [d] st R:=q
 rw[Q1]at q
 obtain⟨v,rfl,rd⟩:=r.one
 obtain⟨u,rfl,ru⟩:=vals1 rv
 obtain⟨a,ws,as,xs,rfl,sa,g,q⟩:=mP ok rd q
 cases ru
 obtain⟨bs,e,q⟩:=eJ q
 refine call_all_walk (CH (A:=X.A.in1) hh I sa fun aD I0 fp wr St s₂ rr W h0 hfp hk=>?_)
 cases CI e g rr
 refine⟨I0,fp,wr,_,_,St,_,rfl,W,h0,BH bs,fun h' tk hk'=>⟨.bl _,H,hk h' tk hk',rfl,?_⟩⟩
 rw[aa,all_range]
 exact .here ok (.bl _) q
 |[],q=>exact(show False from q).elim
 |_::_::_,q=>exact(show False from q).elim
theorem G4 (hh:X.A.handled=none):xQ X (.builtin "any") (gS .any):=by
 intro pins s σ H st ds vs us R I ok r rv q
 match ds,q with
 |[d],q =>
 have q:gS .any [d] st R:=q
 rw[Q6]at q
 obtain⟨v,rfl,rd⟩:=r.one
 obtain⟨u,rfl,ru⟩:=vals1 rv
 obtain⟨a,ws,as,xs,rfl,sa,g,q⟩:=mP ok rd q
 cases ru
 obtain⟨bs,e,q⟩:=eJ q
 refine call_any_walk (CH (A:=X.A.in1) hh I sa fun aD I0 fp wr St s₂ rr W h0 hfp hk=>?_)
 cases CI e g rr
 refine⟨I0,fp,wr,_,_,St,_,rfl,W,h0,BH bs,fun h' tk hk'=>⟨.bl _,H,hk h' tk hk',rfl,?_⟩⟩
 rw[aa,any_range]
 exact .here ok (.bl _) q
 |[],q=>exact(show False from q).elim
 |_::_::_,q=>exact(show False from q).elim
theorem D0:xQ X (.type "list") (gS .list):=by
 intro pins s σ H st ds vs us R I ok r rv q
 match ds,q with
 |[d],q =>
 have q:gS .list [d] st R:=q
 rw[MI]at q
 obtain⟨v,rfl,rd⟩:=r.one
 obtain⟨a,ws,as,xs,rfl,sa,g,q⟩:=mP ok rd q
 exact IB pins s σ H _ us _ I rv ⟨a,ws,rfl,sa,fun l hl=>.iF ok g hl q.2⟩
 |[],q=>exact(show False from q).elim
 |_::_::_,q=>exact(show False from q).elim
theorem dI:xQ X (.type "tuple") (gS .tuple):=by
 intro pins s σ H st ds vs us R I ok r rv q
 match ds,q with
 |[d],q =>
 have q:gS .tuple [d] st R:=q
 rw[KW]at q
 obtain⟨v,rfl,rd⟩:=r.one
 obtain⟨a,ws,as,xs,rfl,sa,g,q⟩:=mP ok rd q
 rcases sa with sa|sa
 ·exact xS pins s σ H _ us _ I rv ⟨a,ws,rfl,.inl ⟨sa,fun l hl=>.IL ok g hl q.2⟩⟩
 ·exact xS pins s σ H _ us _ I rv ⟨a,ws,rfl,.inr ⟨sa,.here ok (.tup sa g) q.2⟩⟩
 |[],q=>exact(show False from q).elim
 |_::_::_,q=>exact(show False from q).elim
theorem ND {K:ab}:∀{ds:List D}{vs:List V}{aD:List Value}{is:List Int},intsOf ds=some is->aL K H ds vs->aQ vs aD->uu aD is
 |_,_,_,_,h,.nil,.nil=>by cases h;exact .nil
 |d::ds,_,_,bs,h,.cons r1 r2,.cons v1 v2=>by
  cases d with
  |int i =>
   simp only[intsOf,dh]at h
   obtain⟨bs',e,rfl⟩:=h
   cases r1.int_inv
   obtain⟨t,rfl⟩:=v1
   exact .cons _ _ (ND e r2 v2)
  |_=>simp [intsOf]at h
noncomputable def JY (is:List Int)(i:Nat):Int:=(is[i]?).getD 0
theorem P0:∀{aD:List Value}{is:List Int},uu aD is->∀(i:Nat)(v:Value),aD[i]? = some v->∃ t,v=.int (JY is i) t
 |_,_,.nil,i,v,e=>by simp at e
 |_,_,.cons n t r,0,v,e=>by simp at e;exact⟨t,e.symm⟩
 |_,_,.cons n t r,i+1,v,e=>by
  obtain⟨t',e'⟩:=P0 r i v (by simpa using e)
  exact⟨t',by simpa [JY]using e'⟩
theorem M5:∀{aD:List Value}{is:List Int},uu aD is->aD.length=is.length
 |_,_,.nil=>rfl
 |_,_,.cons _ _ r=>by simp [M5 r]
theorem take_snoc {r:List Int}{k:Nat}(h:k<r.length):r.take (k+1)=r.take k++[r[k]]:=by rw[List.take_succ_eq_append_getElem h]
theorem DL (is:List Int):∀ n,n<=is.length->preSum (JY is) n=(is.take n).sum
 |0,_=>rfl
 |n+1,h=>by
  rw[take_snoc (by omega),List.sum_append,<-DL is n (by omega)]
  simp [preSum,JY,aj (show n<is.length by omega)]
theorem HE (hh:X.A.handled=none):xQ X (.builtin "sum") (gS .sum):=by
 intro pins s σ H st ds vs us R I ok r rv q
 match ds,q with
 |[d],q =>
 have q:gS .sum [d] st R:=q
 rw[RO]at q
 obtain⟨v,rfl,rd⟩:=r.one
 obtain⟨u,rfl,ru⟩:=vals1 rv
 obtain⟨a,ws,as,xs,rfl,sa,g,q⟩:=mP ok rd q
 cases ru
 obtain⟨is,e,q⟩:=eJ q
 refine call_sum_walkG (CH (A:=X.A.in1) hh I sa fun aD I0 fp wr St s₂ rr W h0 hfp hk=>?_)
 have ia:=ND e g rr
 have hl:=M5 ia
 refine⟨I0,fp,wr,_,_,St,JY is,rfl,W,h0,hfp,fun j v e=>P0 ia j v e,fun h' tk t' hk'=>?_⟩
 refine⟨.int _,H,hk h' tk hk',⟨t',rfl⟩,?_⟩
 rw[hl,DL is is.length (bb _),zl]
 exact .here ok (.int _) q
 |[],q=>exact(show False from q).elim
 |_::_::_,q=>exact(show False from q).elim
theorem Oy {K:ab}{a:Addr}{vs:List V}(h:H a=some (.lst vs)):RZ K "list" (.ref a) H:=.inl ⟨rfl,vs,dQ.of h⟩
theorem A8 (l:Addr)(items:Array Value)(n:Nat)(b:Addr)(items2:Array Value)(n2:Nat)(dd:Option Addr)(sl:Array (Option Value))(hs0:¬(!items.isEmpty&&dt (items.size+items2.size))=true)(hs1:items.size<=sizeLine)(hs2:items.size+items2.size<=sizeLine+1):
 Meets (Builtin.«list.extend» ⟨[.ref l,.ref b],[]⟩) (fun _ R s=>s.heap.get? l=some { cls:=.type "list", dict:=none,data:=.seq items n,slots:=#[] }/\s.heap.get? b=some { cls:=.type "tuple", dict:=dd,data:=.seq items2 n2,slots:=sl }/\R (.ok (.ret iq)) { s with heap:=s.heap.update l (jo fun x=>x++items2),toks:=s.toks }) :=
 .of_wp fun prog w A R s h=>by
 obtain⟨hp,g,d,tk,os⟩:=s;obtain⟨hl,hb,h⟩:=h;have f1:=AutoSeq1.idx_int;have f2:=AutoSeq1.sub_tuple_tuple;have f3:=AutoSeq1.sub_list_list;have f4:=AutoSeq1.sub_tuple_list;have f5:=AutoSeq1.sub_list_tuple;
 have hz':(items++items2).size<=sizeLine+1:=by rw[Array.size_append];exact hs2
 wp_walk using(ox hl rfl (hz:=hs1) (_hz':=hz')),rq hl,rq hb;exact⟨_,rfl,h⟩
noncomputable def SV (K:ab):V->List V->Hp->L2.VK->Prop:=fun x vs H Q=>∃ l b xs zs,x=.ref l/\vs=[.ref b]/\H l=some (.lst xs)/\eS K H b zs/\xs.length+zs.length<=sizeLine/\Q .non (upd H l (.lst (xs++zs)))
theorem NK:VR X "list.extend" (SV X.K):=by
 intro pins s σ H x vs v us Q I rx rv h
 obtain⟨l,b,xs,zs,rfl,rfl,hH,hB,hz,q⟩:=h
 cases rx
 obtain⟨u,rfl,ru⟩:=rv.one
 cases ru
 obtain⟨z,aD,n,r,hl,e⟩:=I.wM hH
 obtain⟨nV,r2,p2,_⟩:=I.tuple hB
 have hl2:=r2.length
 obtain⟨⟨cls,dd,data,sl⟩,ho,hc,n2,hd⟩:=id p2
 simp only at hc hd
 subst hc hd
 have iZ:aD.toArray.size+nV.toArray.size<=sizeLine:=by rw[aw,aw];omega
 have hlong:¬(!aD.toArray.isEmpty&&dt (aD.toArray.size+nV.toArray.size))=true:=by
  rw[CG iZ,bu]
  exact dr
 refine l6 yd ⟨_,e,rfl⟩ xb (wg _ _)
  (A8 l aD.toArray n b nV.toArray n2 dd sl hlong (by rw[aw];omega) (by omega)) ⟨e,ho,?_⟩
 refine⟨.non,_,I.NO (lR:=aD++nV) hH e (by simp) (r.append r2) ?_,rfl,q⟩
 rw[bh]
 omega
noncomputable def H0 (X:Cx)(T id:String)(W:D->List D->aB->VK->Prop):Prop :=
 ∀(pins:List (Addr×Obj))(s:af)(σ:L2.St)(H:Hp)(st:aB)(d:D)(ds:List D)(v:V)(vs:List V)(u:Value)(us:List Value)(R:VK),Inv X pins σ H s->aS X.K st H->Rep X.K H d v->RelV v u->aL X.K H ds vs->aQ vs us->W d ds st R ->
 wpAny (model X.prog X.w) X.A (call (.builtin id) (u::us)) (EP X pins σ (QD X.K H st R)) X.xe s
inductive Z3 (K:ab)(W:D->List D->aB->VK->Prop)(v:V)(vs:List V)(H:Hp)(Q:L2.VK):Prop where
 |mk (d:D)(ds:List D)(st:aB)(R:VK)(r:Rep K H d v)(rs:aL K H ds vs)(ok:aS K st H)(q:W d ds st R)(hq:∀ v H',QD K H st R v H'->Q v H'):Z3 K W v vs H Q
theorem H0.mt {T id:String}{W:D->List D->aB->VK->Prop}(h:H0 X T id W):VR X id (Z3 X.K W):=fun pins s σ H v vs u us Q I rv rvs ⟨d,ds,st,R,r,rs,ok,q,hq⟩ =>
 bE (h pins s σ H st d ds v vs u us R I ok r rv rs rvs q) fun u s' ⟨v,H',I',r',z⟩=>⟨v,H',I',r',hq _ _ z⟩
theorem SI:H0 X "list" "list.append" (jX .append):=by
 intro pins s σ H st d ds v vs u us R I ok r rv rs rvs q
 cases d<;>first|exact(show False from q).elim|skip
 match ds,q with
 |[d],q =>
 cases r.cP
 obtain⟨w,rfl,rd⟩:=rs.one
 obtain⟨xs,e,q⟩:=eB (st:=st) q
 obtain⟨ys,g1,g2⟩:=ok.lst e
 exact L2.sT pins s σ H _ _ u us _ I rv rvs ⟨_,ys,w,rfl,rfl,g1,by rw[fQ,<-g2.length];exact q.1,.set ok e (g2.append (.cons rd .nil)) .non q.2⟩
 |[],q=>exact(show False from q).elim
 |_::_::_,q=>exact(show False from q).elim
theorem PR:H0 X "list" "list.extend" (jX .extend):=by
 intro pins s σ H st d ds v vs u us R I ok r rv rs rvs q
 cases d<;>first|exact(show False from q).elim|skip
 match ds,q with
 |[d],q =>
 cases r.cP
 obtain⟨w,rfl,rd⟩:=rs.one
 obtain⟨xs,e,q⟩:=eB (st:=st) q
 obtain⟨ys,g1,g2⟩:=ok.lst e
 have q:zL d st fun zs=>xs.length+zs.length<=aZ/\R .non (put st _ (.lst (xs++zs))):=q
 cases d<;>first|exact(show False from q).elim|skip
 ·obtain⟨b,ws,rfl,f,g⟩:=rd.bS
  exact NK pins s σ H _ _ u us _ I rv rvs ⟨_,b,ys,ws,rfl,rfl,g1,f,by rw[fQ,<-g2.length,<-g.length];exact q.1,.set ok e (g2.append g) .non q.2⟩
 ·cases rd.cP
  obtain⟨zs,e2,q⟩:=eB (st:=st) q
  obtain⟨ws,k1,k2⟩:=ok.lst e2
  exact L2.yU pins s σ H _ _ u us _ I rv rvs ⟨_,_,ys,ws,rfl,rfl,g1,k1,by rw[fQ,<-g2.length,<-k2.length];exact q.1,.set ok e (g2.append k2) .non q.2⟩
 |[],q=>exact(show False from q).elim
 |_::_::_,q=>exact(show False from q).elim
theorem ZT:H0 X "list" "list.pop" (jX .pop):=by
 intro pins s σ H st d ds v vs u us R I ok r rv rs rvs q
 cases d<;>first|exact(show False from q).elim|skip
 match ds,q with
 |[],q =>
 cases r.cP
 cases rs
 obtain⟨xs,e,q⟩:=eB (st:=st) q
 obtain⟨ys,g1,g2⟩:=ok.lst e
 obtain⟨d,e2,q⟩:=eJ q
 obtain⟨w,k1,k2⟩:=g2.get e2
 exact L2.LD pins s σ H _ _ u us _ I rv rvs ⟨_,ys,w,rfl,rfl,g1,by rw[<-g2.length];exact k1,.set ok e g2.dropLast k2 q⟩
 |_::_,q=>exact(show False from q).elim
theorem P4 {K:ab}{m:MT}{st:aB}{d:D}{v:V}(hm:m≠.index)(ok:aS K st H)(r:Rep K H d v)(h:zM m d st):RZ K "list" v H:=by
 unfold zM at h
 split at h
 all_goals first|(exact h.elim;done)|(exact absurd rfl hm;done)|skip
 all_goals
 cases r.cP
 obtain⟨ds,e,_⟩:=eB h
 obtain⟨vs,g,_⟩:=ok.lst e
 exact Oy g
end
section
variable {X:Cx}{C:bL}{sub:Nat->Nat->Bool}{E:XK}{a b c e o:Expr}{x y z:Ex}{pos apos kO:Pos}
theorem Q5 {m:MT}{name:Str}{id:String}{es:List Expr}{xs:List Ex}(hmi:m≠.index)(slot:Slot "list" name id)(hty:Sr (.builtin id)=pure (.type "method_descriptor"))(hm:H0 X "list" id (jX m))(ho:PE X o (bZ X.K (aI C sub E x)))(ha:PA X (e::es) (lQ X.K (bU C sub E xs)))
 (kA:fx o name X.env (eval o X.env)=eval o X.env)
 (sF:((dq kO (ar (e::es) X.env)).all (fun x=>!x.1)&&(my kO (jy [] X.env)).all (fun x=>x.1.isSome)&&decide ((e::es).length+([]:List pz).length+(if([]:List pz).isEmpty then 0 else 1)<30))=true)(kB:(apos.endLine==kO.line)=true)
 (hs:ar (e::es) X.env=(false,eval e X.env)::ar es X.env)(sG:(dq kO (ar es X.env)).any (·.1)=false):
 PE X (.Call (.Attribute o name apos) (e::es) [] kO) (bZ X.K (aI C sub E (.cB m x xs))) :=
 (Kv mn slot hty hm.mt ho ha kA sF kB hs sG).imp fun σ H Q ⟨σd,st,R,r,ok,q,hq⟩=>by
 refine⟨σd,st,_,r,ok,q,fun v H1 ⟨d,aC,s1,aP,r1,q1⟩=>⟨P4 hmi aP r1 q1.1,?_⟩⟩
 refine⟨σd,aC,_,r.step ok s1,aP,q1.2,fun vs H2 ⟨ds,aG,s2,cD,r2,q2⟩=>?_⟩
 exact⟨d,ds,aG,R,r1.step aP s2,r2,cD,q2,fun v H' z=>hq _ _ (.after (s1.trans s2) z)⟩
theorem XF {m:MT}{name:Str}{id:String}(hmi:m≠.index)(slot:Slot "list" name id)(hty:Sr (.builtin id)=pure (.type "method_descriptor"))(hm:H0 X "list" id (jX m))(ho:PE X o (bZ X.K (aI C sub E x)))
 (kA:fx o name X.env (eval o X.env)=eval o X.env)(kB:(apos.endLine==kO.line)=true):
 PE X (.Call (.Attribute o name apos) [] [] kO) (bZ X.K (aI C sub E (.cB m x []))) :=
 (Z6 mn slot hty hm.mt ho kA kB).imp fun σ H Q ⟨σd,st,R,r,ok,q,hq⟩=>by
 refine⟨σd,st,_,r,ok,q,fun v H1 ⟨d,aC,s1,aP,r1,q1⟩=>⟨P4 hmi aP r1 q1.1,?_⟩⟩
 exact⟨d,[],aC,R,r1,.nil,aP,q1.2,fun v H' z=>hq _ _ (.after s1 z)⟩
inductive fN (K:ab)(C:bL)(f:Nat)(vs:List V)(H:Hp)(Q:L2.VK)(E:L2.XK):Prop where
 |mk (ds:List D)(st:aB)(R:VK)(r:aL K H ds vs)(ok:aS K st H)(q:C f ds st R (fun _ _=>False))(hq:∀ v H',QD K H st R v H'->Q v H'):fN K C f vs H Q E
theorem Z4 {CX:xT}{k:Nat}{f:Addr}{fid:Nat}{fd:gw}{ps:List Str}{n:Str}{p:Pos}{es:List Expr}{xs:List Ex}(F:fA X.prog X.w X.K X.mg X.base CX k f fd ps (fN X.K C fid))(hr:dS k X.A)(hg:Gl X n)(hm:X.mg n=some (.ref f))
 (hk:fw X.K (.ref f)=true)(hb:Binds X.K fd ps [])(hx:sD CX X E0)(ha:PA X (e::es) (lQ X.K (bU C sub (fun _ _=>False) xs)))
 (hdb:(n==("__debug__" : Str))=false)(he:ar (e::es) X.env=(false,eval e X.env)::ar es X.env)(dB:(dq pos (ar es X.env)).any (·.1)=false):
 PE X (.Call (.Name n p) (e::es) [] pos) (bZ X.K (aI C sub (fun _ _=>False) (.call fid xs))) :=
 (X8 F hr hg hm hk hb .nil hx ha hdb he dB).imp fun σ H Q ⟨σd,st,R,r,ok,q,hq⟩=>by
 refine⟨σd,st,_,r,ok,q,fun vs H1 ⟨ds,aC,s1,aP,r1,q1⟩=>?_⟩
 show fN X.K C fid (vs++[]) H1 Q E0
 rw[b7]
 exact⟨ds,aC,R,r1,aP,q1,fun v H' z=>hq _ _ (.after s1 z)⟩
end
end L3
end
section
namespace L3
open PySem PySem.Spec PyProof.Rows L2
noncomputable abbrev EF:XK:=fun _ _=>False
structure EA (K:ab)(H:Hp)(st:aB)(P:gO)(D:Ends):Prop where
 nx:∀ σ' H' eD aA,dO K H' eD σ'->Step H st H' aA->aS K aA H'->P.nx eD aA->D.nx σ' H'
 rt:∀ v H',QD K H st P.rt v H'->D.rt v H'
 bk:∀ σ' H' eD aA,dO K H' eD σ'->Step H st H' aA->aS K aA H'->P.bk eD aA->D.bk σ' H'
 ct:∀ σ' H' eD aA,dO K H' eD σ'->Step H st H' aA->aS K aA H'->P.ct eD aA->D.ct σ' H'
 ex:∀ c σd st,¬P.ex c σd st
theorem EA.after {K:ab}{H H1:Hp}{st aC:aB}{P:gO}{D:Ends}(h:EA K H st P D)(s:Step H st H1 aC):EA K H1 aC P D :=
 ⟨fun σ' H' eD aA r t ok q=>h.nx σ' H' eD aA r (s.trans t) ok q,fun v H' z=>h.rt v H' (.after s z),fun σ' H' eD aA r t ok q=>h.bk σ' H' eD aA r (s.trans t) ok q,fun σ' H' eD aA r t ok q=>h.ct σ' H' eD aA r (s.trans t) ok q,h.ex⟩
inductive iL (K:ab)(ts:gO->St->aB->Prop)(D:Ends)(σ:L2.St)(H:Hp):Prop where
 |mk (σd:St)(st:aB)(P:gO)(r:dO K H σd σ)(ok:aS K st H)(q:ts P σd st)(h:EA K H st P D):iL K ts D σ H
section
variable {X:Cx}{C:bL}{sub:Nat->Nat->Bool}{a b c e:Expr}{x y z:Ex}{pos:Pos}{s:Stmt}{ss:List Stmt}{xs:List Sx}{sx:Sx}
theorem Gm:lI X [] (iL X.K (cR C sub [])) :=
 WL.imp fun D σ H ⟨σd,st,P,r,ok,q,h⟩=>by
 exact h.nx _ _ _ _ r .refl ok q
theorem Ap (h1:PS X s (iL X.K (wpS C sub sx)))(h2:lI X ss (iL X.K (cR C sub xs))):lI X (s::ss) (iL X.K (cR C sub (sx::xs))) :=
 (U1 h1 h2).imp fun D σ H ⟨σd,st,P,r,ok,q,h⟩=>by
 exact⟨σd,st,_,r,ok,q,⟨fun σ' H' eD aA r' s' gG q'=>⟨eD,aA,P,r',gG,q',h.after s'⟩,h.rt,h.bk,h.ct,h.ex⟩⟩
theorem rS {P:gO}{σd:St}{st:aB}{x:Ex}{Q:VK}(hC:bY C C)(he:∀ c σd st,¬P.ex c σd st)(q:aI C sub (fun c aA=>P.ex c σd aA) x σd st Q):aI C sub EF x σd st Q :=
 aW hC (fun c st z=>he _ _ _ z) x (fun _ _ z=>z) q
theorem Je {P:gO}{σd:St}{st:aB}{xs:List Ex}{Q:List D->aB->Prop}(hC:bY C C)(he:∀ c σd st,¬P.ex c σd st)(q:bU C sub (fun c aA=>P.ex c σd aA) xs σd st Q):bU C sub EF xs σd st Q :=
 cX hC (fun c st z=>he _ _ _ z) xs (fun _ _ z=>z) q
theorem Ko (hC:bY C C)(h:PE X e (bZ X.K (aI C sub EF x))):PS X (.Return (some e) pos) (iL X.K (wpS C sub (.ret x))) :=
 (Ep h).imp fun D σ H ⟨σd,st,P,r,ok,q,h⟩=>by
 exact⟨σd,st,_,r,ok,rS hC h.ex q,h.rt⟩
theorem Fw:PS X (.Return none pos) (iL X.K (wpS C sub (.ret (.c .non)))) :=
 XJ.imp fun D σ H ⟨σd,st,P,r,ok,q,h⟩=>by
 exact h.rt _ _ (.here ok .non q)
theorem Nc (hC:bY C C)(h:PE X e (bZ X.K (aI C sub EF x)))(hs:ku e none pos.line X.env=pure false):PS X (.Expr e pos) (iL X.K (wpS C sub (.ex x))) :=
 (XZ h hs).imp fun D σ H ⟨σd,st,P,r,ok,q,h⟩=>by
 exact⟨σd,st,_,r,ok,rS hC h.ex q,fun v H' ⟨d,aA,s',gG,_,q'⟩=>h.nx _ _ _ _ (r.step ok s') s' gG q'⟩
theorem Mf {as bs:List Stmt}{ax bx:List Sx}(hC:bY C C)(hc:PT X c (jS X.K (aI C sub EF x)))(ha:lI X as (iL X.K (cR C sub ax)))(hb:lI X bs (iL X.K (cR C sub bx))):PS X (.If c as bs pos) (iL X.K (wpS C sub (.iff x ax bx))) :=
 (Gv hc ha hb).imp fun D σ H ⟨σd,st,P,r,ok,q,h⟩=>by
 refine⟨σd,st,fun k aA=>if k=true then cR C sub ax P σd aA else cR C sub bx P σd aA,r,ok,rS hC h.ex q,fun k H' ⟨aA,s',gG,q'⟩=>?_⟩
 cases k with
 |true=>exact⟨σd,aA,P,r.step ok s',gG,q',h.after s'⟩
 |false=>exact⟨σd,aA,P,r.step ok s',gG,q',h.after s'⟩
theorem Dh {cl:Nat}{es:List Ex}(hC:bY C C)(hn:∀ σd st,¬bU C sub EF es σd st fun _ _=>False):PS X s (iL X.K (wpS C sub (.rais cl es))) :=
 TU.imp fun D σ H ⟨σd,st,P,r,ok,q,h⟩=>by
 exact hn σd st (cX hC (fun c st z=>(h.ex _ _ _ z).elim) es (fun _ _ z=>(h.ex _ _ _ z).elim) q)
inductive JH (K:ab)(g:D->St->aB->(St->aB->Prop)->Prop)(v:V)(σ:L2.St)(H:Hp)(Q:L2.St->Hp->Prop):Prop where
 |mk (d:D)(σd:St)(st:aB)(M:St->aB->Prop)(r:Rep K H d v)(sr:dO K H σd σ)(ok:aS K st H)(q:g d σd st M)(hq:∀ σ' H' eD aA,dO K H' eD σ'->Step H st H' aA->aS K aA H'->M eD aA->Q σ' H'):JH K g v σ H Q
theorem _root_.L2.PG.imp {X:Cx}{e:Expr}{t t':TG}(i:∀ v σ H Q,t' v σ H Q->t v σ H Q)(h:PG X e t):PG X e t':=fun pins s σ H v u Q I r q=>h pins s σ H v u Q I r (i v σ H Q q)
theorem UC {E:XK}{i:Nat}(h:PG X e (DQ i)):PG X e (JH X.K (nI C sub E (.nm i))) :=
 h.imp fun v σ H Q ⟨d,σd,st,M,rd,r,ok,q,hq⟩=>by
 exact hq _ _ _ _ (r.set i rd) .refl ok q
theorem O1 {tg:Expr}{t:Tg}(hC:bY C C)(he:PE X e (bZ X.K (aI C sub EF x)))(hg:PG X tg (JH X.K (nI C sub EF t)))
 (hs:og [tg] e pos.line X.env=pure false)(hw:oh [tg] e X.env=pure none)(h1:(ee [tg] X.env).map (·.2)=[lj tg X.env]):PS X (.Assign [tg] e pos) (iL X.K (wpS C sub (.asg t x))) :=
 (Bu he hg hs hw h1).imp fun D σ H ⟨σd,st,P,r,ok,q,h⟩=>by
 refine⟨σd,st,_,r,ok,rS hC h.ex q,fun v H' ⟨d,aA,s',gG,rd,q'⟩=>?_⟩
 refine⟨d,σd,aA,P.nx,rd,r.step ok s',gG,wX hC (fun c st z=>h.ex _ _ _ z) (fun _ _ z=>z) t q',fun σ2 H2 tU aG r2 s2 cD q2=>?_⟩
 exact h.nx _ _ _ _ r2 (s'.trans s2) cD q2
theorem Y1 {bs:List Stmt}{bx:List Sx}(hC:bY C C)(hp:qa (model X.prog X.w) X.A X.env X.xe)(hc:PT X c (jS X.K (aI C sub EF x)))(hb:lI X bs (iL X.K (cR C sub bx))):PS X (.While c bs [] pos) (iL X.K (wpS C sub (.whl x bx))) :=
 (SX hp hc hb).imp fun D σ H ⟨σd,st,P,r,ok,q,h⟩=>by
 obtain⟨n,q⟩:=q
 refine⟨fun m σ' H'=>∃ eD aA,dO X.K H' eD σ'/\Step H st H' aA/\aS X.K aA H'/\pF _ m eD aA,⟨n,σd,st,r,.refl,ok,q⟩,fun m σ1 H1 ⟨σd1,aC,r1,s1,aP,q1⟩=>?_⟩
 cases m with
 |zero=>exact q1.elim
 |succ m =>
  simp only[pF]at q1
  refine⟨σd1,aC,fun k aA=>if k=true then cR C sub bx _ σd1 aA else P.nx σd1 aA,r1,aP,rS hC h.ex q1,fun k H2 ⟨aG,s2,cD,q2⟩=>?_⟩
  cases k with
  |false=>exact h.nx _ _ _ _ (r1.step aP s2) (s1.trans s2) cD q2
  |true =>
  refine⟨fun σ' H'=>∃ eD aA,dO X.K H' eD σ'/\Step H st H' aA/\aS X.K aA H'/\pF _ m eD aA,fun σ' H' z=>⟨m,f9 _,z⟩,?_⟩
  refine⟨σd1,aG,_,r1.step aP s2,cD,q2,⟨fun σ' H' eD aA r' s' gG q'=>⟨eD,aA,r',(s1.trans s2).trans s',gG,q'⟩,fun v H' z=>h.rt _ _ (.after (s1.trans s2) z),fun σ' H' eD aA r' s' gG q'=>h.nx _ _ _ _ r' ((s1.trans s2).trans s') gG q',
   fun σ' H' eD aA r' s' gG q'=>⟨eD,aA,r',(s1.trans s2).trans s',gG,q'⟩,h.ex⟩⟩
end
end L3
end
section
namespace L3
open PySem PySem.Spec PyProof.Rows L2
noncomputable def VS (x:Str):It:=⟨fun i _=>i<x.cps.size,fun i H v H'=>H'=H/\∃ c,x.cps[i]? = some c/\v=.str ⟨#[c]⟩,fun i _=>x.cps.size<=i⟩
theorem J3 {P:br}{w:World}{K:ab}{tg:Expr}(it:Addr)(x:Str)(t:Tok)(ty:String)(hty:["enumerate","zip","dict_itemiterator","dict_reverseitemiterator","odict_iterator","itertools.zip_longest","itertools.pairwise"].contains ty=false)
  (W:∀ A:cg,A.handled=none->Walks P w A it [it] [it] x.cps.size (SignAt x) (fun i h=>h.IsStrIter it ty x t i))
  (hd:∀(A:cg)(i:Nat)(s:af)(Q:Option Value->af->Prop)(E:Value->af->Prop),A.handled=none->s.heap.IsStrIter it ty x t i->x.cps.size<=i->(∀ h',(∀ b o,b≠it->s.heap.get? b=some o->h'.get? b=some o)->Q none { s with heap:=h' })->wpAny (model P w) A (ua (.ref it)) Q E s)
  (hself:∀(A:cg)(i:Nat)(s:af)(Q:Value->af->Prop)(E:Value->af->Prop),s.heap.IsStrIter it ty x t i->Q (.ref it) s->wpAny (model P w) A (ub (.ref it)) Q E s):Turn P w K tg (VS x) [it] it (fun i h=>h.IsStrIter it ty x t i) where
 mem:=by simp
 obj:=fun i h st b hb=>by
  have e:b=it:=by simpa using hb
  subst e
  obtain⟨o,e,c,d⟩:=st
  exact⟨o,e,fun v z=>by rw[d]at z;cases z⟩
 keep:=fun i h h' st k=>let⟨o,e,r⟩:=st;⟨o,k it (by simp) o e,r⟩
 item:=by
  intro X hP hw hK hc i pins s σ H E I hf st hg
  subst hP hw hK
  obtain⟨f0,f1,f2,f3,f4,f5⟩:=hf it (by simp)
  refine(W X.A (I.ok.hd hc)).item i s _ _ hg st fun v h' tk hv aA kk=>?_
  obtain⟨c,u,hc',rfl⟩:=hv
  have I1:Inv X pins σ H { s with heap:=h',toks:=tk }:=I.turned (fun b o hb e=>kk b o (by simpa using hb) e) f0 f1 f3 f4 f5
  obtain⟨o,e,c1,d⟩:=id aA
  exact⟨_,rfl,C6 (s:={ s with heap:=h',toks:=tk }) e c1 d hty ⟨.str ⟨#[c]⟩,H,I1,⟨u,rfl⟩,⟨rfl,c,hc',rfl⟩,aA,fun b hb=>(hf b hb).1⟩⟩
 done:=by
  intro X hP hw hK hc i pins s σ H E I hf st hg
  subst hP hw hK
  obtain⟨f0,f1,f2,f3,f4,f5⟩:=hf it (by simp)
  exact hd X.A i s _ _ (I.ok.hd hc) st hg fun h' eb=>⟨rfl,I.turned (t':=s.toks) (fun b o hb e=>eb b o hb e) f0 f1 f3 f4 f5⟩
 self:=fun A i s Q E st h=>hself A i s Q E st h
structure BO (K:ab)(J:It)(as:List Nat)(xs:List D)(H1:Hp)(aC:aB):Prop where
 go:∀ i H st d,Step H1 aC H st->aS K st H->same as aC st->xs[i]? = some d->J.go i H
 yld:∀ i H st d x H',Step H1 aC H st->aS K st H->same as aC st->xs[i]? = some d->J.yld i H x H'->Step H st H' st/\aS K st H'/\Rep K H' d x
 stop:∀ i H st,Step H1 aC H st->aS K st H->same as aC st->xs.length<=i->J.stop i H
inductive QJ (K:ab)(H:Hp)(st:aB)(M:List Nat->List D->aB->Prop)(J:It)(H1:Hp):Prop where
 |mk (as:List Nat)(xs:List D)(aC:aB)(s:Step H st H1 aC)(ok:aS K aC H1)(j:BO K J as xs H1 aC)(q:M as xs aC):QJ K H st M J H1
inductive CO (K:ab)(te:St->aB->(List Nat->List D->aB->Prop)->Prop)(σ:L2.St)(H:Hp)(R:It->Hp->Prop):Prop where
 |mk (σd:St)(st:aB)(M:List Nat->List D->aB->Prop)(r:dO K H σd σ)(ok:aS K st H)(q:te σd st M)(hq:∀ J H1,QJ K H st M J H1->R J H1):CO K te σ H R
section
variable {K:ab}{H1:Hp}{aC:aB}{a:Addr}{xs:List D}{vs:List V}
theorem YV (aP:aS K aC H1)(f:eS K H1 a vs)(g:aL K H1 xs vs):BO K (Z0 K a) [] xs H1 aC where
 go:=fun i H st d s ok _ e=>let⟨v,e1,_⟩:=g.get e;⟨vs,v,wV aP s f,e1⟩
 yld:=fun i H st d x H' s ok _ e ⟨e',h⟩=>by
  subst e'
  obtain⟨v,e1,e2⟩:=g.get e
  have:=h vs (wV aP s f)
  rw[e1]at this;cases this
  exact⟨.refl,ok,e2.step aP s⟩
 stop:=fun i H st s ok _ l=>⟨vs,wV aP s f,by rw[<-g.length];exact l⟩
theorem TQ (aP:aS K aC H1)(f:rO K H1 a vs)(g:aL K H1 xs vs):BO K (VH K a) [] xs H1 aC where
 go:=fun i H st d s ok _ e=>let⟨v,e1,_⟩:=g.get e;⟨vs,v,(tG aP s f).sq,e1⟩
 yld:=fun i H st d x H' s ok _ e ⟨e',h⟩=>by
  subst e'
  obtain⟨v,e1,e2⟩:=g.get e
  have:=h vs (tG aP s f).sq
  rw[e1]at this;cases this
  exact⟨.refl,ok,e2.step aP s⟩
 stop:=fun i H st s ok _ l=>⟨vs,(tG aP s f).sq,by rw[<-g.length];exact l⟩
theorem ZG (aP:aS K aC H1)(e0:aC a=some (.lst xs)):BO K (VH K a) [a] xs H1 aC where
 go:=fun i H st d s ok sm e=>by
  have e':st a=some (.lst xs):=(sm a (by simp)).trans e0
  obtain⟨us,g1,g2⟩:=ok.lst e'
  obtain⟨v,e1,_⟩:=g2.get e
  exact⟨us,v,dQ.of g1,e1⟩
 yld:=fun i H st d x H' s ok sm e ⟨e',h⟩=>by
  subst e'
  have e':st a=some (.lst xs):=(sm a (by simp)).trans e0
  obtain⟨us,g1,g2⟩:=ok.lst e'
  obtain⟨v,e1,e2⟩:=g2.get e
  have:=h us (dQ.of g1)
  rw[e1]at this;cases this
  exact⟨.refl,ok,e2⟩
 stop:=fun i H st s ok sm l=>by
  have e':st a=some (.lst xs):=(sm a (by simp)).trans e0
  obtain⟨us,g1,g2⟩:=ok.lst e'
  exact⟨us,dQ.of g1,by rw[<-g2.length];exact l⟩
theorem P1 (lo:Int)(n:Nat):BO K (WC lo n) [] (iY lo n) H1 aC where
 go:=fun i H st d s ok _ e=>by
  have:=(List.getElem?_eq_some_iff.mp e).1
  show i<n
  simpa [iY]using this
 yld:=fun i H st d x H' s ok _ e ⟨e',h⟩=>by
  subst e' h
  simp only[iY,bc,dh]at e
  obtain⟨k,e1,rfl⟩:=e
  have:k=i:=by
   rw[lh]at e1
   obtain⟨_,e2⟩:=e1
   simp at e2
   exact e2.symm
  subst this
  exact⟨.refl,ok,.int _⟩
 stop:=fun i H st s ok _ l=>by show n<=i;simpa [iY]using l
theorem M1 (x:List Nat):BO K (VS ⟨x.toArray⟩) [] (x.map fun c=>.str [c]) H1 aC where
 go:=fun i H st d s ok _ e=>by
  have:=(List.getElem?_eq_some_iff.mp e).1
  show i<(⟨x.toArray⟩:Str).cps.size
  simpa using this
 yld:=fun i H st d v H' s ok _ e ⟨e',c,ec,ev⟩=>by
  subst e' ev
  simp only[bc,dh]at e
  obtain⟨c',e1,rfl⟩:=e
  have:c=c':=by
   have ec:x.toArray[i]? = some c:=ec
   simp at ec
   rw[ec]at e1;exact dy e1
  subst this
  exact⟨.refl,ok,.str [c]⟩
 stop:=fun i H st s ok _ l=>by
  show(⟨x.toArray⟩:Str).cps.size<=i
  simpa using l
end
section
variable {X:Cx}{C:bL}{sub:Nat->Nat->Bool}{a b c e tg:Expr}{x y z:Ex}{pos:Pos}
theorem _root_.L2.PI.imp {X:Cx}{tg e:Expr}{t t':TI}(i:∀ σ H Q,t' σ H Q->t σ H Q)(h:PI X tg e t):PI X tg e t':=fun pins s σ H Q I q=>h pins s σ H Q I (i σ H Q q)
theorem Dp {E:XK}(h:PE X e (bZ X.K (aI C sub E x))):PI X tg e (CO X.K fun σ st M=>bU C sub E [x] σ st fun ds aC=>gN none ds aC fun as xs=>M as xs aC):=by
 intro pins s σ H R I ⟨σd,st,M,r,ok,q,hq⟩
 refine bE (h pins s σ H _ I ⟨σd,st,_,r,ok,q,fun v H' z=>z⟩) fun u s1 ⟨v,H1,I1,rv,d,aC,dC,aP,r1,q1⟩=>?_
 have fresh:∀{b:Addr},b∈[s1.heap.objs.size]->nD X pins H1 b:=fun{b} hb=>by
  have e:b=s1.heap.objs.size:=by simpa using hb
  subst e
  exact I1.KQ (bb _) (I1.cG.fresh (bb _))
 have tup:∀(a:Addr)(vs:List V)(as:List Nat)(xs:List D),v=.ref a->eS X.K H1 a vs->BO X.K (Z0 X.K a) as xs H1 aC->M as xs aC->wpAny (model X.prog X.w) X.A (ub u) (Q4 X pins σ tg R) X.xe s1:=by
  intro a vs as xs e f j q
  subst e
  cases rv
  obtain⟨aD,rr,p,hz⟩:=I1.tuple f
  exact qs (show s1.heap.IsTuple a aD.toArray from p) ⟨s1.heap.objs.size,[s1.heap.objs.size],_,_,H1,rfl,I1.kept (t':=s1.toks) fun b o e=>ak _ e,OD a _,⟨_,bg _ rfl,rfl,rfl⟩,fun b hb=>fresh hb,hq _ _ ⟨as,xs,aC,dC,aP,j,q⟩⟩
 have lst:∀(a:Addr)(vs:List V)(as:List Nat)(xs:List D),v=.ref a->dQ X.K H1 a vs->BO X.K (VH X.K a) as xs H1 aC->M as xs aC->wpAny (model X.prog X.w) X.A (ub u) (Q4 X pins σ tg R) X.xe s1:=by
  intro a vs as xs e f j q
  subst e
  cases rv
  obtain⟨aD,rr,p,hz⟩:=I1.list f
  exact yv p.isList ⟨s1.heap.objs.size,[s1.heap.objs.size],_,_,H1,rfl,I1.kept (t':=s1.toks) fun b o e=>ak _ e,RC a _,⟨_,bg _ rfl,rfl,rfl⟩,fun b hb=>fresh hb,hq _ _ ⟨as,xs,aC,dC,aP,j,q⟩⟩
 have q1:oW d aC fun as xs=>M as xs aC:=q1
 cases d with
 |tup ds =>
  obtain⟨a,vs,e,f,g⟩:=r1.bS
  exact tup a vs _ _ e f (YV aP f g) q1
 |str z =>
  have q1:z.length<=aZ/\M [] (z.map fun c=>.str [c]) aC:=q1
  cases r1.str_inv
  obtain⟨t,rfl⟩:=rv
  cases ha:(⟨z.toArray⟩:Str).cps.all (·< 128)
  ·exact wpAny_pyIter_wide ha ⟨s1.heap.objs.size,[s1.heap.objs.size],_,VS ⟨z.toArray⟩,H1,rfl,I1.kept (t':=s1.toks) fun b o e=>ak _ e,
   J3 s1.heap.objs.size ⟨z.toArray⟩ t "str_iterator" (by decide) (fun A hA=>Walks.strWide hA _ _ t) (fun A i s Q E hA hi hn hQ=>wpAny_pyNext_wide_end hA hi (by simpa using hn) fun h' he=>hQ h' he) (fun A i s Q E hi hQ=>wpAny_pyIter_striter_wide hi hQ),
   ⟨_,bg _ rfl,rfl,rfl⟩,fun b hb=>fresh hb,hq _ _ ⟨_,_,aC,dC,aP,M1 z,q1.2⟩⟩
  ·exact wpAny_pyIter_ascii ha ⟨s1.heap.objs.size,[s1.heap.objs.size],_,VS ⟨z.toArray⟩,H1,rfl,I1.kept (t':=s1.toks) fun b o e=>ak _ e,
   J3 s1.heap.objs.size ⟨z.toArray⟩ t "str_ascii_iterator" (by decide) (fun A hA=>Walks.strAscii hA _ _ t) (fun A i s Q E hA hi hn hQ=>wpAny_pyNext_ascii_end hA hi (by simpa using hn) fun h' he=>hQ h' he) (fun A i s Q E hi hQ=>wpAny_pyIter_striter_ascii hi hQ),
   ⟨_,bg _ rfl,rfl,rfl⟩,fun b hb=>fresh hb,hq _ _ ⟨_,_,aC,dC,aP,M1 z,q1.2⟩⟩
 |ref a =>
  cases r1.cP
  obtain⟨ds,e,q1⟩:=eB (st:=aC) q1
  obtain⟨vs,g1,g2⟩:=aP.lst e
  exact lst _ vs _ _ rfl (dQ.of g1) (ZG aP e) q1
 |bP ds =>
  obtain⟨a,vs,e,f,g⟩:=r1.lC
  exact lst a vs _ _ e f.sq (TQ aP f g) q1
 |_=>exact(show False from q1).elim
theorem ZA {E:XK}{p:Pos}(hC:bY C C)(hg:Gl X "range")(hm:X.mg "range" = none)(ha:PA X [a] (lQ X.K (bU C sub E [x])))(hs:ar [a] X.env=[(false,eval a X.env)]):
 PI X tg (.Call (.Name "range" p) [a] [] pos) (CO X.K fun σ st M=>bU C sub E [x] σ st fun ds aC=>gN (some .range) ds aC fun as xs=>M as xs aC) :=
 (RP hg hm ha hs).imp fun σ H R ⟨σd,st,M,r,ok,q,hq⟩=>by
 refine⟨σd,st,_,r,ok,rJ [x] hC q,fun vs H1 ⟨ds,aC,s1,aP,r1,l1,q1⟩=>?_⟩
 match ds,l1,q1 with
 |[d],_,q1 =>
  obtain⟨v,rfl,rd⟩:=r1.one
  have q1:gN (some .range) [d] aC fun as xs=>M as xs aC:=q1
  cases d with
  |int j =>
  cases rd.int_inv
  exact⟨j,rfl,q1.1.1,q1.1.2,hq _ _ ⟨_,_,aC,s1,aP,P1 0 _,q1.2⟩⟩
  |_=>exact(show False from q1).elim
theorem WA {k:Option IK}{aD:List Ex}{iter:Expr}{t:Tg}{bs:List Stmt}{bx:List Sx}(hC:bY C C)(hp:qa (model X.prog X.w) X.A X.env X.xe)(hc:X.calm=true)
 (hi:PI X tg iter (CO X.K fun σ st M=>bU C sub EF aD σ st fun ds aC=>gN k ds aC fun as xs=>M as xs aC))(hg:PG X tg (JH X.K (nI C sub EF t)))(hb:lI X bs (iL X.K (cR C sub bx)))
 (hs:∀ x,gg iter X.env x=pure x):PS X (.For tg iter bs [] pos) (iL X.K (wpS C sub (.gR t k aD bx))) :=
 (Z8 hp hc hi hg hb hs).imp fun DD σ H ⟨σd,st,P,r,ok,q,h⟩=>by
 refine⟨σd,st,_,r,ok,Je hC h.ex q,fun J H1 ⟨as,xs,aC,s1,aP,j,q1⟩=>?_⟩
 refine⟨fun i m σ' H'=>∃ eD aA,dO X.K H' eD σ'/\Step H1 aC H' aA/\aS X.K aA H'/\m+i=xs.length/\rV (same as aC) (fun(x:L3.D) next σ st=>nI C sub (fun c aA=>P.ex c σ aA) t x σ st fun σ' aA=>cR C sub bx { P with nx:=next,ct:=next,bk:=P.nx } σ' aA) P.nx (xs.drop i) eD aA,⟨xs.length,σd,aC,r.step ok s1,.refl,aP,by omega,by simpa using q1⟩,fun i m σ2 H2 ⟨tU,aG,r2,s2,cD,e2,q2⟩=>?_⟩
 by_cases hi':i<xs.length
 ·have ed:xs.drop i=xs[i]::xs.drop (i+1):=bw hi'
  rw[ed]at q2
  obtain⟨g2,q2⟩:=q2
  refine .inr ⟨j.go i H2 aG xs[i] s2 cD g2 (aj hi'),fun σ' H'=>∃ eD aA,dO X.K H' eD σ'/\Step H1 aC H' aA/\aS X.K aA H'/\rV (same as aC) (fun(x:L3.D) next σ st=>nI C sub (fun c aA=>P.ex c σ aA) t x σ st fun σ' aA=>cR C sub bx { P with nx:=next,ct:=next,bk:=P.nx } σ' aA) P.nx (xs.drop (i+1)) eD aA,
  fun σ' H' ⟨eD,aA,r',s',gG,q'⟩=>⟨m-1,by omega,eD,aA,r',s',gG,by omega,q'⟩,fun v H3 y3=>?_⟩
  obtain⟨s3,vO,r3⟩:=j.yld i H2 aG xs[i] v H3 s2 cD g2 (aj hi') y3
  refine⟨xs[i],tU,aG,_,r3,r2.step cD s3,vO,wX hC (fun c st z=>h.ex _ _ _ z) (fun _ _ z=>z) t q2,fun σ4 H4 σd4 cH r4 s4 WH q4=>?_⟩
  refine⟨σd4,cH,_,r4,WH,q4,⟨fun σ' H' eD aA r' s' gG q'=>⟨eD,aA,r',((s2.trans s3).trans s4).trans s',gG,q'⟩,fun v H' z=>h.rt _ _ (.after (((s1.trans s2).trans s3).trans s4) z),
  fun σ' H' eD aA r' s' gG q'=>h.nx _ _ _ _ r' ((((s1.trans s2).trans s3).trans s4).trans s') gG q',fun σ' H' eD aA r' s' gG q'=>⟨eD,aA,r',((s2.trans s3).trans s4).trans s',gG,q'⟩,h.ex⟩⟩
 ·have ed:xs.drop i=[]:=fk (by omega)
  rw[ed]at q2
  exact .inl ⟨j.stop i H2 aG s2 cD q2.1 (by omega),h.nx _ _ _ _ r2 (s1.trans s2) cD q2.2⟩
end
end L3
end
section
namespace L3
open PySem PySem.Spec PyProof.Rows L2
section
variable {X:Cx}{C:bL}{sub:Nat->Nat->Bool}{a b c e o i tg:Expr}{x y z:Ex}{pos:Pos}
noncomputable def lM (is:List Nat)(vs:List V)(σ:L2.St):L2.St:=(is.zip vs).foldl (fun σ p=>σ.set p.1 (some p.2)) σ
noncomputable def uX (is:List Nat):HI:=fun vs σ H Q=>vs.length=is.length/\Q (lM is vs σ) H
theorem Cm:CY X [] (uX []):=fun pins s σ H vs us Q I r h=>by
 have:vs=[]:=List.length_eq_zero_iff.mp h.1
 subst this
 exact YN pins s σ H [] us Q I r ⟨rfl,h.2⟩
theorem YH {es:List Expr}{i:Nat}{is:List Nat}(h1:PG X e (DQ i))(h2:CY X es (uX is))(hs:(ee (e::es) X.env).map (·.2)=lj e X.env::(ee es X.env).map (·.2)):CY X (e::es) (uX (i::is)):=fun pins s σ H vs us Q I r h=>by
 obtain⟨hl,h⟩:=h
 cases vs with
 |nil=>simp at hl
 |cons v vs=>exact S7 h1 h2 hs pins s σ H (v::vs) us Q I r ⟨v,vs,rfl,by simpa using hl,h⟩
theorem dO.cK {K:ab}{H:Hp}:∀(is:List Nat){ds:List D}{vs:List V}{σd:St}{σ:L2.St},dO K H σd σ->aL K H ds vs->dO K H ((is.zip ds).foldl (fun σ p=>σ.set p.1 (some p.2)) σd) (lM is vs σ)
 |[],_,_,_,_,r,_=>by simpa [lM]using r
 |_::_,_,_,_,_,r,.nil=>by simpa [lM]using r
 |i::is,_,_,_,_,r,.cons h t=>by
  have:=dO.cK is (r.set i h) t
  simpa [lM]using this
theorem Nf {E:XK}{es:List Expr}{k:Nat}{is:List Nat}(hc:X.calm=true)(h:CY X es (uX is))(hn:(ee es X.env).length=is.length)(fF:(ee es X.env).findIdx? (·.1)=none):
 PG X (.Tuple es k pos) (JH X.K (nI C sub E (.tp is))) :=
 (QT hc h hn fF).imp fun v σ H Q ⟨d,σd,st,M,rd,r,ok,q,hq⟩=>by
 cases d with
 |tup ds0 =>
  have q:ds0.length=is.length/\M _ st:=q
  obtain⟨a,vs,rfl,f,g⟩:=rd.bS
  exact⟨a,vs,rfl,f,by rw[<-g.length];exact q.1,by rw[<-g.length];exact q.1,hq _ _ _ _ (r.cK is g) .refl ok q.2⟩
 |_=>exact(show False by cases is<;>exact q).elim
theorem Mn {E:XK}(ho:PE X o (bZ X.K (aI C sub E x)))(hi:PE X i (bZ X.K (aI C sub E y)))
 (ha:∀ v,lj (.Subscript o i pos) X.env v=(do
  let ov <-j4 [v] (eval o X.env)
  let iv <-j4 [v,ov] (eval i X.env)
  mr pos
  j4 [v,ov,iv] (Rp ov iv v)
  Sw [v,ov,iv] [])):PG X (.Subscript o i pos) (JH X.K (nI C sub E (.ix x y))) :=
 (ZY ho hi set_list ha).imp fun v σ H Q ⟨d,σd,st,M,rd,r,ok,q,hq⟩=>by
 refine⟨σd,st,_,r,ok,q,fun v1 H1 ⟨d1,aC,s1,aP,r1,q1⟩=>?_⟩
 refine⟨σd,aC,_,r.step ok s1,aP,q1,fun v2 H2 ⟨d2,aG,s2,cD,r2,q2⟩=>?_⟩
 have r1':=r1.step aP s2
 have rd':=(rd.step ok s1).step aP s2
 have q2:CA d1 d2 d aG fun aV=>M σd aV:=q2
 cases d1<;>first|exact(show False from q2).elim|skip
 cases d2<;>first|exact(show False from q2).elim|skip
 cases r1'.cP
 cases r2.int_inv
 rw[MG]at q2
 obtain⟨xs,e,q2⟩:=eB q2
 obtain⟨j,ej,q2⟩:=eJ q2
 obtain⟨vs,g1,g2⟩:=cD.lst e
 refine⟨_,vs,_,j,rfl,rfl,g1,by rw[<-g2.length];exact ej,?_⟩
 have s3:=lG (H:=H2) (st:=aG) (o:=.lst (vs.set j v)) (m':=.lst (xs.set j d)) e
 exact hq _ _ _ _ (((r.step ok s1).step aP s2).step cD s3) ((s1.trans s2).trans s3) (cD.set e (g2.set rd' j)) q2
end
end L3
end
section
namespace L3
open PySem PySem.Spec PyProof.Rows L2
noncomputable def nH (cells:List (Str×Addr)):List (Str×NameKind)->List (Str×Addr)->List (Str×Addr)
 |[],cs=>cs
 |(n,k)::r,cs=>nH cells r (if k == .free then(n,(cells.lookup n).getD 0)::cs else cs)
theorem DT {env:Env}:∀(names:List (Str×NameKind))(cs:List (Str×Addr)),(∀ p∈names,p.2=.free->∃ c,env.cells.lookup p.1=some c) ->
  (forIn names cs fun(p:Str×NameKind)(cs:List (Str×Addr))=>(if p.2 == .free then do let c <-cellOf env p.1;pure (jw ((p.1,c)::cs))else pure (jw cs):Sem (ForInStep (List (Str×Addr)))))=pure (nH env.cells names cs)
 |[],cs,_=>by simp [nH]
 |(n,k)::r,cs,h=>by
  have ih:=fun cs=>DT r cs fun p hp=>h p (dj _ hp)
  simp only[oy,nH]
  cases e:(k==ly)with
  |true =>
   obtain⟨c,hc⟩:=h (n,k) (fb ..) (by simpa using e)
   have hc:env.cells.lookup n=some c:=hc
   simp only[if_true,cellOf,hc,j7,pure_bind]
   exact ih _
  |false =>
   simp only[ag,if_false,pure_bind]
   exact ih _
theorem yA {env:Env}{scope:Scope}(h:∀ p∈scope.names,p.2=.free->∃ c,env.cells.lookup p.1=some c):closureFor scope env=pure (nH env.cells scope.names []):=by
 rw[<-DT scope.names [] h]
 unfold closureFor
 simp only[bind_pure]
set_option tactic.hygienic true in
theorem mI {cells:List (Str×Addr)}:∀(names:List (Str×NameKind))(cs:List (Str×Addr)){x:Str}{c:Addr},(∀ p∈names,p.2=.free->∃ c,cells.lookup p.1=some c)->(∀ x c,cs.lookup x=some c->cells.lookup x=some c)->(nH cells names cs).lookup x=some c->cells.lookup x=some c
 |[],cs,x,c,_,h,e=>h x c e
 |(n,k)::r,cs,x,c,hn,h,e=>by
  simp only[nH]at e
  refine mI r _ (fun p hp=>hn p (dj _ hp)) (fun y d ed=>?_) e
  split at ed
  ·rename_i hk
   obtain⟨c',hc'⟩:=hn (n,k) (fb ..) (by simpa using hk)
   have hc':cells.lookup n=some c':=hc'
   rw[c9]at ed
   split at ed
   ·rename_i q
    have q:y=n:=by simpa using q
    subst q
    rw[hc']at ed ⊢
    simpa using ed
   ·exact h y d ed
  ·exact h y d ed
theorem G0 {cells:List (Str×Addr)}:∀(names:List (Str×NameKind))(cs:List (Str×Addr)){x:Str},(∃ c,cs.lookup x=some c)->∃ c,(nH cells names cs).lookup x=some c
 |[],cs,x,h=>h
 |(n,k)::r,cs,x,h=>by
  simp only[nH]
  refine G0 r _ ?_
  split
  ·rw[c9]
   split
   ·exact⟨_,rfl⟩
   ·exact h
  ·exact h
set_option tactic.hygienic true in
theorem CP {cells:List (Str×Addr)}:∀(names:List (Str×NameKind))(cs:List (Str×Addr)){x:Str},names.lookup x=some .free->∃ c,(nH cells names cs).lookup x=some c
 |[],cs,x,h=>by simp at h
 |(n,k)::r,cs,x,h=>by
  simp only[nH]
  rw[c9]at h
  split at h
  ·rename_i q
   cases h
   refine G0 r _ ?_
   simp only[beq_self_eq_true,if_true]
   rw[c9,q]
   exact⟨_,rfl⟩
  ·exact CP r _ h
theorem rX {env:Env}:∀{names:List (Str×NameKind)}{x:Str}{k:sv},(names.map fun(n,k)=>if(k==ly&&env.scope.kind == .function&&env.kindOf n==some .cell)then(n,xr)else(n,k)).lookup x=some k->∃ k',names.lookup x=some k'/\(k'=k∨(k'=.free/\k=.cell))
 |[],x,k,h=>by simp at h
 |(n,k0)::r,x,k,h=>by
  simp only[av]at h
  cases q:(x==n)with
  |true =>
   refine⟨k0,by simp only[c9,q],?_⟩
   by_cases hc:(k0==ly&&env.scope.kind == .function&&env.kindOf n==some .cell)=true
   ·simp only[hc,if_true,c9,q]at h
    cases h
    simp only[ay]at hc
    exact .inr ⟨by simpa using hc.1.1,rfl⟩
   ·simp only[hc,if_false,c9,q,ag]at h
    cases h
    exact .inl rfl
  |false =>
   simp only[c9,q]
   refine rX (env:=env) (names:=r) ?_
   by_cases hc:(k0==ly&&env.scope.kind == .function&&env.kindOf n==some .cell)=true
   ·simp only[hc,if_true,c9,q]at h
    exact h
   ·simp only[hc,if_false,c9,q,ag]at h
    exact h
set_option tactic.hygienic true in
theorem rA {env:Env}:∀{names:List (Str×NameKind)}{x:Str},names.lookup x=some .free->(names.map fun(n,k)=>if(k==ly&&env.scope.kind == .function&&env.kindOf n==some .cell)then(n,xr)else(n,k)).lookup x=some .cell∨(names.map fun(n,k)=>if(k==ly&&env.scope.kind == .function&&env.kindOf n==some .cell)then(n,xr)else(n,k)).lookup x=some .free
 |[],x,h=>by simp at h
 |(n,k0)::r,x,h=>by
  simp only[av]
  rw[c9]at h
  split at h
  ·rename_i q;cases h
   split
   ·exact .inl (by rw[c9,q])
   ·exact .inr (by rw[c9,q])
  ·rename_i q
   split
   ·rw[c9,q];exact rA h
   ·rw[c9,q];exact rA h
structure lY (X:Cx)(scope:Scope)(cn:List Str)(bG:List Nat):Prop where
 kind:scope.kind=.function
 nocell:∀ y∈scope.names,y.2≠.cell
 names:∀ y∈scope.names,y.2=.local->scope.names.lookup y.1=some .local
 free:∀ y∈scope.names,y.2=.free->X.env.kindOf y.1=some .cell∨X.env.kindOf y.1=some .free
 len:cn.length=bG.length
 cap:∀(j:Nat)(y:Str),cn[j]? = some y->scope.names.lookup y=some .free/\∃ i,bG[j]? = some i/\X.N[i]? = some y/\(X.env.kindOf y=some .cell∨X.env.kindOf y=some .free)
noncomputable def mM (X:Cx)(scope:Scope)(own cn:List Str)(fp:List Addr)(s:af)(H:Hp)(Ca:Addr):Cx :=
 { X with N:=own++cn,s₀:=s,H₀:=H,env:=compEnvC scope (nH X.env.cells scope.names []) Ca X.env,outer:=X.stack,ex:=fp,fn:=fun _=>false,calm:=true,pn:=[],xe:=fun _ _=>False }
noncomputable def qA (bG:List Nat)(σ:L2.St):L2.St:=bG.map fun i=>(σ[i]?).getD none
section
variable {X:Cx}{scope:Scope}{own cn:List Str}{bG:List Nat}{fp:List Addr}{pins:List (Addr×Obj)}{σ:L2.St}{H:Hp}{s:af}
theorem lY.cells (S:lY X scope cn bG)(ok:X.Ok):∀ p∈scope.names,p.2=.free->∃ c,X.env.cells.lookup p.1=some c:=fun p hp e=>ok.has p.1 (S.free p hp e)
theorem TK (S:lY X scope cn bG)(hc:X.calm=true)(I:Inv X pins σ H s)(hf:∀ b∈fp,nD X pins H b)(dP:∀ b∈fp,b<s.heap.objs.size){Ca:Addr}(hC:s.heap.objs.size<=Ca):(mM X scope own cn fp s H Ca).Ok where
 mod:=I.ok.mod
 kind:=S.kind
 glob:=I.ok.glob
 blt:=I.ok.blt
 above:=hC
 inj:=fun x y c h1 h2=>I.ok.inj x y c (mI _ [] (S.cells I.ok) (fun _ _ h=>by simp at h) h1) (mI _ [] (S.cells I.ok) (fun _ _ h=>by simp at h) h2)
 has:=fun x h=>by
  refine CP _ [] ?_
  rcases h with h|h
  ·obtain⟨k,e,r⟩:=rX (env:=X.env) (show g8 x (oq _ scope.names)=_ from h)
   rcases r with rfl|⟨rfl,_⟩
   ·exact absurd rfl (S.nocell _ (jc e))
   ·exact e
  ·obtain⟨k,e,r⟩:=rX (env:=X.env) (show g8 x (oq _ scope.names)=_ from h)
   rcases r with rfl|⟨rfl,r⟩
   ·exact e
   ·cases r
 cab:=fun x c h _=>by cases h
 hd:=fun _=>I.ok.hd hc
 frames:=I.ok.frames
 stk:=.inl rfl
 exf:=fun b hb=>⟨fun e=>absurd (dP b hb) (by rw[e];exact Nat.not_lt.mpr hC),fun x c h=>(hf b hb).2.2.2.2.1 x c (mI _ [] (S.cells I.ok) (fun _ _ h=>by simp at h) h)⟩
 bs:=I.bs
 bsz:=bz I.ok.bsz I.sz
 noex:=fun b o e hb=>by
  rcases(hf b hb).2.2.2.1 with z|z
  ·exact I.ok.noex b o e z
  ·exact absurd (cp (bo e) (bz I.ok.bsz z)) (jj _)
 exfs:=fun b hb z=>by
  rcases List.mem_cons.mp (I.IS b z)with e|e
  ·exact(hf b hb).2.1 e
  ·exact(hf b hb).2.2.1 e
 oI:=I.stack
 frf:=I.MK
theorem MC (S:lY X scope cn bG)(hc:X.calm=true)(I:Inv X pins σ H s)(hf:∀ b∈fp,nD X pins H b)(dP:∀ b∈fp,b<s.heap.objs.size){Ca:Addr}(hC:s.heap.objs.size<=Ca){h1:Heap}{tk:Nat}
  {m:Str->Option Value}(hn:h1.Ns Ca m)(hk:∀ b o,s.heap.get? b=some o->h1.get? b=some o):
  Inv (mM X scope own cn fp s H Ca) [] (ai own.length none++qA bG σ) H { s with heap:=h1,toks:=tk } where
 ok:=TK S hc I hf dP hC
 os:=rfl
 bare:=I.bare
 base:=Un.kept hk
 loc:=⟨m,hn,fun i y v h1' h2 h3=>by
  have hi:own.length<=i:=by
   refine zh fun hi=>?_
   rw[bq (by simpa using hi),g9]at h2
   split at h2<;>cases h2
  rw[di (by simpa using hi)]at h2
  have h1':(own++cn)[i]? = some y:=h1'
  rw[di hi]at h1'
  simp only[ki,qA,bc,dh]at h2
  obtain⟨k,e1,e2⟩:=h2
  obtain⟨hfr,i',e3,e4,e5⟩:=S.cap _ y h1'
  rw[e1]at e3;cases e3
  cases e6:σ[k]? with
  |none=>rw[e6]at e2;cases e2
  |some u =>
   rw[e6]at e2
   have e2:u=some v:=e2
   subst e2
   obtain⟨m0,hn0,hl0⟩:=I.loc
   obtain⟨w,rw',lk⟩:=hl0 k y v e4 e6 (e5.elim (fun z=>.inr (.inl z)) fun z=>.inr (.inr z))
   refine⟨w,rw',?_⟩
   rcases lk with⟨z,_⟩|⟨_,c,ec,⟨oc,hoc,hdc⟩⟩
   ·rcases e5 with e5|e5
    ·rw[e5]at z;cases z
    ·rw[e5]at z;cases z
   ·obtain⟨c',ec'⟩:=CP (cells:=X.env.cells) scope.names [] hfr
    have:=mI _ [] (S.cells I.ok) (fun _ _ h=>by simp at h) ec'
    rw[ec]at this;cases this
    exact .inr ⟨rA (env:=X.env) hfr,c,ec',⟨oc,hk _ _ hoc,hdc⟩⟩⟩
 cell:=fun x c h=>by
  obtain⟨v,o,ho,hd⟩:=I.cell x c (mI _ [] (S.cells I.ok) (fun _ _ h=>by simp at h) h)
  exact⟨v,o,hk _ _ ho,hd⟩
 free:=I.cG.fresh hC
 mD:=fun x c h=>I.mD x c (mI _ [] (S.cells I.ok) (fun _ _ h=>by simp at h) h)
 pin:=fun p hp=>absurd (show p∈([]:List (Addr×Obj))from hp) (by simp)
 cG:=I.cG.kept hk
 len:=by
  show(ai own.length none++qA bG σ).length=(own++cn).length
  simp [qA,S.len]
end
end L3
end
section
namespace L3
open PySem PySem.Spec PyProof.Rows L2
noncomputable def AY (ifs:List Expr)(env:Env):Sem Bool:=forIn ifs true fun c r=>if r=true then do let ok <-ze c env (eval c env);pure (jw ok)else pure (jw r)
noncomputable def HH (X:Cx)(ifs:List Expr)(t:L2.TT):Prop :=
 ∀(pins:List (Addr×Obj))(s:af)(σ:L2.St)(H:Hp)(Q:Bool->Hp->Prop),Inv X pins σ H s->t σ H Q->wpAny (model X.prog X.w) X.A (AY ifs X.env) (TP X pins σ Q) X.xe s
inductive wO (K:ab)(te:St->aB->(Bool->aB->Prop)->Prop)(σ:L2.St)(H:Hp)(Q:Bool->Hp->Prop):Prop where
 |mk (σd:St)(st:aB)(R:Bool->aB->Prop)(r:dO K H σd σ)(ok:aS K st H)(q:te σd st R)(hq:∀(b:Bool) H',QX K H st (R b) H'->Q b H'):wO K te σ H Q
section
variable {X:Cx}{C:bL}{sub:Nat->Nat->Bool}{E:XK}{a b c e o i tg:Expr}{x y z:Ex}{pos:Pos}
theorem BN (env:Env):∀(ifs:List Expr),(forIn ifs false fun c r=>if r=true then do let ok <-ze c env (eval c env);pure (jw ok)else pure (jw r):Sem Bool)=pure false
 |[]=>by simp
 |c::r=>by
  simp only[oy,ag,if_false,pure_bind]
  exact BN env r
theorem Bb:HH X [] (wO X.K (iM C sub E [])):=fun pins s σ H Q I ⟨σd,st,R,r,ok,q,hq⟩=>by
 unfold AY
 simp only[Qt]
 exact ao ⟨H,I,hq true H ⟨st,.refl,ok,q⟩⟩
theorem XG {es:List Expr}{xs:List Ex}(h:PT X e (jS X.K (aI C sub E x)))(hs:HH X es (wO X.K (iM C sub E xs))):HH X (e::es) (wO X.K (iM C sub E (x::xs))):=fun pins s σ H Q I ⟨σd,st,R,r,ok,q,hq⟩=>by
 unfold AY
 simp only[oy,if_true]
 refine ae (ae (bE (h pins s σ H _ I ⟨σd,st,fun k aA=>if k=true then iM C sub E xs σd aA R else R false aA,r,ok,q,fun b H' z=>z⟩) fun k s1 ⟨H1,I1,aC,dC,aP,q1⟩=>ao ?_))
 cases k with
 |true =>
 have q1:iM C sub E xs σd aC R:=q1
 refine hs pins s1 σ H1 _ I1 ⟨σd,aC,R,r.step ok dC,aP,q1,fun b H' ⟨aA,s',gG,q'⟩=>hq b H' ⟨aA,dC.trans s',gG,q'⟩⟩
 |false =>
 show wpAny _ _ (forIn es false _) _ _ _
 rw[BN]
 exact ao ⟨H1,I1,hq false H1 ⟨aC,dC,aP,q1⟩⟩
end
theorem JL {prog:br}{w:World}{A:cg}{s:af}{R:Rq->af->Prop}{elt target iter:Expr}{ifs:List Expr}{scope:Scope}{pos:Pos}{it acc:Value}{env:Env}(I:Nat->af->Prop)
 (turn:∀ n s,I n s->wpAny (model prog w) A (ua it) (fun r s₁=>match r with
  |none=>R (.ok .next) s₁
  |some v=>wpAny (model prog w) A (ou target it v) (fun _ s₁'=>wpAny (model prog w) A (lj target env v) (fun _ s₂ =>
   wpAny (model prog w) A (AY ifs env) (fun ok s₃ =>
   if ok=true then wpAny (model prog w) A (eval elt env) (fun x s₄ =>
    wpAny (model prog w) A (call (.builtin "list.append") [acc,x]) (fun _ s₅=>∃ m,m<n/\I m s₅) (fun _ _=>False) s₄) (fun _ _=>False) s₃
   else ∃ m,m<n/\I m s₃) (fun _ _=>False) s₂) (fun _ _=>False) s₁') (fun _ _=>False) s₁) (fun _ _=>False) s)
 (n:Nat)(h:I n s):
 kv (model prog w) A (.compLoop (.ListComp elt [⟨target,iter,ifs,0⟩] scope pos) 0 it acc env) R s:=by
 refine codeAny_loop rfl I (fun n s hI=>?_) n h
 show wpAny _ A ((compTurn (.ListComp elt [⟨target,iter,ifs,0⟩] scope pos) 0 it acc env).onRaise (fun x=>do noteFrame x env;theTreesLotGoes x)) _ _ s
 refine wpAny_noted ?_
 rw[compTurn_list]
 refine ae (oe (ae (j2 (turn n s hI) (fun r s₁ h₁=>?_) fun _ _ h'=>h'.elim)))
 cases r with
 |none=>exact ao h₁
 |some v =>
 refine ae (j2 h₁ (fun _ s₁' h₁'=>?_) fun _ _ h'=>h'.elim)
 refine ae (j2 h₁' (fun _ s₂ h₂=>ae (j2 h₂ (fun ok s₃ h₃=>?_) fun _ _ h'=>h'.elim)) fun _ _ h'=>h'.elim)
 cases ok with
 |false=>exact ao ⟨rfl,h₃⟩
 |true =>
  exact ae (ae (j2 h₃ (fun x s₄ h₄=>ae (j2 h₄ (fun _ s₅ h₅=>ao (ao ⟨rfl,h₅⟩)) fun _ _ h'=>h'.elim)) fun _ _ h'=>h'.elim))
noncomputable def MP (K:ab):Bool->Nat->TG
 |true,_=>DQ 0
 |false,n=>Co K n (uX (a9 n))
theorem DP:∀(is:List Nat)(vs:List V)(σ:L2.St)(n i:Nat),(∀ j∈is,j<n)->n<=i->(lM is vs σ)[i]? = σ[i]?
 |[],_,_,_,_,_,_=>by simp [lM]
 |_::_,[],_,_,_,_,_=>by simp [lM]
 |j::is,v::vs,σ,n,i,h,hi=>by
  have:=DP is vs (σ.set j (some v)) n i (fun k hk=>h k (dj _ hk)) hi
  simp only[lM,qt,l0]at this ⊢
  rw[this]
  have:=h j (fb ..)
  rw[gV (by omega)]
theorem HL:∀(is:List Nat)(vs:List V)(σ:L2.St),(lM is vs σ).length=σ.length
 |[],_,_=>by simp [lM]
 |_::_,[],_=>by simp [lM]
 |j::is,v::vs,σ=>by
  have:=HL is vs (σ.set j (some v))
  simp only[lM,qt,l0,zv]at this ⊢
  exact this
theorem OM {K:ab}{H:Hp}{one:Bool}{n:Nat}{d:D}{v:V}{σd:St}{σ:L2.St}{P:St->Prop}{Q:L2.St->Hp->Prop}(hn:one=true->n=1)(h:kQ one (a9 n) d σd P)(r:dO K H σd σ)(rd:Rep K H d v)
 (hQ:∀ σ2 tU,dO K H tU σ2->P tU->(∀ i,n<=i->σ2[i]? = σ[i]?)->σ2.length=σ.length->Q σ2 H):MP K one n v σ H Q:=by
 cases one with
 |true =>
 cases hn rfl
 have h:P (σd.set 0 (some d)):=h
 refine hQ _ _ (r.set 0 rd) h (fun i hi=>?_) (by simp)
 rw[gV (by omega)]
 |false =>
 cases d with
 |tup ds =>
  rw[RT]at h
  obtain⟨a,vs,rfl,f,g⟩:=rd.bS
  have hl:vs.length=n:=by rw[<-g.length,h.1];simp
  refine⟨a,vs,rfl,f,hl,by simp [hl],hQ _ _ (r.cK _ g) h.2 (fun i hi=>DP _ _ _ n i (fun j hj=>by simpa using hj) hi) (HL _ _ _)⟩
 |_=>exact(show False by cases n<;>exact h).elim
section
variable {K:ab}{H:Hp}{st:aB}{Da:Addr}{ys zs:List V}
theorem YA (hD:H Da=some (.lst ys)){a:Addr}{vs:List V}(h:eS K H a vs):eS K (upd H Da (.lst zs)) a vs:=by
 rcases h with(h|⟨o,h⟩)|h
 ·exact .inl (.inl (by rw[cA (NN h hD (by simp))];exact h))
 ·exact .inl (.inr ⟨o,by rw[cA (NN h hD (by simp))];exact h⟩)
 ·exact .inr h
theorem S6 (hD:H Da=some (.lst ys)){a:Addr}{vs:List V}(h:rO K H a vs):rO K (upd H Da (.lst zs)) a vs:=by
 rcases h with⟨o,h⟩|h
 ·exact .inl ⟨o,by rw[cA (NN h hD (by simp))];exact h⟩
 ·exact .inr h
mutual
theorem Rep.alt (hD:H Da=some (.lst ys)):∀{d:D}{v:V},Rep K H d v->Rep K (upd H Da (.lst zs)) d v
 |_,_,.non=>.non
 |_,_,.bl b=>.bl b
 |_,_,.int i=>.int i
 |_,_,.str x=>.str x
 |_,_,.tup h r=>.tup (YA hD h) (aL.alt hD r)
 |_,_,.ref a=>.ref a
 |_,_,.bP h r=>.bP (S6 hD h) (aL.alt hD r)
 |_,_,.dA h=>.dA h
theorem aL.alt (hD:H Da=some (.lst ys)):∀{ds:List D}{vs:List V},aL K H ds vs->aL K (upd H Da (.lst zs)) ds vs
 |_,_,.nil=>.nil
 |_,_,.cons h r=>.cons (Rep.alt hD h) (aL.alt hD r)
end
theorem aS.alt (ok:aS K st H)(hD:H Da=some (.lst ys))(hn:st Da=none):aS K st (upd H Da (.lst zs)):=fun a o e=>by
 have ne:a≠Da:=fun z=>by rw[z,hn]at e;cases e
 have:=ok a o e
 cases o with
 |lst ds =>
 obtain⟨vs,q,r⟩:=this
 exact⟨vs,by rw[cA ne];exact q,r.alt hD⟩
 |dic _ _=>exact this.elim
 |ins c fs =>
 obtain⟨C,dx,ws,q,q2,q3,r⟩:=this
 exact⟨C,dx,ws,q,by rw[cA ne];exact q2,q3,r.alt hD⟩
 |tab ks vs =>
 obtain⟨xs,ws,q,q0,q1,q2,q3,q4,q5,r⟩:=this
 exact⟨xs,ws,by rw[cA ne];exact q,q0,q1,q2,q3.alt hD,q4,q5,r.alt hD⟩
theorem aS.take (ok:aS K st H)(hD:H Da=some (.lst ys)){ds:List D}(r:aL K H ds ys):aS K (put st Da (.lst ds)) H:=fun a o e=>by
 by_cases ha:a=Da
 ·subst ha
  rw[aN]at e;cases e
  exact⟨ys,hD,r⟩
 ·rw[aH ha]at e
  exact ok a o e
end
theorem TV {K:ab}{H:Hp}{σd:St}{σ:L2.St}(r:dO K H σd σ)(n:Nat)(bG:List Nat):dO K H (ai n none++bG.map fun i=>(σd[i]?).getD none) (ai n none++qA bG σ):=by
 refine⟨by simp [qA],fun i d e=>?_⟩
 by_cases hi:i<n
 ·rw[bq (by simpa using hi),g9]at e
  split at e<;>cases e
 ·rw[di (by simpa using hi)]at e ⊢
  simp only[ki,bc,dh]at e ⊢
  obtain⟨k,e1,e2⟩:=e
  cases q:σd[k]? with
  |none=>rw[q]at e2;cases e2
  |some u =>
   rw[q]at e2
   have e2:u=some d:=e2
   subst e2
   obtain⟨v,h1,h2⟩:=r.2 k d q
   refine⟨v,?_,h2⟩
   simp only[qA,bc,dh]
   exact⟨k,e1,by rw[h1];rfl⟩
end L3
end
section
namespace L3
open PySem PySem.Spec PyProof.Rows L2
theorem WR {P:br}{w:World}{H:Hp}{h h':Heap}{Ca:Addr}(ok:jF P w H h)(hn:H Ca=none)(hs:j9 Ca h h'):jF P w H h':=fun b u e=>by
 refine(ok b u e).B9 (fun c v hc q=>hs.extBut c v ?_ q) (fun _ q=>q) fun _ _ q=>q
 rcases hc with z|z
 ·rw[z];exact fun y=>by rw[y,hn]at e;cases e
 ·exact fun y=>by rw[y,hn]at z;cases z
section
variable {X:Cx}{C:bL}{sub:Nat->Nat->Bool}{elt iter tg:Expr}{ifs:List Expr}{xe:Ex}{mL aD:List Ex}{pos:Pos}{scope:Scope}{own cn:List Str}{bG:List Nat}{one:Bool}{k:Option IK}
theorem HA (hC:bY C C)(S:lY X scope cn bG)(hc:X.calm=true)(oN:one=true->own.length=1)
  (hg:∀ fp s H Ca,PG (mM X scope own cn fp s H Ca) tg (MP X.K one own.length))
  (hts:∀ fp s H Ca,HH (mM X scope own cn fp s H Ca) ifs (wO X.K (iM C sub EF mL)))
  (he:∀ fp s H Ca,PE (mM X scope own cn fp s H Ca) elt (bZ X.K (aI C sub EF xe)))
  {use:Option (Value->Sem Unit)}{Qf:Value->af->Prop}
  {pins:List (Addr×Obj)}{s₂:af}{σ:L2.St}{σd:St}{H1:Hp}{aC:aB}{J:It}{fp:List Addr}{it:Addr}{tn:Nat->Heap->Prop}{as:List Nat}{xs:List D}{R:List D->aB->Prop}
  (I2:Inv X pins σ H1 s₂)(T:Turn X.prog X.w X.K tg J fp it tn)(t0:tn 0 s₂.heap)(f2:∀ b∈fp,nD X pins H1 b)(r:dO X.K H1 σd σ)(aP:aS X.K aC H1)(j:BO X.K J as xs H1 aC)
  (q:jQ (same as aC) (fun x aG K=>kQ one (a9 own.length) x (ai own.length none++bG.map fun i=>(σd[i]?).getD none) fun σ' =>
    iM C sub EF mL σ' aG fun b aV=>if b=true then aI C sub EF xe σ' aV fun d cH=>K (some d) cH else K none aV) xs [] aC R)
  (fin:∀(Da Ca:Addr)(H':Hp)(aA:aB)(ds:List D)(m:Str->Option Value)(s':af),s'.heap.Ns Ca m->(∀ h',j9 Ca s'.heap h'->Inv X pins σ H' { s' with heap:=h' })->Inv X pins σ H' s'->Ca≠X.env.locals->(∀ x c,X.env.cells.lookup x=some c->c≠Ca)->Ca∉X.fs->X.s₀.heap.objs.size<=Ca->(∀ p∈X.pn++pins,p.1≠Ca)->H' Ca=none->Step H1 aC H' aA->aS X.K (put aA Da (.lst ds)) H'->H1 Da=none->aA Da=none->R ds aA ->
   Sh (model X.prog X.w) X.A X.xe use Qf (.ref Da) Ca (.ok .next) s'):
  wpAny (model X.prog X.w) X.A (newList []) (fun acc s₃ =>
   wpAny (model X.prog X.w) X.A (newFunctionEnv scope X.env.globals (nH X.env.cells scope.names []) [] X.env.qual none .none (some X.env)) (fun cenv s₄ =>
    kv (model X.prog X.w) X.A (.compStart (.ListComp elt [⟨tg,iter,ifs,0⟩] scope pos) 0 (.ref it) acc { cenv with scope:=relabel scope X.env }) (Sh (model X.prog X.w) X.A X.xe use Qf acc cenv.locals) s₄) X.xe s₃) X.xe s₂:=by
 have hD1:H1 s₂.heap.objs.size=none:=I2.fresh
 obtain⟨tf,htf0⟩:∃ tf:D->aB->(Option D->aB->Prop)->Prop,tf=fun x aG K=>kQ one (a9 own.length) x (ai own.length none++bG.map fun i=>(σd[i]?).getD none) fun σ' =>
    iM C sub EF mL σ' aG fun b aV=>if b=true then aI C sub EF xe σ' aV fun d cH=>K (some d) cH else K none aV:=⟨_,rfl⟩
 have htf:∀ x aG (K:Option D->aB->Prop),tf x aG K->kQ one (a9 own.length) x (ai own.length none++bG.map fun i=>(σd[i]?).getD none) fun σ' =>
    iM C sub EF mL σ' aG fun b aV=>if b=true then aI C sub EF xe σ' aV fun d cH=>K (some d) cH else K none aV:=fun x aG K h=>by rw[htf0]at h;exact h
 rw[<-htf0]at q
 refine gk ?_
 have I3:=I2.U2 (aD:=[]) (ys:=[]) (t':=s₂.toks) .nil (cu _)
 generalize hS3:({ s₂ with heap:=s₂.heap.push { cls:=.type "list", dict:=none,data:=.seq ([]:List Value).toArray } }:af)=s₃
 have I3:Inv X pins σ (upd H1 s₂.heap.objs.size (.lst [])) s₃:=by rw[<-hS3];exact I3
 have lt3:s₂.heap.objs.size<s₃.heap.objs.size:=by rw[<-hS3];show _<(s₂.heap.push _).objs.size;rw[jm];exact f9 _
 have old3:∀ b o,s₂.heap.get? b=some o->s₃.heap.get? b=some o:=fun b o e=>by rw[<-hS3];exact ak _ e
 generalize hDa:s₂.heap.objs.size=Da at *
 have hlt2:∀ b∈fp,b<Da:=fun b hb=>by
  obtain⟨o,e,_⟩:=T.obj _ _ t0 b hb
  rw[<-hDa];exact bo e
 have f3:∀ b∈fp,nD X pins (upd H1 Da (.lst [])) b:=fun b hb=>⟨by rw[cA (cb (hlt2 b hb))];exact(f2 b hb).1,(f2 b hb).2⟩
 have hlt3:∀ b∈fp,b<s₃.heap.objs.size:=fun b hb=>Rt (hlt2 b hb) lt3
 refine wpAny_newFunctionEnv S.nocell (by intro y hy;simp at hy) (fun h₁ hns hsb=>?_) S.kind
 have keep1:∀ b o,s₃.heap.get? b=some o->h₁.get? b=some o:=fun b o e=>hsb.extBut b o (cb (bo e)) (ak _ e)
 have t1:tn 0 h₁:=T.keep _ _ _ t0 fun b hb o e=>keep1 b o (old3 b o e)
 have B0:=MC (own:=own) S hc I3 f3 hlt3 (bb _) (tk:=s₃.toks+([]:List (Str×Value)).length) hns keep1
 generalize hXc:mM X scope own cn fp s₃ (upd H1 Da (.lst [])) s₃.heap.objs.size=Xc at B0
 have hgc:PG Xc tg (MP X.K one own.length):=by rw[<-hXc];exact hg _ _ _ _
 have htc:HH Xc ifs (wO X.K (iM C sub EF mL)):=by rw[<-hXc];exact hts _ _ _ _
 have hec:PE Xc elt (bZ X.K (aI C sub EF xe)):=by rw[<-hXc];exact he _ _ _ _
 have eP:Xc.prog=X.prog:=by rw[<-hXc];rfl
 have eW:Xc.w=X.w:=by rw[<-hXc];rfl
 have eK:Xc.K=X.K:=by rw[<-hXc];rfl
 have eA:Xc.A=X.A:=by rw[<-hXc];rfl
 have eX:Xc.xe=fun _ _=>False:=by rw[<-hXc];rfl
 have eN:Xc.env=compEnvC scope (nH X.env.cells scope.names []) s₃.heap.objs.size X.env:=by rw[<-hXc];rfl
 have eL:Xc.env.locals=s₃.heap.objs.size:=by rw[eN];rfl
 have eC:Xc.calm=true:=by rw[<-hXc];rfl
 have fC:∀{H':Hp},(∀ b∈fp,H' b=none)->∀ b∈fp,nD Xc [] H' b:=fun{H'} hn b hb=>by
  have ok:=B0.ok
  refine⟨hn b hb,by rw[eL];exact cb (hlt3 b hb),ok.exfs b (by rw[<-hXc];exact hb),.inl (by rw[<-hXc];exact hb),fun x c e=>(ok.exf b (by rw[<-hXc];exact hb)).2 x c e,fun p hp=>?_⟩
  have:p∈([]:List (Addr×Obj)):=by rw[<-hXc]at hp;exact hp
  cases this
 have capsRel:∀{H':Hp}{aA:aB},Step H1 aC H' aA->dO X.K H' (ai own.length none++bG.map fun i=>(σd[i]?).getD none) (ai own.length none++qA bG σ):=fun s'=>(TV r _ _).step aP s'
 have loop:∀ s4:af,s4 = { s₃ with heap:=h₁,toks:=s₃.toks+([]:List (Str×Value)).length }->kv (model X.prog X.w) X.A (.compLoop (.ListComp elt [⟨tg,iter,ifs,0⟩] scope pos) 0 (.ref it) (.ref Da) Xc.env) (Sh (model X.prog X.w) X.A X.xe use Qf (.ref Da) s₃.heap.objs.size) s4:=by
  rintro s4 rfl
  refine JL (fun n s'=>∃ i H' aA ds ys,n+i=xs.length/\Inv Xc [] (ai own.length none++qA bG σ) H' s'/\tn i s'.heap/\(∀ b∈fp,H' b=none)/\Step H1 aC H' aA/\aS X.K aA H'/\H' Da=some (.lst ys)/\aA Da=none/\aL X.K H' ds ys /\
   jQ (same as aC) tf (xs.drop i) ds aA R) ?_ xs.length
   ⟨0,_,aC,[],[],rfl,B0,t1,fun b hb=>(f3 b hb).1,sE hD1,aP.new hD1,eI,aP.fresh hD1,.nil,by simpa using q⟩
  rintro n s' ⟨i,H',aA,ds,ys,hni,I',ti,fr',dC,gG,hD',hst',rs,q'⟩
  by_cases hi:i<xs.length
  ·-- a turn
   have ed:xs.drop i=xs[i]::xs.drop (i+1):=bw hi
   rw[ed]at q'
   obtain⟨g1,gl,q'⟩:=q'
   have hx:xs[i]? = some xs[i]:=aj hi
   have hpn:=T.item Xc eP eW eK eC i [] s' _ H' (fun _ _=>False) I' (fC fr') ti (j.go i H' aA xs[i] dC gG g1 hx)
   rw[eA]at hpn
   refine bE hpn fun rr s5 ⟨u,hu,h5⟩=>?_
   subst hu
   refine bE h5 fun _ s6 ⟨v,H6,I6,rv,y6,t6,fr6⟩=>?_
   obtain⟨s6s,Fz,rd⟩:=j.yld i H' aA xs[i] v H6 dC gG g1 hx y6
   have D6:=s6s Da _ hD' hst'
   have I6':=I6.pinned (fC fr6) (T.obj _ _ t6)
   have hasg:=hgc _ s6 _ H6 v u (fun σ2 H2=>∃ tU,H2=H6/\dO X.K H6 tU σ2/\(∀ i,own.length<=i->σ2[i]? = (ai own.length none++qA bG σ)[i]?)/\σ2.length=(ai own.length none++qA bG σ).length /\
    iM C sub EF mL tU aA fun b aV=>if b=true then aI C sub EF xe tU aV fun d cH=>jQ (same as aC) tf (xs.drop (i+1)) (ds++[d]) cH R else jQ (same as aC) tf (xs.drop (i+1)) ds aV R) I6' rv
    (OM oN (htf _ _ _ q') ((capsRel dC).step gG s6s) rd fun σ2 tU r2 p2 k2 l2=>⟨tU,rfl,r2,k2,l2,p2⟩)
   rw[eP,eW,eA,eX]at hasg
   refine bE hasg fun _ s7 ⟨σ2,H7,I7,tU,e7,r7,k7,l7,q7⟩=>?_
   subst e7
   have hte:=htc _ s7 σ2 H7 _ I7 ⟨tU,aA,_,r7,Fz,q7,fun b H' z=>z⟩
   rw[eP,eW,eA,eX]at hte
   have again:∀{H8:Hp}{s8:af}{fD:aB}{ds8:List D}{ys8:List V},Inv Xc ([]++yW fp s6.heap) σ2 H8 s8->Step H1 aC H8 fD->aS X.K fD H8->H8 Da=some (.lst ys8)->fD Da=none->aL X.K H8 ds8 ys8->jQ (same as aC) tf (xs.drop (i+1)) ds8 fD R ->
     ∃ m,m<n/\∃ i H' aA ds ys,m+i=xs.length/\Inv Xc [] (ai own.length none++qA bG σ) H' s8/\tn i s8.heap/\(∀ b∈fp,H' b=none)/\Step H1 aC H' aA/\aS X.K aA H'/\H' Da=some (.lst ys)/\aA Da=none/\aL X.K H' ds ys/\jQ (same as aC) tf (xs.drop i) ds aA R:=fun{H8 s8 fD ds8 ys8} I8 s8s SO hD8 hs8 rs8 q8=>by
    have pinned:∀ b∈fp,∀ o,s6.heap.get? b=some o->s8.heap.get? b=some o/\H8 b=none:=fun b hb o e=>by
     have:=I8.pin (b,o) (ek _ (ek _ (wB hb e)))
     exact⟨this.1,this.2.1⟩
    refine⟨n-1,by omega,i+1,H8,fD,ds8,ys8,by omega,?_,T.keep _ _ _ t6 fun b hb o e=>(pinned b hb o e).1,fun b hb=>?_,s8s,SO,hD8,hs8,rs8,q8⟩
    ·refine I8.xG.weak (by rw[l7]) fun i0 v0 e0=>?_
     by_cases hi0:i0<own.length
     ·rw[bq (by simpa using hi0),g9]at e0
      split at e0<;>cases e0
     ·rw[k7 i0 (by omega)];exact e0
    ·obtain⟨o,e,_⟩:=T.obj _ _ t6 b hb
     exact(pinned b hb o e).2
   have s17:=dC.trans s6s
   have rs7:=rs.step gG s6s
   refine bE hte fun b s8 ⟨H8,I8,fD,s8s,SO,q8⟩=>?_
   have D8:=s8s Da _ D6.1 D6.2
   have rs8:=rs7.step Fz s8s
   cases b with
   |false=>exact again I8 (s17.trans s8s) SO D8.1 D8.2 rs8 q8
   |true =>
    have hel:=hec _ s8 σ2 H8 _ I8 ⟨tU,fD,_,r7.step Fz s8s,SO,q8,fun v H' z=>z⟩
    rw[eP,eW,eA,eX]at hel
    refine bE hel fun u9 s9 ⟨v9,H9,I9,rv9,d9,kT,s9s,Pz,rd9,q9⟩=>?_
    have D9:=s9s Da _ D8.1 D8.2
    have rs9:=rs8.step SO s9s
    have hap:=L2.sT _ s9 σ2 H9 (.ref Da) [v9] (.ref Da) [u9] (fun _ H'=>H'=upd H9 Da (.lst (ys++[v9]))) I9 rfl (.cons rv9 .nil) ⟨Da,ys,v9,rfl,rfl,D9.1,by rw[fQ,<-rs9.length];exact gl,rfl⟩
    rw[eP,eW,eA,eX]at hap
    refine bE hap fun _ s10 ⟨_,H10,I10,_,e10⟩=>?_
    subst e10
    refine again I10 (fun a o e0 n0=>?_) (Pz.alt D9.1 D9.2) eI D9.2 ((rs9.append (.cons rd9 .nil)).alt D9.1) q9
    have:=((s17.trans s8s).trans s9s) a o e0 n0
    exact⟨by rw[cA (iQ e0 hD1)];exact this.1,this.2⟩
  ·-- the end
   have ed:xs.drop i=[]:=fk (by omega)
   rw[ed]at q'
   have hpn:=T.done Xc eP eW eK eC i [] s' _ H' (fun _ _=>False) I' (fC fr') ti (j.stop i H' aA dC gG q'.1 (by omega))
   rw[eA]at hpn
   refine bE hpn fun rr s5 ⟨hr,I5⟩=>?_
   subst hr
   have un5:Un (yK X.stack) fp (upd H1 Da (.lst [])) H' s₃.heap s5.heap:=by have:=I5.base;rw[<-hXc]at this;exact this
   have os5:s5.os=s₃.os:=by have:=I5.os;rw[<-hXc]at this;exact this
   have fC5:H' s₃.heap.objs.size=none:=by have:=I5.free;rw[eL]at this;exact this
   have hch:∀ b∈fp,(b∈X.ex∨X.s₀.heap.objs.size<=b)/\b≠X.env.locals/\(∀ x c,X.env.cells.lookup x=some c->c≠b)/\∀ p∈X.pn++pins,p.1≠b:=fun b hb=>⟨(f2 b hb).2.2.2.1,(f2 b hb).2.1,(f2 b hb).2.2.2.2.1,(f2 b hb).2.2.2.2.2⟩
   have hok5:jF X.prog X.w H' s5.heap:=by have:=I5.cG;rw[eP,eW]at this;exact this
   have Iall:∀ h',(∀ b o,b≠s₃.heap.objs.size->s5.heap.get? b=some o->h'.get? b=some o)->jF X.prog X.w H' h'->Inv X pins σ H' { s5 with heap:=h' }:=fun h' kk cG=>by
    have ne:∀ b o,s₃.heap.get? b=some o->b≠s₃.heap.objs.size:=fun b o e=>cb (bo e)
    refine I3.Ha (s':={ s5 with heap:=h' }) (ch:=fp) os5 ⟨fun b o e n hb hx=>kk b o (ne b o e) (un5.keep b o e n hb hx),fun b o e n hb hx=>?_,un5.free,fun b o e hx=>?_,un5.xM,un5.uD,un5.xN⟩ cG I5.bare hch
    ·obtain⟨sl,e'⟩:=un5.slot b o e n hb hx
     exact⟨sl,kk b _ (ne b o e) e'⟩
    ·obtain⟨o',e'⟩:=un5.there b o e hx
     exact⟨o',kk b o' (ne b o e) e'⟩
   obtain⟨m5,ns5,_⟩:=I5.loc
   rw[eL]at ns5
   refine fin Da s₃.heap.objs.size H' aA ds m5 s5 ns5 (fun h' hs=>Iall h' (fun b o hb e=>hs.extBut b o hb e) (WR hok5 fC5 hs)) (Iall s5.heap (fun b o _ e=>e) hok5) (pw I3.lt) (fun x c e=>?_) (I3.Cc (bb _)) I3.sz (fun p hp=>cb (bo (I3.pin p hp).1)) fC5 dC (gG.take hD' rs) hD1 hst' q'.2
   obtain⟨v,o,ho,_⟩:=I3.cell x c e
   exact cb (bo ho)
 have hl:=loop _ rfl
 rw[eN]at hl
 exact codeAny_compStart_list hl (T.self X.A 0 _ _ _ t1 hl)
theorem K9 {H H1 H':Hp}{st aC aA:aB}{Da:Addr}{o:MO}(s1:Step H st H1 aC)(s2:Step H1 aC H' aA)(hD:H1 Da=none):Step H st H' (put aA Da o):=fun a u e n=>by
 have e1:=s1 a u e n
 have e2:=s2 a u e1.1 e1.2
 exact⟨e2.1,by rw[aH (iQ e1.1 hD)];exact e2.2⟩
theorem Cf (hC:bY C C)(S:lY X scope cn bG)(hc:X.calm=true)(oN:one=true->own.length=1)
 (hi:PI X tg iter (CO X.K fun σ st M=>bU C sub EF aD σ st fun ds aC=>gN k ds aC fun as xs=>M as xs aC))
 (hg:∀ fp s H Ca,PG (mM X scope own cn fp s H Ca) tg (MP X.K one own.length))
 (hts:∀ fp s H Ca,HH (mM X scope own cn fp s H Ca) ifs (wO X.K (iM C sub EF mL)))
 (he:∀ fp s H Ca,PE (mM X scope own cn fp s H Ca) elt (bZ X.K (aI C sub EF xe)))
 (hs:∀ x,gg iter X.env x=pure x):
 PE X (.ListComp elt [⟨tg,iter,ifs,0⟩] scope pos) (bZ X.K (aI C sub EF (.comp own.length bG (a9 own.length) one k aD mL xe))):=by
 intro pins s σ H Q I ⟨σd,st,R,r,ok,q,hq⟩
 rw[eval_ListComp]
 refine rz (use:=none) rfl hs (yA (S.cells I.ok)) S.kind S.names ?_
 refine bE (hi pins s σ H _ I ⟨σd,st,_,r,ok,q,fun J H1 z=>z⟩) fun v s1 h1=>bE h1 fun itv s2 h2=>?_
 obtain⟨it,fp,tn,J,H1,rfl,I2,T,t0,f2,as,xs,aC,dC,aP,j,q1⟩:=h2
 refine HA (use:=none) hC S hc oN hg hts he I2 T t0 f2 (r.step ok dC) aP j q1 ?_
 intro Da Ca H' aA ds m s' hns qD hI _ _ _ _ _ _ gM okp hD1 hst' hR
 exact⟨m,hns,fun h' hh=>⟨.ref Da,H',qD h' hh,rfl,hq _ _ ⟨.ref Da,_,K9 dC gM hD1,okp,.ref Da,hR.2 Da hst'⟩⟩⟩
theorem Dd {i:Nat}{y:Str}{py spos:Pos}(hC:bY C C)(S:lY X scope cn bG)(hc:X.calm=true)(oN:one=true->own.length=1)
  (hi:PI X tg iter (CO X.K fun σ st M=>bU C sub EF aD σ st fun ds aC=>gN k ds aC fun as xs=>M as xs aC))
  (hg:∀ fp s H Ca,PG (mM X scope own cn fp s H Ca) tg (MP X.K one own.length))
  (hts:∀ fp s H Ca,HH (mM X scope own cn fp s H Ca) ifs (wO X.K (iM C sub EF mL)))
  (he:∀ fp s H Ca,PE (mM X scope own cn fp s H Ca) elt (bZ X.K (aI C sub EF xe)))
  (hN:X.N.Nodup)(hy:X.N[i]? = some y)(hx:Loc X.env.scope y)(hf:X.fn y=true∨X.env.scope.names.lookup y=some .local)
  (hsw:ku (.ListComp elt [⟨tg,iter,ifs,0⟩] scope pos) (some (.Name y py)) spos.line X.env=pure true)
  (hs:∀ x,gg iter X.env x=pure x):
  PS X (.Assign [.Name y py] (.ListComp elt [⟨tg,iter,ifs,0⟩] scope pos) spos) (iL X.K (wpS C sub (.asg (.nm i) (.comp own.length bG (a9 own.length) one k aD mL xe)))):=by
 intro pins s σ H D I ⟨σd,st,P,r,ok,q,h⟩
 have q:=rS hC h.ex q
 rw[exec_Assign_Name_used _ _ _ _ hsw]
 refine ae (oe (ae ?_))
 show wpAny _ X.A (do let _ <-comprehension (.ListComp elt [⟨tg,iter,ifs,0⟩] scope pos) scope X.env _ (newList []) false (eval iter X.env) (some (lj (.Name y py) X.env))) _ _ s
 refine ae (j2 (rz (use:=some (lj (.Name y py) X.env)) (Q:=fun _ s'=>SP X pins D .next s') rfl hs (yA (S.cells I.ok)) S.kind S.names ?_) (fun _ s' hq=>ao (ao hq)) fun _ _ e=>e)
 refine bE (hi pins s σ H _ I ⟨σd,st,_,r,ok,q,fun J H1 z=>z⟩) fun v s1 h1=>bE h1 fun itv s2 h2=>?_
 obtain⟨it,fp,tn,J,H1,rfl,I2,T,t0,f2,as,xs,aC,dC,aP,j,q1⟩:=h2
 refine HA (use:=some (lj (.Name y py) X.env)) hC S hc oN hg hts he I2 T t0 f2 (r.step ok dC) aP j q1 ?_
 intro Da Ca H' aA ds m s' hns qD hI hL hcl hfs iZ hpins hn gM okp hD1 hst' hR
 show wpAny _ X.A (lj (.Name y py) X.env (.ref Da)) _ _ _
 refine yk (GH hI hN hy hx (v:=.ref Da) rfl (fun s'' I'' kk=>?_) hf)
 obtain⟨ad,sb,had⟩:=kk
 have nad:Ca≠ad:=fun z=>by
  rcases had with e|e
  ·exact hL (z.trans e)
  ·exact hcl y ad e z.symm
 refine⟨m,hns.at' fun o e=>(sb.2 Ca nad).trans e,fun h' hh=>?_⟩
 refine⟨σ.set i (some (.ref Da)),H',I''.turned (t':=s''.toks) (fun b o hb e=>hh.extBut b o hb e) hn hL (.inr iZ) hcl hpins,?_⟩
 have aV:=K9 (o:=.lst ds) dC gM hD1
 exact h.nx _ _ _ _ ((r.step ok aV).set i (.ref Da)) aV okp (hR.2 Da hst')
end
end L3
end
section
namespace L3
open PySem PySem.Spec PyProof.Rows L2
theorem SE {K:ab}{H:Hp}{ds:List D}{vs:List V}(r:aL K H ds vs){N:List Str}{np:Nat}(h:ds.length=np):dO K H (start np N.length ds) (L2.start N vs):=by
 refine⟨by simp [start,L2.start,r.length,<-h],fun i d e=>?_⟩
 unfold start at e
 by_cases hi:i<ds.length
 ·rw[bq (by simpa using hi),bc,dh]at e
  obtain⟨d',e1,e2⟩:=e
  cases e2
  obtain⟨v,e3,e4⟩:=r.get e1
  refine⟨v,?_,e4⟩
  unfold L2.start
  rw[bq (by rw[aa,<-r.length];exact hi),bc,e3];rfl
 ·rw[di (by simpa using hi),g9]at e
  split at e<;>cases e
theorem XQ {P:br}{w:World}{K:ab}{mg:Str->Option Value}{base:Heap}{G:Prog}{f:Nat}{a:Addr}{fd:gw}{ps:List Str}:fA P w K mg base iD 0 a fd ps (fN K (aO G 0) f):=by
 have no:∀ vs H Q E,¬fN K (aO G 0) f vs H Q E:=fun vs H Q E ⟨_,_,_,_,_,h,_⟩=>h
 exact⟨fun vs H Q E h=>absurd h (no vs H Q E),fun A outer s H args us vs Q E _ _ _ _ h=>absurd h (no vs H Q E)⟩
theorem Ah {K:ab}{G:Prog}{k f:Nat}(h:∀ ns:List Int,ns.length<=63->aO G k f [.bP (ns.map .int)] (fun _=>none) (fun d _=>d=.bl true) fun _ _=>False)(H:Hp)(a:Addr)(ns:List Int)(hl:ns.length<=63)(hO:NQ H)(hS:dQ K H a (ns.map V.int)):
  fN K (aO G k) f [.ref a] H (fun v _=>v=.bl true) fun _ _ _=>False:=by
 have hF:rO K H a (ns.map V.int):=by
  rcases hS with(e|⟨o,e⟩)|e
  ·rcases hO a with z|⟨o,xs,z⟩
   ·rw[z]at e;cases e
   ·rw[z]at e;cases e
  ·exact .inl ⟨o,e⟩
  ·exact .inr e
 have ri:∀ ns:List Int,aL K H (ns.map .int) (ns.map V.int):=fun ns=>by
  induction ns with
  |nil=>exact .nil
  |cons i r ih=>exact .cons (.int i) ih
 refine⟨[.bP (ns.map .int)],fun _=>none,fun d _=>d=.bl true,.cons (.bP hF (ri ns)) .nil,fun a o e=>(by cases e),h ns hl,fun v H' ⟨d,aA,_,_,r,q⟩=>?_⟩
 subst q
 exact r.fL
end L3
end
section
namespace L3
open PySem PySem.Spec PyProof.Rows L2
theorem cU:cf "len" = some (.builtin "len"):=by decide +kernel
theorem rG:cf "all" = some (.builtin "all"):=by decide +kernel
theorem SJ:cf "any" = some (.builtin "any"):=by decide +kernel
theorem R4:cf "sum" = some (.builtin "sum"):=by decide +kernel
theorem HP:cf "isinstance" = some (.builtin "isinstance"):=by decide +kernel
theorem Ee:cf "int" = some (.type "int"):=by decide +kernel
theorem R6:cf "str" = some (.type "str"):=by decide +kernel
theorem W3:cf "bool" = some (.type "bool"):=by decide +kernel
theorem A3:cf "list" = some (.type "list"):=by decide +kernel
theorem dZ:cf "tuple" = some (.type "tuple"):=by decide +kernel
theorem Dj:cf "set" = some (.type "set"):=by decide +kernel
theorem LV:cf "reversed" = some (.type "reversed"):=by decide +kernel
theorem T5:cf "range" = some (.type "range"):=by decide +kernel
noncomputable def JR:Ty->String
 |.int =>"int"
 |.str =>"str"
 |.bool =>"bool"
 |.list =>"list"
 |.tuple =>"tuple"
 |.dict =>"dict"
 |.err _ =>"?"
noncomputable def HR:Ty->Bool
 |.err _=>false
 |_=>true
section
variable {X:Cx}{pins:List (Addr×Obj)}{σ:L2.St}{H:Hp}{s:af}{st:aB}{sub:Nat->Nat->Bool}
noncomputable abbrev Cw (X:Cx)(s:af)(u:Value)(t:Ty)(b:Bool):Prop:=∀(A:cg)(Q:Value->af->Prop)(E:Value->af->Prop),(∀ tk,Q (.bool b) { s with toks:=tk })->wpAny (model X.prog X.w) A (call (.builtin "isinstance") [u,.type (JR t)]) Q E s
theorem A1 {a:Addr}(I:Inv X pins σ H s)(h:∃ o,s.heap.get? a=some o/\o.cls=.type "list"){t:Ty}{b:Bool}(e:Qu X.K (.type "list") (.type (JR t))=some b):Cw X s (.ref a) t b:=fun A Q E hQ =>
 f6 PySem.W.kitx_list I.kG h e (fun z=>nomatch z) hQ
theorem NC {a:Addr}(I:Inv X pins σ H s)(h:∃ o,s.heap.get? a=some o/\o.cls=.type "tuple"){t:Ty}{b:Bool}(e:Qu X.K (.type "tuple") (.type (JR t))=some b):Cw X s (.ref a) t b:=fun A Q E hQ =>
 f6 PySem.W.kitx_tuple I.kG h e (fun z=>nomatch z) hQ
theorem RM {d:D}{v:V}{u:Value}{t:Ty}{P:Bool->Prop}(I:Inv X pins σ H s)(ok:aS X.K st H)(r:Rep X.K H d v)(rv:RelV v u)(ht:HR t=true)(h:jW sub d st t P):∃ b,P b/\Cw X s u t b:=by
 cases d with
 |non =>
  cases r.fR;cases rv
  refine⟨false,by cases t<;>exact h,fun A Q E hQ=>f6 PySem.W.kitx_none I.kG cv ?_ (fun z=>nomatch z) hQ⟩
  cases t<;>first|rfl|cases ht
 |bl k =>
  cases r.fL;cases rv
  cases t with
  |bool=>exact⟨true,h,fun A Q E hQ=>f6 rk I.kG cv rfl (fun z=>nomatch z) hQ⟩
  |int=>exact⟨true,h,fun A Q E hQ=>f6 rk I.kG cv rfl (fun z=>nomatch z) hQ⟩
  |err _=>cases ht
  |_=>exact⟨false,h,fun A Q E hQ=>f6 rk I.kG cv rfl (fun z=>nomatch z) hQ⟩
 |int k =>
  cases r.int_inv;obtain⟨tk,rfl⟩:=rv
  cases t with
  |int=>exact⟨true,h,fun A Q E hQ=>f6 zm I.kG cv rfl (fun z=>nomatch z) hQ⟩
  |err _=>cases ht
  |_=>exact⟨false,h,fun A Q E hQ=>f6 zm I.kG cv rfl (fun z=>nomatch z) hQ⟩
 |str k =>
  cases r.str_inv;obtain⟨tk,rfl⟩:=rv
  cases t with
  |str=>exact⟨true,h,fun A Q E hQ=>f6 zo I.kG cv rfl (fun z=>nomatch z) hQ⟩
  |err _=>cases ht
  |_=>exact⟨false,h,fun A Q E hQ=>f6 zo I.kG cv rfl (fun z=>nomatch z) hQ⟩
 |tup ds =>
  obtain⟨a,vs,rfl,f,g⟩:=r.bS
  cases rv
  obtain⟨aD,_,⟨o,h1,h2,_⟩,_⟩:=I.tuple f
  cases t with
  |tuple=>exact⟨true,h,NC I ⟨o,h1,h2⟩ rfl⟩
  |err _=>cases ht
  |_=>exact⟨false,h,NC I ⟨o,h1,h2⟩ rfl⟩
 |ref a =>
  cases r.cP
  cases rv
  have key:∃ ds,st a=some (.lst ds):=by
   cases e:st a with
   |none=>exfalso;cases t<;>first|(simp only[jW,eR,e]at h)|cases ht
   |some o =>
    cases o with
    |lst ds=>exact⟨ds,rfl⟩
    |dic _ _=>exact(ok a _ e).elim
    |ins _ _=>exfalso;cases t<;>first|(simp only[jW,eR,e]at h)|cases ht
    |tab _ _=>exfalso;cases t<;>first|(simp only[jW,eR,e]at h)|cases ht
  obtain⟨ds,e⟩:=key
  obtain⟨vs,g1,_⟩:=ok.lst e
  obtain⟨_,aD,n,_,_,e1⟩:=I.wM g1
  have ho:∃ o,s.heap.get? a=some o/\o.cls=.type "list":=⟨_,e1,rfl⟩
  cases t with
  |list=>simp only[jW]at h;rw[cN e]at h;exact⟨true,h,A1 I ho rfl⟩
  |err _=>cases ht
  |_=>simp only[jW]at h;rw[cN e]at h;exact⟨false,h,A1 I ho rfl⟩
 |bP ds =>
  obtain⟨a,vs,rfl,f,g⟩:=r.lC
  cases rv
  obtain⟨aD,_,p,_⟩:=I.list f.sq
  obtain⟨o,h1,h2,_⟩:=p.isList
  cases t with
  |list=>exact⟨true,h,A1 I ⟨o,h1,h2⟩ rfl⟩
  |err _=>cases ht
  |_=>exact⟨false,h,A1 I ⟨o,h1,h2⟩ rfl⟩
 |dA _ _=>cases t<;>exact(show False from h).elim
 |exc c=>cases r
end
section
variable {X:Cx}{C:bL}{sub:Nat->Nat->Bool}{E:XK}{a:Expr}{x:Ex}{p p2 pos:Pos}
noncomputable def Nv (K:ab)(sub:Nat->Nat->Bool)(t:Ty):List V->Hp->L2.VK->Prop:=fun vs H Q=>∃ d v st R,vs=[v,.ty (JR t)]/\Rep K H d v/\aS K st H/\jW sub d st t (fun b=>R (.bl b) st)/\∀ v H',QD K H st R v H'->Q v H'
theorem TM {t:Ty}(ht:HR t=true):wH X (.builtin "isinstance") (Nv X.K sub t):=by
 intro pins s σ H vs us Q I rv h
 obtain⟨d,v,st,R,rfl,r,ok,h,hq⟩:=h
 cases rv with|cons r1 r2=>cases r2 with|cons r2 r3 =>
 cases r3
 cases r2
 obtain⟨b,hb,hi⟩:=RM I ok r r1 ht h
 exact hi X.A _ _ fun tk=>⟨.bl b,H,I.tok tk,rfl,hq _ _ (.here ok (.bl b) hb)⟩
theorem Jt {t:Ty}{n:Str}(ht:HR t=true)(hg:Gl X "isinstance")(hm:X.mg "isinstance" = none)(hg2:Gl X n)(hm2:X.mg n=none)(hv2:cf n=some (.type (JR t)))(ha:PE X a (bZ X.K (aI C sub E x)))
 (hn2:n ≠"__name__")(hd2:(n==("__debug__" : Str))=false)(he:ar [a,.Name n p2] X.env=(false,eval a X.env)::ar [.Name n p2] X.env)(he2:ar [.Name n p2] X.env=[(false,eval (.Name n p2) X.env)])(dB:(dq pos (ar [.Name n p2] X.env)).any (·.1)=false):
 PE X (.Call (.Name "isinstance" p) [a,.Name n p2] [] pos) (bZ X.K (aI C sub E (.isi x [t]))) :=
 (IW (TM (sub:=sub) ht) hg hm HP (EM ha (EM (ZC hg2 hm2 hv2 (v:=.ty (JR t)) rfl hn2 hd2) QU he2) he) (by decide) (by decide) he dB).imp fun σ H Q ⟨σd,st,R,r,ok,q,hq⟩=>by
 refine⟨σd,st,_,r,ok,q,fun v H1 ⟨d,aC,s1,aP,r1,q1⟩=>?_⟩
 exact⟨d,v,aC,R,rfl,r1,aP,q1,fun v H' z=>hq _ _ (.after s1 z)⟩
theorem Ip {t:String}{j:Nat}(h:j0 t=⟨(W t).toArray⟩):PE X (.Constant (.str (j0 t)) j pos) (bZ X.K (aI C sub E (.c (.str (W t))))) :=
 vJ Bn fun H=>by rw[h];exact .str _
end
end L3
end
section
namespace L3
open PySem PySem.Spec PyProof.Rows L2
structure JE (X:Cx)(C:bL)(sub:Nat->Nat->Bool)(E:XK)(e:Expr)(x:Ex):Prop where
 h:PE X e (bZ X.K (aI C sub E x))
structure JT (X:Cx)(C:bL)(sub:Nat->Nat->Bool)(E:XK)(e:Expr)(x:Ex):Prop where
 h:PT X e (jS X.K (aI C sub E x))
structure JW (X:Cx)(C:bL)(sub:Nat->Nat->Bool)(E:XK)(e:Expr)(x:Ex):Prop where
 h:PW X e (jS X.K (aI C sub E x))
structure JA (X:Cx)(C:bL)(sub:Nat->Nat->Bool)(E:XK)(es:List Expr)(xs:List Ex):Prop where
 h:PA X es (lQ X.K (bU C sub E xs))
structure JO (X:Cx)(C:bL)(sub:Nat->Nat->Bool)(E:XK)(e:Option Expr)(xs:List Ex):Prop where
 h:PO X e (E7 X.K (bU C sub E xs))
structure JI (X:Cx)(C:bL)(sub:Nat->Nat->Bool)(E:XK)(tg e:Expr)(k:Option IK)(xs:List Ex):Prop where
 h:PI X tg e (CO X.K fun σ st M=>bU C sub E xs σ st fun ds aC=>gN k ds aC fun as ys=>M as ys aC)
structure JG (X:Cx)(C:bL)(sub:Nat->Nat->Bool)(E:XK)(tg:Expr)(t:Tg):Prop where
 h:PG X tg (JH X.K (nI C sub E t))
structure JN (X:Cx)(tg:Expr)(i:Nat):Prop where
 h:PG X tg (DQ i)
structure RK (X:Cx)(es:List Expr)(is:List Nat):Prop where
 h:CY X es (uX is)
structure JB (X:Cx)(tg:Expr)(one:Bool)(n:Nat):Prop where
 h:PG X tg (MP X.K one n)
structure JQ (X:Cx)(C:bL)(sub:Nat->Nat->Bool)(E:XK)(es:List Expr)(xs:List Ex):Prop where
 h:HH X es (wO X.K (iM C sub E xs))
structure JS (X:Cx)(C:bL)(sub:Nat->Nat->Bool)(s:Stmt)(x:Sx):Prop where
 h:PS X s (iL X.K (wpS C sub x))
structure BU (X:Cx)(C:bL)(sub:Nat->Nat->Bool)(ss:List Stmt)(xs:List Sx):Prop where
 h:lI X ss (iL X.K (cR C sub xs))
structure uE (X:Cx)(C:bL)(n:Str)(fid:Nat):Prop where
 h:∃ k f fd ps,fA X.prog X.w X.K X.mg X.base iD k f fd ps (fN X.K C fid)/\dS k X.A/\X.mg n=some (.ref f)/\fw X.K (.ref f)=true/\Binds X.K fd ps []
noncomputable def GC (K:ab)(mg:Str->Option Value)(n:Str)(d:D):Prop:=∃ u v,mg n=some u/\RelV v u/\∀ H,Rep K H d v
section
variable {X:Cx}{C:bL}{sub:Nat->Nat->Bool}{E:XK}{a b c e o tg:Expr}{es:List Expr}{x y z:Ex}{xs:List Ex}{p p2 pos apos:Pos}{k:Nat}{n:Str}{s:Stmt}{ss:List Stmt}{sxs:List Sx}
theorem jv (i:Nat)(hN:X.N[i]? = some n:=by kernel_rfl)(hv:X.env.scope.names.lookup n=some .local:=by kernel_rfl)(hd:(n==("__debug__" : Str))=false:=by kernel_rfl)
 (hcd:(n==("__classdict__" : Str))=false:=by kernel_rfl):JE X C sub E (.Name n pos) (.v i):=⟨VQ (pv i hN (.inl hv) hd hcd)⟩
theorem bF (i:Nat)(hN:X.N[i]? = some n:=by kernel_rfl)(hv:X.env.scope.names.lookup n=some .cell:=by kernel_rfl)(hd:(n==("__debug__" : Str))=false:=by kernel_rfl)
 (hcd:(n==("__classdict__" : Str))=false:=by kernel_rfl):JE X C sub E (.Name n pos) (.v i):=⟨VQ (pv i hN (.inr (.inl hv)) hd hcd)⟩
theorem ji {i:Int}:JE X C sub E (.Constant (.int i) k pos) (.c (.int i)):=⟨vJ Z1 fun _=>.int _⟩
theorem jb {i:Bool}:JE X C sub E (.Constant (.bool i) k pos) (.c (.bl i)):=⟨vJ Ie fun _=>.bl _⟩
theorem jn:JE X C sub E (.Constant .none k pos) (.c .non):=⟨vJ Aw fun _=>.non⟩
theorem js {t:String}(h:j0 t=⟨(W t).toArray⟩:=by kernel_rfl):JE X C sub E (.Constant (.str (j0 t)) k pos) (.c (.str (W t))):=⟨Ip h⟩
theorem jg {d:D}(h:GC X.K X.mg n d)(hg:X.env.kindOf n=some .globalImplicit:=by kernel_rfl)(hd:(n==("__debug__" : Str))=false:=by kernel_rfl):JE X C sub E (.Name n pos) (.c d):=⟨let⟨u,v,h1,h2,h3⟩:=h;vJ (XW hg h1 h2 hd) h3⟩
theorem ja (h:JE X C sub E e x)(hs:JA X C sub E es xs)(fF:ar (e::es) X.env=(false,eval e X.env)::ar es X.env:=by kernel_rfl):JA X C sub E (e::es) (x::xs):=⟨Bl h.h hs.h fF⟩
theorem jt (m:bY C C)(hs:JA X C sub E es xs)(hl:xs.length<=aZ:=by decide):JE X C sub E (.Tuple es k pos) (.tup xs):=⟨Jz m hs.h hl⟩
theorem pP {o:rD}(u:X.A.units+180<cLine)(ha:JE X C sub E a x)(hb:JE X C sub E b y)(hm:kh (oX o) b=false:=by kernel_rfl):JE X C sub E (.Compare a [oX o] [b] pos) (.cmp o x y):=⟨La u ha.h hb.h hm⟩
theorem cW {o:rD}(u:X.A.units+180<cLine)(ha:JE X C sub E a x)(hb:JE X C sub E b y)(hm:kh (oX o) b=false:=by kernel_rfl):JT X C sub E (.Compare a [oX o] [b] pos) (.cmp o x y):=⟨Fx u ha.h hb.h hm⟩
theorem Aa {o o':rD}(u:X.A.units+180<cLine)(ha:JE X C sub E a x)(hb:JE X C sub E b y)(hc:JE X C sub E c z)(hm:lastMarks [oX o,oX o'] [b,c]=false:=by kernel_rfl):JE X C sub E (.Compare a [oX o,oX o'] [b,c] pos) (.chain o o' x y z):=⟨Y9 u ha.h hb.h hc.h hm⟩
theorem tp (h:JE X C sub E e x)(he:∀ whole,ze e X.env whole=(do let v <-whole;mr e.pos;j4 [v] (Sq v)):=by intro _;rfl):JT X C sub E e x:=⟨SS h.h he⟩
theorem bB (ha:JE X C sub E a x)(hb:JE X C sub E b y)(hp:uG b:=by intro _ _;rfl):JE X C sub E (.Subscript a b pos) (.ix x y):=⟨Lz ha.h hb.h hp⟩
theorem bQ {fid:Nat}(h:uE X C n fid)(ha:JA X C sub EF (e::es) xs)(hg:X.env.kindOf n=some .globalImplicit:=by kernel_rfl)(hdb:(n==("__debug__" : Str))=false:=by kernel_rfl)(he:ar (e::es) X.env=(false,eval e X.env)::ar es X.env:=by kernel_rfl)(dB:(dq pos (ar es X.env)).any (·.1)=false:=by kernel_rfl):
 JE X C sub EF (.Call (.Name n p) (e::es) [] pos) (.call fid xs):=⟨let⟨k,f,fd,ps,h1,h2,h3,h4,h5⟩:=h.h;Z4 h1 h2 hg h3 h4 h5 OJ ha.h hdb he dB⟩
theorem dD {f:BI}{id:String}(hW:xQ X (.builtin id) (gS f))(hv:cf n=some (.builtin id))(hm:X.mg n=none)(ha:JA X C sub E (e::es) xs)(hg:X.env.kindOf n=some .globalImplicit:=by kernel_rfl)
 (hn:n ≠"__name__":=by decide)(hdb:(n==("__debug__" : Str))=false:=by kernel_rfl)(he:ar (e::es) X.env=(false,eval e X.env)::ar es X.env:=by kernel_rfl)(dB:(dq pos (ar es X.env)).any (·.1)=false:=by kernel_rfl):
 JE X C sub E (.Call (.Name n p) (e::es) [] pos) (.bi f xs):=⟨(Hw hW hg hm hv ha.h hn hdb he dB).imp fun σ H Q ⟨σd,st,R,r,ok,q,hq⟩=>⟨σd,st,R,r,ok,q,hq⟩⟩
theorem mG {f:BI}{id:String}(hW:xQ X (.type id) (gS f))(hv:cf n=some (.type id))(hm:X.mg n=none)(ha:JA X C sub E (e::es) xs)(hg:X.env.kindOf n=some .globalImplicit:=by kernel_rfl)
 (hn:n ≠"__name__":=by decide)(hdb:(n==("__debug__" : Str))=false:=by kernel_rfl)(he:ar (e::es) X.env=(false,eval e X.env)::ar es X.env:=by kernel_rfl)(dB:(dq pos (ar es X.env)).any (·.1)=false:=by kernel_rfl):
 JE X C sub E (.Call (.Name n p) (e::es) [] pos) (.bi f xs):=⟨(Au hW hg hm hv ha.h hn hdb he dB).imp fun σ H Q ⟨σd,st,R,r,ok,q,hq⟩=>⟨σd,st,R,r,ok,q,hq⟩⟩
theorem GR {t:Ty}(hv:cf n=some (.type (JR t)))(hm:X.mg "isinstance" = none)(hm2:X.mg n=none)(ha:JE X C sub E a x)(ht:HR t=true:=by kernel_rfl)(hg:X.env.kindOf "isinstance" = some .globalImplicit:=by kernel_rfl)(hg2:X.env.kindOf n=some .globalImplicit:=by kernel_rfl)
 (hn2:n ≠"__name__":=by decide)(hd2:(n==("__debug__" : Str))=false:=by kernel_rfl)(he:ar [a,.Name n p2] X.env=(false,eval a X.env)::ar [.Name n p2] X.env:=by kernel_rfl)(he2:ar [.Name n p2] X.env=[(false,eval (.Name n p2) X.env)]:=by kernel_rfl)(dB:(dq pos (ar [.Name n p2] X.env)).any (·.1)=false:=by kernel_rfl):
 JE X C sub E (.Call (.Name "isinstance" p) [a,.Name n p2] [] pos) (.isi x [t]):=⟨Jt ht hg hm hg2 hm2 hv ha.h hn2 hd2 he he2 dB⟩
theorem lP (ho:JE X C sub E o x)(ha:JA X C sub E (e::es) xs)(kA:fx o "append" X.env (eval o X.env)=eval o X.env:=by kernel_rfl)
 (sF:((dq pos (ar (e::es) X.env)).all (fun x=>!x.1)&&(my pos (jy [] X.env)).all (fun x=>x.1.isSome)&&decide ((e::es).length+([]:List pz).length+(if([]:List pz).isEmpty then 0 else 1)<30))=true:=by kernel_rfl)(kB:(apos.endLine==pos.line)=true:=by kernel_rfl)
 (hs:ar (e::es) X.env=(false,eval e X.env)::ar es X.env:=by kernel_rfl)(sG:(dq pos (ar es X.env)).any (·.1)=false:=by kernel_rfl):
 JE X C sub E (.Call (.Attribute o "append" apos) (e::es) [] pos) (.cB .append x xs):=⟨Q5 (fun z=>nomatch z) PySem.F.slot_list_append PySem.F.type_list_append SI ho.h ha.h kA sF kB hs sG⟩
theorem Lg (ho:JE X C sub E o x)(ha:JA X C sub E (e::es) xs)(kA:fx o "extend" X.env (eval o X.env)=eval o X.env:=by kernel_rfl)
 (sF:((dq pos (ar (e::es) X.env)).all (fun x=>!x.1)&&(my pos (jy [] X.env)).all (fun x=>x.1.isSome)&&decide ((e::es).length+([]:List pz).length+(if([]:List pz).isEmpty then 0 else 1)<30))=true:=by kernel_rfl)(kB:(apos.endLine==pos.line)=true:=by kernel_rfl)
 (hs:ar (e::es) X.env=(false,eval e X.env)::ar es X.env:=by kernel_rfl)(sG:(dq pos (ar es X.env)).any (·.1)=false:=by kernel_rfl):
 JE X C sub E (.Call (.Attribute o "extend" apos) (e::es) [] pos) (.cB .extend x xs):=⟨Q5 (fun z=>nomatch z) PySem.F.slot_list_extend PySem.F.type_list_extend PR ho.h ha.h kA sF kB hs sG⟩
theorem Px (ho:JE X C sub E o x)(kA:fx o "pop" X.env (eval o X.env)=eval o X.env:=by kernel_rfl)(kB:(apos.endLine==pos.line)=true:=by kernel_rfl):
 JE X C sub E (.Call (.Attribute o "pop" apos) [] [] pos) (.cB .pop x []):=⟨XF (fun z=>nomatch z) PySem.F.slot_list_pop PySem.F.type_list_pop ZT ho.h kA kB⟩
theorem sx (m:bY C C)(h:JE X C sub EF e x)(hs:ku e none pos.line X.env=pure false:=by kernel_rfl):JS X C sub (.Expr e pos) (.ex x):=⟨Nc m h.h hs⟩
theorem sn {i:Nat}(m:bY C C)(nd:X.N.Nodup)(he:JE X C sub EF e x)(hi:X.N[i]? = some n:=by kernel_rfl)(hx:X.env.scope.names.lookup n=some .local:=by kernel_rfl)
 (hs:og [.Name n p] e pos.line X.env=pure false:=by kernel_rfl)(hw:oh [.Name n p] e X.env=pure none:=by kernel_rfl)(h1:(ee [.Name n p] X.env).map (·.2)=[lj (.Name n p) X.env]:=by kernel_rfl):JS X C sub (.Assign [.Name n p] e pos) (.asg (.nm i) x):=⟨O1 m he.h (UC (uI nd hi (.inl hx) (.inr hx))) hs hw h1⟩
theorem MR {i:Nat}(m:bY C C)(nd:X.N.Nodup)(he:JE X C sub EF e x)(hi:X.N[i]? = some n:=by kernel_rfl)(hx:X.env.scope.names.lookup n=some .cell:=by kernel_rfl)(hf:X.fn n=true:=by kernel_rfl)
 (hs:og [.Name n p] e pos.line X.env=pure false:=by kernel_rfl)(hw:oh [.Name n p] e X.env=pure none:=by kernel_rfl)(h1:(ee [.Name n p] X.env).map (·.2)=[lj (.Name n p) X.env]:=by kernel_rfl):JS X C sub (.Assign [.Name n p] e pos) (.asg (.nm i) x):=⟨O1 m he.h (UC (uI nd hi (.inr hx) (.inl hf))) hs hw h1⟩
theorem gn {i:Nat}(nd:X.N.Nodup)(hi:X.N[i]? = some n:=by kernel_rfl)(hx:X.env.scope.names.lookup n=some .local:=by kernel_rfl):JN X (.Name n p) i:=⟨uI nd hi (.inl hx) (.inr hx)⟩
theorem Pb {i:Nat}(nd:X.N.Nodup)(hi:X.N[i]? = some n:=by kernel_rfl)(hx:X.env.scope.names.lookup n=some .cell:=by kernel_rfl)(hf:X.fn n=true:=by kernel_rfl):JN X (.Name n p) i:=⟨uI nd hi (.inr hx) (.inl hf)⟩
theorem gc {i:Nat}{is:List Nat}(h1:JN X e i)(h2:RK X es is)(hs:(ee (e::es) X.env).map (·.2)=lj e X.env::(ee es X.env).map (·.2):=by kernel_rfl):RK X (e::es) (i::is):=⟨YH h1.h h2.h hs⟩
theorem gt {is:List Nat}(h:RK X es is)(hc:X.calm=true:=by kernel_rfl)(hn:(ee es X.env).length=is.length:=by kernel_rfl)(fF:(ee es X.env).findIdx? (·.1)=none:=by kernel_rfl):JG X C sub E (.Tuple es k pos) (.tp is):=⟨Nf hc h.h hn fF⟩
theorem gi (ho:JE X C sub E o x)(hi:JE X C sub E a y)
 (ha:∀ v,lj (.Subscript o a pos) X.env v=(do
  let ov <-j4 [v] (eval o X.env)
  let iv <-j4 [v,ov] (eval a X.env)
  mr pos
  j4 [v,ov,iv] (Rp ov iv v)
  Sw [v,ov,iv] []):=by intro _;rfl):JG X C sub E (.Subscript o a pos) (.ix x y):=⟨Mn ho.h hi.h ha⟩
theorem sg {t:Tg}(m:bY C C)(he:JE X C sub EF e x)(hg:JG X C sub EF tg t)
 (hs:og [tg] e pos.line X.env=pure false:=by kernel_rfl)(hw:oh [tg] e X.env=pure none:=by kernel_rfl)(h1:(ee [tg] X.env).map (·.2)=[lj tg X.env]:=by kernel_rfl):JS X C sub (.Assign [tg] e pos) (.asg t x):=⟨O1 m he.h hg.h hs hw h1⟩
theorem sw (m:bY C C)(hc:JT X C sub EF c x)(hb:BU X C sub ss sxs)(hp:qa (model X.prog X.w) X.A X.env X.xe:=by exact vh):JS X C sub (.While c ss [] pos) (.whl x sxs):=⟨Y1 m hp hc.h hb.h⟩
theorem sf {kk:Option IK}{t:Tg}(m:bY C C)(hi:JI X C sub EF tg e kk xs)(hg:JG X C sub EF tg t)(hb:BU X C sub ss sxs)
 (hp:qa (model X.prog X.w) X.A X.env X.xe:=by exact vh)(hc:X.calm=true:=by kernel_rfl)(hs:∀ x,gg e X.env x=pure x:=by intro _;rfl):JS X C sub (.For tg e ss [] pos) (.gR t kk xs sxs):=⟨WA m hp hc hi.h hg.h hb.h hs⟩
theorem sC {kk:Option IK}{i:Nat}(m:bY C C)(nd:X.N.Nodup)(hi:JI X C sub EF (.Name n p) e kk xs)(hb:BU X C sub ss sxs)
 (hN:X.N[i]? = some n:=by kernel_rfl)(hx:X.env.scope.names.lookup n=some .local:=by kernel_rfl)
 (hp:qa (model X.prog X.w) X.A X.env X.xe:=by exact vh)(hc:X.calm=true:=by kernel_rfl)(hs:∀ x,gg e X.env x=pure x:=by intro _;rfl):JS X C sub (.For (.Name n p) e ss [] pos) (.gR (.nm i) kk xs sxs):=⟨WA m hp hc hi.h (UC (uI nd hN (.inl hx) (.inr hx))) hb.h hs⟩
theorem IF (m:bY C C)(hm:X.mg "range" = none)(ha:JA X C sub E [a] [x])(hg:X.env.kindOf "range" = some .globalImplicit:=by kernel_rfl)(hs:ar [a] X.env=[(false,eval a X.env)]:=by kernel_rfl):
 JI X C sub E tg (.Call (.Name "range" p) [a] [] pos) (some .range) [x]:=⟨ZA m hg hm ha.h hs⟩
theorem Py {cl:Nat}{t:String}(m:bY C C):JS X C sub s (.rais cl [.c (.str (W t))]):=⟨Dh m fun σd st h=>h⟩
end
section
variable {X:Cx}{C:bL}{sub:Nat->Nat->Bool}{E:XK}{a b c e o tg:Expr}{es rest:List Expr}{x y z:Ex}{xs:List Ex}{p p2 pos apos:Pos}{k:Nat}{n:Str}{s:Stmt}{ss as bs:List Stmt}{sx1:Sx}{sxs ax bx:List Sx}
theorem an:JA X C sub E [] []:=⟨Ja⟩
theorem jl (hs:JA X C sub E es xs):JE X C sub E (.List es pos) (.lst xs):=⟨Gc hs.h⟩
theorem cO {op:uJ}(ha:JE X C sub E a x)(hb:JE X C sub E b y):JE X C sub E (.BinOp a (Dk op) b pos) (.bin op x y):=⟨Iv ha.h hb.h⟩
theorem Lf (ha:JE X C sub E a x):JE X C sub E (.UnaryOp .USub a pos) (.neg x):=⟨Ks ha.h⟩
theorem M6 (ha:JE X C sub E a x):JE X C sub E (.UnaryOp .Not a pos) (.not_ x):=⟨Kb ha.h⟩
theorem lU {op:Sv}(ha:JE X C sub E a x):JE X C sub E (.BoolOp op [a] pos) x:=⟨Hu ha.h⟩
theorem oC (ha:JE X C sub E a x)(hb:JE X C sub E (.BoolOp .And (b::rest) pos) y):JE X C sub E (.BoolOp .And (a::b::rest) pos) (.and_ x y):=⟨Gp ha.h hb.h⟩
theorem MS (ha:JE X C sub E a x)(hb:JE X C sub E (.BoolOp .Or (b::rest) pos) y):JE X C sub E (.BoolOp .Or (a::b::rest) pos) (.or_ x y):=⟨Ow ha.h hb.h⟩
theorem on:JO X C sub E none []:=⟨XY⟩
theorem os (h:JE X C sub E e x):JO X C sub E (some e) [x]:=⟨XE h.h⟩
theorem K3 {lo hi:Option Expr}{xl xh:List Ex}(ha:JE X C sub E a x)(hl:JO X C sub E lo xl)(hh:JO X C sub E hi xh):JE X C sub E (.Subscript a (.Slice lo hi none p2) pos) (.sl x xl xh):=⟨Ma ha.h hl.h hh.h⟩
theorem pM (h:JT X C sub E e x):JT X C sub E (.UnaryOp .Not e pos) (.not_ x):=⟨Bg h.h⟩
theorem sW (h:JW X C sub E e x):JT X C sub E e x:=⟨h.h.pt⟩
theorem sQ {op:Sv}(h:JT X C sub E e x):JW X C sub E (.BoolOp op [e] pos) x:=⟨Z2 h.h⟩
theorem VX (m:bY C C)(ha:JT X C sub E a x)(hb:JW X C sub E (.BoolOp .And (b::rest) pos) y):JW X C sub E (.BoolOp .And (a::b::rest) pos) (.and_ x y):=⟨Ao m ha.h hb.h⟩
theorem yH (m:bY C C)(ha:JT X C sub E a x)(hb:JW X C sub E (.BoolOp .Or (b::rest) pos) y):JW X C sub E (.BoolOp .Or (a::b::rest) pos) (.or_ x y):=⟨Gg m ha.h hb.h⟩
theorem iv (h:JE X C sub E e x):JI X C sub E tg e none [x]:=⟨Dp h.h⟩
theorem qn:JQ X C sub E [] []:=⟨Bb⟩
theorem qc (h:JT X C sub E e x)(hs:JQ X C sub E es xs):JQ X C sub E (e::es) (x::xs):=⟨XG h.h hs.h⟩
theorem nn:RK X [] []:=⟨Cm⟩
theorem b1 (h:JN X tg 0):JB X tg true 1:=⟨h.h⟩
theorem bt {is:List Nat}{q:Nat}(h:RK X es is)(hi:is=a9 q:=by rfl)(hc:X.calm=true:=by kernel_rfl)(hn:(ee es X.env).length=q:=by kernel_rfl)(fF:(ee es X.env).findIdx? (·.1)=none:=by kernel_rfl):JB X (.Tuple es k pos) false q:=⟨by
 subst hi
 exact QT hc h.h hn fF⟩
theorem c0:BU X C sub [] []:=⟨Gm⟩
theorem cc (h1:JS X C sub s sx1)(h2:BU X C sub ss sxs):BU X C sub (s::ss) (sx1::sxs):=⟨Ap h1.h h2.h⟩
theorem cV (m:bY C C)(hc:JT X C sub EF c x)(ha:BU X C sub as ax)(hb:BU X C sub bs bx):JS X C sub (.If c as bs pos) (.iff x ax bx):=⟨Mf m hc.h ha.h hb.h⟩
theorem bR (m:bY C C)(h:JE X C sub EF e x):JS X C sub (.Return (some e) pos) (.ret x):=⟨Ko m h.h⟩
theorem Pj:JS X C sub (.Return none pos) (.ret (.c .non)):=⟨Fw⟩
end
section
variable {X:Cx}{C:bL}{sub:Nat->Nat->Bool}{elt iter tg:Expr}{ifs:List Expr}{xe:Ex}{mL aD:List Ex}{pos:Pos}{scope:Scope}{own cn:List Str}{bG:List Nat}{one:Bool}{k:Option IK}
theorem kS (m:bY C C)(S:lY X scope cn bG)(hi:JI X C sub EF tg iter k aD)
 (hg:∀ fp s H Ca,JB (mM X scope own cn fp s H Ca) tg one own.length)
 (hts:∀ fp s H Ca,JQ (mM X scope own cn fp s H Ca) C sub EF ifs mL)
 (he:∀ fp s H Ca,JE (mM X scope own cn fp s H Ca) C sub EF elt xe)(hc:X.calm=true:=by kernel_rfl)(oN:one=true->own.length=1:=by decide)
 (hs:∀ x,gg iter X.env x=pure x:=by intro _;rfl):
 JE X C sub EF (.ListComp elt [⟨tg,iter,ifs,0⟩] scope pos) (.comp own.length bG (a9 own.length) one k aD mL xe) :=
 ⟨Cf m S hc oN hi.h (fun a b c d=>(hg a b c d).h) (fun a b c d=>(hts a b c d).h) (fun a b c d=>(he a b c d).h) hs⟩
theorem VW {i:Nat}{y:Str}{py spos:Pos}(m:bY C C)(nd:X.N.Nodup)(S:lY X scope cn bG)(hi:JI X C sub EF tg iter k aD)
 (hg:∀ fp s H Ca,JB (mM X scope own cn fp s H Ca) tg one own.length)
 (hts:∀ fp s H Ca,JQ (mM X scope own cn fp s H Ca) C sub EF ifs mL)
 (he:∀ fp s H Ca,JE (mM X scope own cn fp s H Ca) C sub EF elt xe)(hy:X.N[i]? = some y:=by kernel_rfl)(hx:X.env.scope.names.lookup y=some .local:=by kernel_rfl)
 (hsw:ku (.ListComp elt [⟨tg,iter,ifs,0⟩] scope pos) (some (.Name y py)) spos.line X.env=pure true:=by kernel_rfl)(hc:X.calm=true:=by kernel_rfl)(oN:one=true->own.length=1:=by decide)
 (hs:∀ x,gg iter X.env x=pure x:=by intro _;rfl):
 JS X C sub (.Assign [.Name y py] (.ListComp elt [⟨tg,iter,ifs,0⟩] scope pos) spos) (.asg (.nm i) (.comp own.length bG (a9 own.length) one k aD mL xe)) :=
 ⟨Dd m S hc oN hi.h (fun a b c d=>(hg a b c d).h) (fun a b c d=>(hts a b c d).h) (fun a b c d=>(he a b c d).h) nd hy (.inl hx) (.inr hx) hsw hs⟩
end
noncomputable def OG (k:Option sv):Bool:=k==some .cell||k==some .free
noncomputable def VM (names on:List (Str×NameKind))(N cn:List Str)(bG:List Nat):Bool :=
 names.all (fun y=>!(y.2 == .cell)&&(!(y.2 == .local)||names.lookup y.1==some .local)&&(!(y.2 == .free)||OG (on.lookup y.1)))&&(cn.length==bG.length) &&
 (cn.zip bG).all (fun p=>names.lookup p.1==some .free&&N[p.2]? == some p.1&&OG (on.lookup p.1))
theorem MV {k:Option sv}(h:OG k=true):k=some .cell∨k=some .free:=by
 unfold OG at h
 rw[ow]at h
 rcases h with h|h
 ·exact .inl (by simpa using h)
 ·exact .inr (by simpa using h)
theorem jE {X:Cx}{scope:Scope}{cn:List Str}{bG:List Nat}{on:List (Str×NameKind)}{N:List Str}(h:VM scope.names on N cn bG=true)(hE:X.env.scope.names=on:=by kernel_rfl)(hN:X.N=N:=by kernel_rfl)(hk:scope.kind=.function:=by kernel_rfl):lY X scope cn bG:=by
 unfold VM at h
 rw[ay,ay]at h
 obtain⟨⟨h1,h2⟩,h3⟩:=h
 have h1:=List.all_eq_true.mp h1
 have hl:cn.length=bG.length:=by simpa using h2
 refine⟨hk,fun y hy=>?_,fun y hy e=>?_,fun y hy e=>?_,hl,fun j y e=>?_⟩
 ·have:=h1 y hy
  simp only[ay]at this
  intro z;rw[z]at this;simp at this
 ·have:=h1 y hy
  simp only[ay,ow]at this
  rcases this.1.2 with q|q
  ·rw[e]at q;simp at q
  ·simpa using q
 ·have:=h1 y hy
  simp only[ay,ow]at this
  rcases this.2 with q|q
  ·rw[e]at q;simp at q
  ·show X.env.scope.names.lookup y.1=_∨X.env.scope.names.lookup y.1=_
   rw[hE];exact MV q
 ·obtain⟨hj,ej⟩:=List.getElem?_eq_some_iff.mp e
  have hj':j<bG.length:=by omega
  have hm:(y,bG[j])∈cn.zip bG:=by
   rw[<-ej]
   exact List.mem_iff_getElem.mpr ⟨j,by simp;omega,by simp⟩
  have:=List.all_eq_true.mp h3 _ hm
  simp only[ay]at this
  refine⟨by simpa using this.1.1,bG[j],aj hj',by rw[hN];simpa using this.1.2,?_⟩
  show X.env.scope.names.lookup y=_∨X.env.scope.names.lookup y=_
  rw[hE];exact MV this.2
end L3
namespace L3
theorem Ig {k:Nat}{A:PySem.Around}(hr:L2.dS k A):A.units+180<Si:=by have:=hr.un;omega
end L3
end
section
namespace PySem
open Sem (wp)
section
variable {prog:br}{w:World}{A:cg}{s:af}{R:Rq->af->Prop}{I:Addr}{fp wr:List Addr}{n:Nat}{P:Nat->Value->Prop}{St:Nat->Heap->Prop}
noncomputable def zH (prog:br)(w:World)(I:Addr)(St:Nat->Heap->Prop):Prop:=∀(A:cg)(s:af)(Q:Bool->af->Prop)(E:Value->af->Prop),St 0 s.heap->(∀ b tk,Q b { s with toks:=tk })->wpAny (model prog w) A (kq (.ref I)) Q E s
theorem RV {T:String}(W:Walks prog w A.in1 I fp wr n P St)(hn:n<=sizeLine)(hT:∀ h,St 0 h->∃ o,h.get? I=some o/\o.cls=.type T)(h2:(fq T==fq "list")=false)(h3:(fq T==fq "tuple")=false)(hint:zH prog w I St)
  (S:Addr)(res:Value)(c₀:Nat)(fF:St 0 s.heap)(hSf:S∉fp)(hI:I∈fp)(hS:s.heap.get? S=some { cls:=.type "list", data:=.seq #[] c₀ })
  (hR:∀ h' tk nX c',(∀ b o,b∉S::wr->s.heap.get? b=some o->h'.get? b=some o)->h'.get? S=some { cls:=.type "list", dict:=none,data:=.seq nX c',slots:=#[] }->Qe P nX n->R (.ok (.ret res)) { s with heap:=h',toks:=tk }):
  wpAny (model prog w) A.in1 (jh (.ref S) (.ref I) res)
   (fun fin s'=>match fin with|.done f=>R (.ok f) s'|.again c'=>c'.quiet=true/\kv (model prog w) A c' R s') (fun e s'=>R (.error e) s') s:=by
 have hSI:S≠I:=fun e=>hSf (e▸hI)
 have key:∀(h:Heap)(c₁ tk:Nat),St 0 h->(∀ b o,b≠S->s.heap.get? b=some o->h.get? b=some o)->h.get? S=some { cls:=.type "list", data:=.seq #[] c₁ } ->
   kv (model prog w) A (.builtin "list.extend.loop" ⟨[.ref S,.ref I,res],[]⟩) R { s with heap:=h,toks:=tk }:=by
  intro h c₁ tk hst₁ hk hS₁
  refine codeAny_extend_loopS W.toS hn S hSf res n 0 _ #[] c₁ rfl (cu _) hst₁ hS₁ (ItemsOf.nil _) fun s' nX c' hm hS' hacc=>?_
  rw[Moved.eq_with hm]
  exact hR s'.heap s'.toks nX c' (fun b o hb e=>hm.heap b o hb (hk b o (fun z=>hb (by rw[z];exact fb ..)) e)) hS' hacc
 unfold jh
 refine ae (uj (T:=T) (hT _ fF) ?_)
 have h1:r0 (.ref S) (.ref I)=false:=by simp [r0,hSI]
 simp only[h1,h2,h3,xo,ag,if_false]
 refine ae (W.self 0 _ _ _ fF ?_)
 refine ae (gf (hint _ _ _ _ fF fun b tk=>?_))
 have touch:∀{Q:Fin->af->Prop}{E:Value->af->Prop}{k:Unit->Sem Fin},(∀ h' , St 0 h'->(∀ b o,b≠S->s.heap.get? b=some o->h'.get? b=some o)->(∃ c₁,h'.get? S=some { cls:=.type "list", data:=.seq #[] c₁ })->wpAny (model prog w) A.in1 (k ()) Q E { s with heap:=h',toks:=tk }) ->
   wpAny (model prog w) A.in1 (rule "list.extend.makes-room" >>= fun _=>Builtin.List.listTouch (.ref S) >>= k) Q E { s with toks:=tk }:=fun{Q E k} hk=>by
  refine ae (uz (ae ?_))
  show wpAny _ A.in1 (Rn S (·.push .none) >>= fun _=>Rn S (·.pop)) _ _ _
  refine ae (ox hS rfl ?_)
  have hS₂:=gy (jo (·.push iq)) hS rfl
  refine ox (hz:=by seq_fits) hS₂ rfl ?_
  have hS₃:=gy (jo (·.pop)) hS₂ rfl
  have oth:∀ b o,b≠S->s.heap.get? b=some o->((s.heap.update S (jo (·.push iq))).update S (jo (·.pop))).get? b=some o :=
   fun b o hb e=>(fh _ _ (cz hb)).trans ((fh _ _ (cz hb)).trans e)
  exact hk _ (W.frame _ _ _ fF fun b hb o e=>oth b o (fun h=>hSf (h▸hb)) e) oth ⟨_,hS₃⟩
 refine cq (fun _=>?_) (fun _=>ao ⟨plainId_quiet xg _,key _ c₀ _ fF (fun b o _ e=>e) hS⟩)
 refine touch fun h' a b ⟨c₁,c⟩=>ao ⟨plainId_quiet xg _,key _ c₁ _ a b c⟩
theorem K7 {T:String}(W:Walks prog w A.in1 I fp wr n P St)(hn:n<=sizeLine)(hT:∀ h,St 0 h->∃ o,h.get? I=some o/\o.cls=.type T)(h2:(fq T==fq "list")=false)(h3:(fq T==fq "tuple")=false)(hint:zH prog w I St)
 (S:Addr)(fF:St 0 s.heap)(hSf:S∉fp)(hI:I∈fp)(hS:s.heap.get? S=some { cls:=.type "list", data:=.seq #[] })
 (hR:∀ h' tk nX c',(∀ b o,b∉S::wr->s.heap.get? b=some o->h'.get? b=some o)->h'.get? S=some { cls:=.type "list", dict:=none,data:=.seq nX c',slots:=#[] }->Qe P nX n->R (.ok (.ret .none)) { s with heap:=h',toks:=tk }):
 wpAny (model prog w) A.in1 (Builtin.«list.__init__» ⟨[.ref S,.ref I],[]⟩)
  (fun fin s'=>match fin with|.done f=>R (.ok f) s'|.again c'=>c'.quiet=true/\kv (model prog w) A c' R s') (fun e s'=>R (.error e) s') s:=by
 show wpAny _ A.in1 (do let old <-va (.ref S);Builtin.List.listUpdate (.ref S) (fun _=>#[]);letGo old.toList.reverse;jh (.ref S) (.ref I) .none) _ _ s
 refine ae ?_
 unfold va
 refine ae (Qs hS rfl (ao ?_))
 show wpAny _ A.in1 (Rn S (fun _=>#[]) >>= fun _=>letGo (#[]:Array Value).toList.reverse >>= fun _=>jh (.ref S) (.ref I) .none) _ _ s
 refine ae (ox hS rfl ?_)
 have hS₂:=gy (jo (fun _=>(#[]:Array Value))) hS rfl
 have oth:∀ b o,b≠S->s.heap.get? b=some o->(s.heap.update S (jo (fun _=>(#[]:Array Value)))).get? b=some o :=
 fun b o hb e=>(fh _ _ (cz hb)).trans e
 refine ae (wpAny_letGo ?_)
 refine RV W hn hT h2 h3 hint S .none _ (W.frame _ _ _ fF fun b hb o e=>oth b o (fun h=>hSf (h▸hb)) e) hSf hI hS₂ fun h' tk nX c' hm hS' hacc=>?_
 exact hR h' tk nX c' (fun b o hb e=>hm b o hb (oth b o (fun z=>hb (by rw[z];exact fb ..)) e)) hS' hacc
end
section
variable {prog:br}{w:World}{A:cg}{E:Value->af->Prop}{s:af}{I:Addr}{fp wr:List Addr}{n:Nat}{P:Nat->Value->Prop}{St:Nat->Heap->Prop}
theorem zX {T:String}{Q:Value->af->Prop}(W:Walks prog w A.in1.in1 I fp wr n P St)(hn:n<=sizeLine)(hT:∀ h,St 0 h->∃ o,h.get? I=some o/\o.cls=.type T)(h2:(fq T==fq "list")=false)(h3:(fq T==fq "tuple")=false)(hint:zH prog w I St)
  (fF:St 0 s.heap)(hfp:∀ b∈fp,b<s.heap.objs.size)(hI:I∈fp)
  (hQ:∀ h' tk nX c',(∀ b o,b∉wr->s.heap.get? b=some o->h'.get? b=some o)->h'.get? s.heap.objs.size=some { cls:=.type "list", dict:=none,data:=.seq nX c',slots:=#[] }->Qe P nX n->Q (.ref s.heap.objs.size) { s with heap:=h',toks:=tk }):
  wpAny (model prog w) A (call (.type "list") [.ref I]) Q E s:=by
 have hSf:s.heap.objs.size∉fp:=fun hm=>jj _ (hfp _ hm)
 refine Qv (Q₁:=fun obj s₁=>obj=.ref s.heap.objs.size/\s₁ = { s with heap:=s.heap.push { cls:=.type "list", data:=.seq #[] } }) F.called_list (F.typeCall_list_1 _) F.entry_list_init
  (code_list_new _ ⟨rfl,rfl⟩) fun obj s₁ h₁=>?_
 obtain⟨rfl,rfl⟩:=h₁
 have hS:(s.heap.push { cls:=.type "list", data:=.seq #[] }).get? s.heap.objs.size=some { cls:=.type "list", data:=.seq #[] }:=bg _ rfl
 refine⟨⟨_,hS,rfl⟩,F.args_list_init_2 _ _,K7 (A:=A.in1) W hn hT h2 h3 hint _ (W.frame _ _ _ fF fun b _ o e=>ak _ e) hSf hI hS fun h' tk nX c' hk hS' hacc=>?_⟩
 refine⟨rfl,hQ h' tk nX c' (fun b o hb e=>hk b o (fun z=>?_) (ak _ e)) hS' hacc⟩
 rcases List.mem_cons.mp z with z|z
 ·exact absurd (bo e) (by rw[z];exact jj _)
 ·exact hb z
end
end PySem
end
section
namespace PySem
namespace F
theorem OH:qk (.type "list_reverseiterator") "__len__" = pure none:=by rw[gr,dw];kernel_rfl
theorem UY:qk (.type "list_reverseiterator") "__length_hint__" = pure (some (.builtin "list_reverseiterator.__length_hint__")):=by rw[gr,dw];kernel_rfl
end F
section
variable {prog:br}{w:World}
theorem TZ {I l:Addr}{items:Array Value}:zH prog w I (fun i h=>i<=items.size/\h.IsRevIter I l ((items.size:Int)-1-(i:Int))/\h.IsList l items):=fun A s Q E fF hQ=>by
 have hT:=fF.2.1.typeIs
 unfold kq
 refine ae (fz hT F.OH ?_)
 refine cq (fun dY=>absurd dY (by decide)) (fun _=>?_)
 refine cq (fun dY=>absurd dY (by decide)) (fun _=>?_)
 refine ae (fz hT F.UY ?_)
 generalize hid:("list_reverseiterator.__length_hint__" : String)=id0
 wp_delta
 rw[show splitId id0=some ("list_reverseiterator","__length_hint__")from by subst hid;decide +kernel]
 subst hid
 refine ae (kz (T :="list_reverseiterator") (b:=true) hT (by rw[jq];kernel_rfl) ?_)
 refine cq (fun dY=>absurd dY (by decide)) (fun _=>?_)
 refine cq (fun _=>?_) (fun dY=>absurd (by decide +kernel) dY)
 refine cq (fun dY=>absurd dY (by decide +kernel)) (fun _=>?_)
 exact ao (hQ false s.toks)
end
end PySem
end
section
namespace PySem
open PyProof.Rows
namespace F
theorem NW:qk (.type "tuple") "__reversed__" = pure none:=by rw[gr,dw];kernel_rfl
theorem J1:qk (.type "tuple") "__getitem__" = pure (some (.builtin "tuple.__getitem__")):=by rw[gr,dw];kernel_rfl
theorem O6:qk (.type "reversed") "__len__" = pure none:=by rw[gr,dw];kernel_rfl
theorem AA:Manifest.owners.lookup (String.ofList ['d','e','s','r','e','v','e','r'].reverse)=some Manifest.sig_reversed:=by kernel_rfl
theorem kJ:Slot "reversed" "__next__" "reversed.__next__" :=
 .of (owner :="reversed") (n :="__next__") (by rw[gr,dw];kernel_rfl) (by decide +kernel) (by decide +kernel) (by decide +kernel)
 (by first|exact .inl (by decide +kernel)|exact .inr (by decide +kernel)) (by rw[jq];kernel_rfl)
theorem qB:Slot "reversed" "__length_hint__" "reversed.__length_hint__" :=
 .of (owner :="reversed") (n :="__length_hint__") (by rw[gr,dw];kernel_rfl) (by decide +kernel) (by decide +kernel) (by decide +kernel)
 (by first|exact .inl (by decide +kernel)|exact .inr (by decide +kernel)) (by rw[jq];kernel_rfl)
theorem xZ:Slot "reversed" "__iter__" "reversed.__iter__" :=
 .of (owner :="reversed") (n :="__iter__") (by rw[gr,dw];kernel_rfl) (by decide +kernel) (by decide +kernel) (by decide +kernel)
 (by first|exact .inl (by decide +kernel)|exact .inr (by decide +kernel)) (by rw[jq];kernel_rfl)
theorem uT:Sj table "reversed.__next__" = some Builtin.«reversed.__next__»:=zp (by kernel_rfl)
theorem E8:Sj table "reversed.__length_hint__" = some Builtin.«reversed.__length_hint__»:=zp (by kernel_rfl)
theorem tD (a:Value):Qw "reversed.__next__" ⟨[a],[]⟩:=by
 unfold Qw;rw[xt (id :="reversed.__next__") (n:=['_','_','t','x','e','n','_','_']) (o:=['d','e','s','r','e','v','e','r']) (by kernel_rfl) AA];kernel_rfl
theorem EE (a:Value):Qw "reversed.__length_hint__" ⟨[a],[]⟩:=by
 unfold Qw;rw[xt (id :="reversed.__length_hint__") (n :="__length_hint__".toList.reverse) (o:=['d','e','s','r','e','v','e','r']) (by kernel_rfl) AA];kernel_rfl
theorem DJ (a:Value):Qw "reversed.__iter__" ⟨[a],[]⟩:=by
 unfold Qw;rw[xt (id :="reversed.__iter__") (n:=['_','_','r','e','t','i','_','_']) (o:=['d','e','s','r','e','v','e','r']) (by kernel_rfl) AA];kernel_rfl
theorem EV:Sj table "reversed.__iter__" = some Builtin.«dict_keyiterator.__iter__» :=
 entryFor_alias (id' :="dict_keyiterator.__iter__") (by kernel_rfl) (by first|rfl|decide +kernel|(unfold String.splitOn;simp +decide [String.splitOnAux])) (by decide +kernel) (by kernel_rfl)
end F
end PySem
end
section
namespace PySem
open PyProof.Rows
section
variable {prog:br}{w:World}{A:cg}{E:Value->af->Prop}{s:af}
noncomputable def OP (t:Addr)(i:Int):Obj:={ cls:=.type "reversed", data:=.fields #[.ref t,rl i] }
noncomputable def Heap.lE (h:Heap)(a t:Addr)(i:Int):Prop:=∃ o,h.get? a=some o/\o.cls=.type "reversed" /\ o.data=.fields #[.ref t,rl i]
theorem Heap.lE.typeIs {a t:Addr}{i:Int}(x:s.heap.lE a t i):s.TypeIs (.ref a) "reversed":=let⟨o,ho,hc,_⟩:=x;⟨o,ho,hc⟩
theorem Heap.lE.at {h h':Heap}{a t:Addr}{i:Int}(x:h.lE a t i)(e:∀ o,h.get? a=some o->h'.get? a=some o):h'.lE a t i:=let⟨o,ho,r⟩:=x;⟨o,e _ ho,r⟩
theorem zZ {t:Addr}{items:Array Value}{Q₁:Value->af->Prop}(ht:IsTup s.heap t items)(nW:(items.size:Int)<2 ^ 63)
 (h:Q₁ (.ref s.heap.objs.size) { s with heap:=s.heap.push (OP t ((items.size:Int)-1)),toks:=s.toks+1+1 }):
 kv (model prog w) A (.call (.builtin "reversed.__new__") ⟨[.type "reversed", .ref t],[]⟩) (wants Q₁ E) s:=by
 refine z0 ?_
 show wpAny _ A.in1 (do checkBuiltinCall "reversed.__new__" ⟨[.type "reversed", .ref t],[]⟩;again (.builtin "reversed.__new__" ⟨[.type "reversed", .ref t],[]⟩)) _ _ s
 refine ae (j8 (F.newCall_reversed_1 _) (ao ⟨plainId_quiet wq _,oz F.entry_reversed_new ?_⟩))
 rw[ot wq _]
 unfold Builtin.«reversed.__new__»
 refine ae (j8 (newClass_reversed _) ?_)
 try dsimp only
 refine ae (j8 (a:=()) (by first|rfl|kernel_rfl) ?_)
 refine ae (j8 (a:=()) (by first|rfl|kernel_rfl) ?_)
 try dsimp only
 refine ae (fz ht.typeIs F.NW ?_)
 try dsimp only
 refine ae ?_
 wp_delta
 refine ae (kz (T :="tuple") (b:=false) ht.typeIs (by rw[jq];kernel_rfl) ?_)
 refine cq (fun dY=>absurd dY (by decide)) (fun _=>?_)
 refine ae (fz ht.typeIs F.J1 ?_)
 refine cq (fun _=>?_) (fun dY=>absurd (by decide +kernel) dY)
 refine ao ?_
 refine cq (fun dY=>absurd dY (by decide)) (fun _=>?_)
 refine ae (Rk ht nW ?_)
 refine ae (m:=asInt? _) (ao ?_)
 refine ae (m:=Builtin.SmallTypes.newRecord (.type "reversed") [gz t,rl ((items.size:Int)-1)]) ?_
 show wpAny _ _ (newObj (.type "reversed") (.fields #[gz t,rl ((items.size:Int)-1)])) _ _ _
 exact gk (ao h)
theorem BB {it t:Addr}{i:Int}{Q:Value->af->Prop}(hit:s.heap.lE it t i)(h:Q (.ref it) s):wpAny (model prog w) A (ub (.ref it)) Q E s:=by
 refine wpAny_pyIter_slot hit.typeIs F.xZ (ff F.xZ hit.typeIs F.EV ?_ (F.DJ _))
 show wpAny _ _ (ret (.ref it)) _ _ s
 exact ao ⟨_,rfl,"reversed", _,hit.typeIs,F.kJ.lookup,h⟩
theorem tZ {it t:Addr}{i:Nat}{items:Array Value}{x:Value}{Q:Option Value->af->Prop}(hit:s.heap.lE it t (i:Int))(ht:IsTup s.heap t items)(nW:(items.size:Int)<2 ^ 63)(hx:items[i]? = some x)
  (hQ:∀ h',h'.lE it t ((i:Int)-1)->j9 it s.heap h'->Q (some x) { s with heap:=h',toks:=s.toks+1 }):wpAny (model prog w) A (ua (.ref it)) Q E s:=by
 obtain⟨o,ho,hc,hd⟩:=id hit
 have hi:i<items.size:=by
  rcases Nat.lt_or_ge i items.size with z|z
  ·exact z
  ·rw[Array.getElem?_eq_none z]at hx;cases hx
 unfold ua
 refine ae (r8 (h9 (name:=j0 "__next__") hit.typeIs F.kJ
  (ff F.kJ hit.typeIs F.uT ?_ (F.tD _))))
 unfold Builtin.«reversed.__next__»
 refine ae (j8 (a:=(gz it,[])) rfl ?_)
 try dsimp only
 refine ae (jz ho hd (x:=.ref t) rfl ?_)
 refine ae (jz ho hd (x:=rl (i:Int)) rfl ?_)
 show wpAny _ _ (if(i:Int)<0 then _ else _) _ _ s
 rw[if_neg (by omega)]
 refine ae (fz ht.typeIs F.J1 ?_)
 refine cq (fun dY=>absurd dY (by decide)) (fun _=>?_)
 refine ae (rj ?_)
 refine ae (r8 (PyProof.Rows.getItem_tuple (j:=i) ht (by omega) (by omega) (we (by omega) (by omega)) hx ?_))
 refine ae (jz ho hd (x:=rl (i:Int)) rfl ?_)
 refine ae (wt ho hd (by simp) ?_)
 first
 |refine ao ⟨x,rfl,ao (hQ _ ?_ (xi ..))⟩
 |refine ae (ao (ao ⟨x,rfl,ao (hQ _ ?_ (xi ..))⟩))
 exact⟨_,gy _ ho (v8 (l9 hd _)),(Obj.cls_mapFields ..).trans hc,by
  rw[l9 hd];simp⟩
end
end PySem
end
section
namespace PySem
open PyProof.Rows
section
variable {prog:br}{w:World}{A:cg}{E:Value->af->Prop}{s:af}
theorem uF {it t:Addr}{Q:Option Value->af->Prop}(hh:A.handled=none)(hit:s.heap.lE it t (-1))
 (hQ:∀ h',Sk it s.heap h'->Q none { s with heap:=h' }):wpAny (model prog w) A (ua (.ref it)) Q E s:=by
 obtain⟨o,ho,hc,hd⟩:=id hit
 unfold ua
 refine ae (r8 (h9 (name:=j0 "__next__") hit.typeIs F.kJ
 (ff F.kJ hit.typeIs F.uT ?_ (F.tD _))))
 unfold Builtin.«reversed.__next__»
 refine ae (j8 (a:=(gz it,[])) rfl ?_)
 try dsimp only
 refine ae (jz ho hd (x:=.ref t) rfl ?_)
 refine ae (jz ho hd (x:=rl (-1)) rfl ?_)
 show wpAny _ _ (if(-1:Int)<0 then _ else _) _ _ s
 rw[if_pos (by decide)]
 refine ae (uz ?_)
 refine ae ?_
 wp_delta
 have ho2:=gy (xv (·.setIfInBounds 1 (rl (-1)))) ho (v8 (l9 hd _))
 refine ae (wt ho hd (by simp) ?_)
 refine wt ho2 (l9 hd _) (by simp) ?_
 first
 |show wpAny _ _ (Su (.type "StopIteration") [] >>= _) _ _ _
 |(refine ae ?_;show wpAny _ _ (Su (.type "StopIteration") [] >>= _) _ _ _)
 refine ae ?_
 simp only[Su,newTuple]
 refine ae (gk ?_ (by size_fits))
 refine ae (m:=Qx _ _) (j8 (a:=iq) (by first|rfl|(simp only[Qx];rfl)) ?_)
 refine gk ?_ (by size_fits)
 simp only[raiseNew]
 refine ae (wpAny_handled ?_)
 first|rw[show A.in1.handled=none from hh]|rw[hh]
 refine ae (ao (wpAny_throw ?_))
 refine ae (kz (T :="StopIteration") (b:=true) ⟨_,bg _ rfl,rfl⟩ isSubtype_stop ?_)
 refine ao (hQ _ ?_)
 have e1:Sk it s.heap ((s.heap.update it (xv (·.setIfInBounds 1 (rl (-1))))).update it (xv (·.setIfInBounds 0 iq))):=fun b u hb e =>
 (fh _ _ (cz hb)).trans ((fh _ _ (cz hb)).trans e)
 exact(e1.push _).push _
end
theorem Walks.Dc {prog:br}{w:World}{A:cg}(hh:A.handled=none)(I l:Addr)(hne:l≠I)(items:Array Value)(nW:(items.size:Int)<2 ^ 63):
  Walks prog w A I [I,l] [I] items.size (fun i v=>items[items.size-1-i]? = some v) (fun i h=>i<=items.size/\h.lE I l ((items.size:Int)-1-(i:Int))/\IsTup h l items) where
 sub:=fun b hb=>by simp at hb;simp [hb]
 frame:=fun _ _ _ x hk=>⟨x.1,x.2.1.at fun o e=>hk I (by simp) o e,let⟨o,ho,r⟩:=x.2.2;⟨o,hk l (by simp) o ho,r⟩⟩
 item:=fun i s Q E hi x hQ=>by
  have e:(items.size:Int)-1-(i:Int)=((items.size-1-i:Nat):Int):=by omega
  have hit:=x.2.1
  rw[e]at hit
  have hx:items[items.size-1-i]? = some (items[items.size-1-i]'(by omega)):=qy (by omega)
  refine tZ hit x.2.2 nW hx fun h' hit' iG=>?_
  have e2:((items.size-1-i:Nat):Int)-1=(items.size:Int)-1-((i+1:Nat):Int):=by omega
  rw[e2]at hit'
  exact hQ _ h' _ hx ⟨hi,hit',let⟨o,ho,r⟩:=x.2.2;⟨o,(iG.2 l hne).trans ho,r⟩⟩ fun b o hb eo=>iG.extBut b o (fun h=>hb (by simp [h])) eo
 done:=fun s Q E x hQ=>by
  have e:(items.size:Int)-1-(items.size:Int) = -1:=by omega
  have hit:=x.2.1
  rw[e]at hit
  exact uF hh hit fun h' he'=>hQ h' s.toks fun b o hb eo=>he' b o (fun h=>hb (by simp [h])) eo
 self:=fun _ _ _ _ x hQ=>BB x.2.1 hQ
section
variable {prog:br}{w:World}{A:cg}{E:Value->af->Prop}{s:af}
theorem F.yX:Slot "reversed" "__init__" "object.__init__" :=
 .of (owner :="object") (n :="__init__") (by rw[gr,dw];kernel_rfl) (by decide +kernel) (by decide +kernel) (by decide +kernel)
 (by first|exact .inl (by decide +kernel)|exact .inr (by decide +kernel)) (by rw[jq];kernel_rfl)
theorem F.nS:TypeCalled "reversed" "reversed.__new__" "object.__init__" :=
 ⟨by decide +kernel,by decide +kernel,⟨_,_,F.mro_reversed⟩,F.made_reversed,by decide +kernel,by rw[jq];kernel_rfl,F.yX⟩
theorem BA {t:Addr}{items:Array Value}{Q:Value->af->Prop}(ht:IsTup s.heap t items)(nW:(items.size:Int)<2 ^ 63)
  (h:Q (.ref s.heap.objs.size) { s with heap:=s.heap.push (OP t ((items.size:Int)-1)),toks:=s.toks+1+1 }):wpAny (model prog w) A (call (.type "reversed") [.ref t]) Q E s:=by
 refine Qv (Q₁:=fun obj s₁=>s₁.TypeIs obj "reversed" /\ Q obj s₁) F.nS (F.typeCall_reversed_1 _) F.entry_object_init
  (zZ ht nW ⟨⟨_,bg _ rfl,rfl⟩,h⟩) fun obj s₁ hq=>⟨hq.1,F.args_object_init_2 obj _,?_⟩
 exact object_init_meets F.nS.init.lookup F.nS.made (by decide) prog w A.in1 _ s₁ ⟨hq.1,rfl,hq.2⟩
theorem S8 {I l:Addr}{items:Array Value}(nW:items.size<=sizeLine):zH prog w I (fun i h=>i<=items.size/\h.lE I l ((items.size:Int)-1-(i:Int))/\IsTup h l items):=fun A s Q E fF hQ=>by
 have hit:=fF.2.1
 have hT:=hit.typeIs
 obtain⟨o,ho,hc,hd⟩:=id hit
 have hf:(items.size:Int)<2 ^ 63:=by have:=nW;rw[jx]at this;omega
 unfold kq
 refine ae (fz hT F.O6 ?_)
 refine cq (fun dY=>absurd dY (by decide)) (fun _=>?_)
 refine cq (fun dY=>absurd dY (by decide)) (fun _=>?_)
 refine ae (fz hT F.qB.lookup ?_)
 generalize hid:("reversed.__length_hint__" : String)=id0
 wp_delta
 rw[show splitId id0=some ("reversed","__length_hint__")from by subst hid;decide +kernel]
 subst hid
 refine ae (kz (T :="reversed") (b:=true) hT (by rw[jq];kernel_rfl) ?_)
 refine cq (fun dY=>absurd dY (by decide)) (fun _=>?_)
 refine cq (fun dY=>absurd dY (by decide +kernel)) (fun _=>?_)
 refine ae (uz ?_)
 refine ae (j8 (F.qB.bind _) ?_)
 refine ae (r8 (ff F.qB hT F.E8 ?_ (F.EE _)))
 unfold Builtin.«reversed.__length_hint__»
 refine ae (j8 (a:=gz I) rfl ?_)
 refine ae (jz ho hd (x:=.ref l) rfl ?_)
 refine cq (fun dY=>absurd dY (by simp)) (fun _=>?_)
 refine ae (Rk fF.2.2 hf ?_)
 refine ae (m:=asInt? _) (ao ?_)
 refine ae (m:=field (.ref I) 1) (jz ho hd (x:=rl ((items.size:Int)-1-((0:Nat):Int))) rfl ?_)
 show wpAny _ _ (if(items.size:Int)<((items.size:Int)-1-((0:Nat):Int))+1 then _ else _) _ _ _
 rw[if_neg (by omega)]
 refine ae (rj (ao ⟨_,rfl,?_⟩))
 refine ae (m:=asInt? _) (ao ?_)
 dsimp only
 have e0:(items.size:Int)-1-((0:Nat):Int)+1=items.size:=by omega
 rw[e0]
 have hfi:Builtin.List.listFitsIndex (items.size:Int)=true:=Ql (by omega) hf
 have htl:dt ((items.size:Int).toNat)=false:=by simp [dt];exact nW
 rw[hfi,htl]
 refine cq (fun dY=>absurd dY (by decide)) (fun _=>?_)
 refine cq (fun dY=>absurd dY (by omega)) (fun _=>?_)
 refine cq (fun dY=>absurd dY (by decide)) (fun _=>ao (hQ _ _))
end
end PySem
end
section
namespace L3
open PySem PySem.Spec PyProof.Rows L2
theorem UG {X:Cx}{pins:List (Addr×Obj)}{σ:L2.St}{H:Hp}{s:af}{h':Heap}{t':Nat}{it:Addr}{ys:List V}{aD:List Value}{n:Nat}(I:Inv X pins σ H s)(f:nD X pins H it)(k:∀ b o,b≠it->s.heap.get? b=some o->h'.get? b=some o)
  (new:h'.get? s.heap.objs.size=some { cls:=.type "list", data:=.seq aD.toArray n })(hv:aQ ys aD)(hz:ys.length<=sizeLine):Inv X pins σ (upd H s.heap.objs.size (.lst ys)) { s with heap:=h',toks:=t' }:=by
 have hS:=I.fresh
 have neS:∀ b o,s.heap.get? b=some o->b≠s.heap.objs.size:=fun b o e=>cb (bo e)
 have tr:∀ b u,H b=some u->b≠s.heap.objs.size:=fun b u e=>iQ e hS
 obtain⟨f0,f1,f2,f3,f4,f5⟩:=f
 refine I.step (g':=s.gens) (d':=s.drawn) (ch:=[it]) (fun b hb=>?_) (fun b o _ _ hc e _=>k b o (fun z=>hc (by simp [z])) e) (fun b o _ _ hc e _=>⟨o.slots,k b o (fun z=>hc (by simp [z])) e⟩) (fun b o _ e n=>by rw[cA (neS b o e)];exact n)
  (fun b o hc e=>⟨o,k b o (fun z=>hc (by simp [z])) e⟩) (fun b xs e=>by rw[cA (tr b _ e)];exact e) (fun b o u e=>by rw[cA (tr b _ e)];exact e) (fun b ps e=>⟨#[],by rw[cA (tr b _ e),e];simp⟩) (fun m hm=>?_) (fun b u e=>?_) I.bare
 ·have e:b=it:=by simpa using hb
  subst e
  exact⟨f3,f1,f4,f5⟩
 ·obtain⟨o,es,ep,ho,r⟩:=hm
  exact⟨o,es,ep,k _ o (cz f1) ho,r⟩
 ·by_cases hb:b=s.heap.objs.size
  ·subst hb
   rw[eI]at e;cases e
   exact⟨hz,aD,n,hv,new⟩
  ·rw[cA hb]at e
   refine(I.cG b u e).B9 (fun c v hc q=>k c v ?_ q) (fun c q=>by rw[cA (tr c _ q)];exact q) fun c xs q=>by rw[cA (tr c _ q)];exact q
   rcases hc with z|z
   ·rw[z];exact fun y=>by rw[y,f0]at e;cases e
   ·exact fun y=>by rw[y,f0]at z;cases z
theorem PJ {aD:List Value}{acc:Array Value}(h:Qe (fun i v=>aD.toArray[aD.toArray.size-1-i]? = some v) acc aD.toArray.size):acc=aD.reverse.toArray:=by
 obtain⟨h1,h2⟩:=h
 apply Array.ext
 ·rw[h1];simp
 ·intro i hi hi'
  have:aD.toArray[aD.toArray.size-1-i]? = some acc[i]:=h2 i acc[i] (qy hi)
  have hl:i<aD.length:=by rw[h1]at hi;simpa using hi
  have e:aD.toArray[aD.toArray.size-1-i]? = some (aD.reverse.toArray[i]):=by
   simp
  rw[e]at this
  exact(dy this).symm
theorem aQ.reverse:∀{vs:List V}{us:List Value},aQ vs us->aQ vs.reverse us.reverse
 |_,_,.nil=>.nil
 |_,_,.cons h t=>by simp only[kn];exact(aQ.reverse t).append (.cons h .nil)
section
variable {X:Cx}{C:bL}{sub:Nat->Nat->Bool}{E:XK}{a b c e o tg:Expr}{es:List Expr}{x y z:Ex}{xs:List Ex}{p p2 pos pos2:Pos}{kk:IK}
theorem Kn (hm:X.mg "list" = none)(hm2:X.mg "reversed" = none)(hc:X.calm=true)(ha:PA X [a] (lQ X.K (bU C sub E [x])))(hg:X.env.kindOf "list" = some .globalImplicit:=by kernel_rfl)(hg2:X.env.kindOf "reversed" = some .globalImplicit:=by kernel_rfl)
  (he:ar [.Call (.Name "reversed" p2) [a] [] pos2] X.env=(false,eval (.Call (.Name "reversed" p2) [a] [] pos2) X.env)::ar [] X.env:=by kernel_rfl)(dB:(dq pos (ar [] X.env)).any (·.1)=false:=by kernel_rfl)
  (he2:ar [a] X.env=(false,eval a X.env)::ar [] X.env:=by kernel_rfl)(hpl2:(dq pos2 (ar [] X.env)).any (·.1)=false:=by kernel_rfl):
  PE X (.Call (.Name "list" p) [.Call (.Name "reversed" p2) [a] [] pos2] [] pos) (bZ X.K (aI C sub E (.bit .list .rev [x]))):=by
 intro pins s σ H Q I ⟨σd,st,R,r,ok,q,hq⟩
 refine f7 (nU I hg hm A3 ?_ (by decide) (by decide))
 refine ey ?_ he dB
 rw[he]
 show wpAny _ _ (z9 ((false,eval (.Call (.Name "reversed" p2) [a] [] pos2) X.env)::dq pos (ar [] X.env))) _ _ s
 refine qg ?_
 refine f7 (nU I hg2 hm2 LV ?_ (by decide) (by decide))
 refine ey (bE (ha pos2 pins s σ H _ I ⟨σd,st,_,r,ok,q,fun vs H' z=>z⟩) fun us s1 ⟨vs,H1,I1,rv,ds,aC,dC,aP,rs,q1⟩=>?_) he2 hpl2
 match ds,rs,q1 with
 |[d],rs,q1 =>
  obtain⟨v,rfl,rd⟩:=rs.one
  obtain⟨u,rfl,ru⟩:=vals1 rv
  have q1:eE d aC fun as xs=>iF xs.reverse aC R:=q1
  obtain⟨l,ws,as,ys,rfl,sa,g,q1⟩:=mP aP rd q1
  cases ru
  have hh:X.A.handled=none:=I1.ok.hd hc
  have nil:∀{Q':List Value->af->Prop}{s':af},Q' [] s'->wpAny (model X.prog X.w) X.A (z9 (dq pos (ar [] X.env))) Q' X.xe s':=fun h=>rg h
  have fin:∀(aD:List Value)(s2:af)(h':Heap)(tk:Nat)(acc:Array Value)(cc:Nat),aQ ws aD->ws.length<=sizeLine->Inv X pins σ H1 s2->nD X pins H1 s1.heap.objs.size->(∀ b o,b∉[s1.heap.objs.size]->s2.heap.get? b=some o->h'.get? b=some o) ->
    h'.get? s2.heap.objs.size=some { cls:=.type "list", dict:=none,data:=.seq acc cc,slots:=#[] }->Qe (fun i v=>aD.toArray[aD.toArray.size-1-i]? = some v) acc aD.toArray.size->EP X pins σ Q (.ref s2.heap.objs.size) { s2 with heap:=h',toks:=tk }:=by
   intro aD s2 h' tk acc cc hv hz I2 f2 k2 hS hacc
   have ea:=PJ hacc
   subst ea
   refine⟨.ref s2.heap.objs.size,_,UG I2 f2 (fun b o hb e=>k2 b o (by simpa using hb) e) hS (aQ.reverse hv) (by simpa using hz),rfl,hq _ _ (.after dC ?_)⟩
   exact .iF aP g.reverse I2.fresh q1.2
  rcases sa with sa|sa
  ·obtain⟨aD,r1,pl,hz⟩:=I1.list sa
   have hl:=pl.isList
   have dP:l<s1.heap.objs.size:=by obtain⟨_,e,_⟩:=hl;exact bo e
   have hzz:aD.toArray.size<=sizeLine:=by simp;rw[<-r1.length];exact hz
   refine call_reversed_list hl (nil ?_)
   have I2:Inv X pins σ H1 { s1 with heap:=s1.heap.push (revObj l ((aD.toArray.size:Int)-1)) }:=I1.kept (t':=s1.toks) fun b o e=>ak _ e
   have W:=fun A hA=>Walks.listRev (prog:=X.prog) (w:=X.w) (A:=A) hA s1.heap.objs.size l (cb dP) aD.toArray
   refine zX (W _ hh) hzz (fun h st=>let⟨o,ho,hcl,_⟩:=st.2.1;⟨o,ho,hcl⟩) (by decide) (by decide) TZ ⟨Nat.zero_le _,⟨_,bg _ rfl,rfl,by simp [revObj]⟩,hl.push _⟩ (fun b hb=>?_) (by simp) fun h' tk acc cc k hS hacc=>?_
   ·show b<(s1.heap.push _).objs.size
    rw[jm]
    rcases List.mem_cons.mp hb with rfl|hb
    ·exact f9 _
    ·rcases List.mem_cons.mp hb with rfl|hb
     ·exact j1 dP
     ·cases hb
   ·exact fin aD _ h' tk acc cc r1 hz I2 (I1.KQ (bb _) I1.fresh) k hS hacc
  ·obtain⟨aD,r1,pl,hz⟩:=I1.tuple sa
   have dP:l<s1.heap.objs.size:=by obtain⟨_,e,_⟩:=pl;exact bo e
   have hzz:aD.toArray.size<=sizeLine:=by simp;rw[<-r1.length];exact hz
   have nW:(aD.toArray.size:Int)<2 ^ 63:=by have:=hzz;rw[jx]at this;omega
   refine BA pl nW (nil ?_)
   have I2:Inv X pins σ H1 { s1 with heap:=s1.heap.push (OP l ((aD.toArray.size:Int)-1)),toks:=s1.toks+1+1 }:=I1.kept (t':=s1.toks+1+1) fun b o e=>ak _ e
   have W:=fun A hA=>Walks.Dc (prog:=X.prog) (w:=X.w) (A:=A) hA s1.heap.objs.size l (cb dP) aD.toArray nW
   refine zX (W _ hh) hzz (fun h st=>let⟨o,ho,hcl,_⟩:=st.2.1;⟨o,ho,hcl⟩) (by decide) (by decide) (S8 hzz) ⟨Nat.zero_le _,⟨_,bg _ rfl,rfl,by simp [OP]⟩,let⟨o,ho,r⟩:=pl;⟨o,ak _ ho,r⟩⟩ (fun b hb=>?_) (by simp) fun h' tk acc cc k hS hacc=>?_
   ·show b<(s1.heap.push _).objs.size
    rw[jm]
    rcases List.mem_cons.mp hb with rfl|hb
    ·exact f9 _
    ·rcases List.mem_cons.mp hb with rfl|hb
     ·exact j1 dP
     ·cases hb
   ·exact fin aD _ h' tk acc cc r1 hz I2 (I1.KQ (bb _) I1.fresh) k hS hacc
theorem Lq (hm:X.mg "list" = none)(hm2:X.mg "reversed" = none)(ha:JA X C sub E [a] [x])(hc:X.calm=true:=by kernel_rfl)(hg:X.env.kindOf "list" = some .globalImplicit:=by kernel_rfl)(hg2:X.env.kindOf "reversed" = some .globalImplicit:=by kernel_rfl)
 (he:ar [.Call (.Name "reversed" p2) [a] [] pos2] X.env=(false,eval (.Call (.Name "reversed" p2) [a] [] pos2) X.env)::ar [] X.env:=by kernel_rfl)(dB:(dq pos (ar [] X.env)).any (·.1)=false:=by kernel_rfl)
 (he2:ar [a] X.env=(false,eval a X.env)::ar [] X.env:=by kernel_rfl)(hpl2:(dq pos2 (ar [] X.env)).any (·.1)=false:=by kernel_rfl):
 JE X C sub E (.Call (.Name "list" p) [.Call (.Name "reversed" p2) [a] [] pos2] [] pos) (.bit .list .rev [x]):=⟨Kn hm hm2 hc ha.h hg hg2 he dB he2 hpl2⟩
end
end L3
end
section
namespace L3
open PySem PySem.Spec PyProof.Rows L2
theorem Eg {K:ab}{h:Heap}{mg:Str->Option Value}(X:K.In h)(G:h.Ns cj mg){n:Str}{i:Int}{t:Tok}(a:jf K cj n=some (some (.int i t))):GC K mg n (.int i):=⟨_,.int i,lz X G a,⟨t,rfl⟩,fun _=>.int i⟩
theorem Dq {K:ab}{h:Heap}{mg:Str->Option Value}(X:K.In h)(G:h.Ns cj mg){n:Str}{x:Str}{w:List Nat}{t:Tok}(a:jf K cj n=some (some (.str x t)))(e:x=⟨w.toArray⟩):GC K mg n (.str w):=⟨_,.str x,lz X G a,⟨t,rfl⟩,fun _=>by rw[e];exact .str w⟩
noncomputable def OR:D->Value->Bool
 |.non,.none=>true
 |.bl b,.bool c=>b==c
 |.int i,.int j _=>i==j
 |.str w,.str x _=>w==x.cps.toList
 |_,_=>false
noncomputable def HY:List D->List Value->Bool
 |[],[]=>true
 |d::ds,u::us=>OR d u&&HY ds us
 |_,_=>false
noncomputable def VP:D->V
 |.bl b=>.bl b
 |.int i=>.int i
 |.str w=>.str ⟨w.toArray⟩
 |_=>.non
set_option tactic.hygienic true in
theorem UX {K:ab}{H:Hp}{d:D}{u:Value}(h:OR d u=true):L2.RelV (VP d) u/\Rep K H d (VP d):=by
 unfold OR at h
 split at h
 ·exact⟨rfl,.non⟩
 ·exact⟨by rw[eq_of_beq h];rfl,.bl _⟩
 ·exact⟨⟨_,by rw[eq_of_beq h]⟩,.int _⟩
 ·rename_i w x t
  exact⟨⟨t,by rw[eq_of_beq h]⟩,.str w⟩
 ·cases h
theorem IC {K:ab}{H:Hp}:∀{ds:List D}{us:List Value},HY ds us=true->aQ (ds.map VP) us/\aL K H ds (ds.map VP)
 |[],[],_=>⟨.nil,.nil⟩
 |d::ds,u::us,h=>by
  simp only[HY,ay]at h
  have r:=UX (K:=K) (H:=H) h.1
  have s:=IC (K:=K) (H:=H) h.2
  exact⟨.cons r.1 s.1,.cons r.2 s.2⟩
 |[],_::_,h=>by cases h
 |_::_,[],h=>by cases h
theorem P2 {K:ab}{h:Heap}{mg:Str->Option Value}(X:K.In h)(G:h.Ns cj mg){n:Str}{ds:List D}{p:Addr}{aD:Array Value}{k:Nat}{sl:Array (Option Value)}(a:jf K cj n=some (some (.ref p)))
 (l:K.lookup p=some ⟨.type "tuple", none,.seq aD k,sl⟩)(f:HY ds aD.toList=true)(z:Nat.ble aD.size 1000=true):GC K mg n (.tup ds):=by
 refine⟨_,.ref p,lz X G a,rfl,fun H=>?_⟩
 have s:=IC (K:=K) (H:=H) f
 exact .tup (.inr ⟨_,aD,k,l,rfl,rfl,rfl,tz (R7 (Nat.le_of_ble_eq_true z)),s.1⟩) s.2
end L3
end
section
namespace L3
open PySem PySem.Spec PyProof.Rows L2
noncomputable def Ds (hi:Int)(n:Nat):It:=⟨fun i _=>i<n,fun i H x H'=>H'=H/\x=.int (hi-i),fun i _=>n<=i⟩
theorem QP {P:br}{w:World}{K:ab}{tg:Expr}(it:Addr)(lo:Int)(n:Nat):Turn P w K tg (Ds lo n) [it] it (fun i h=>wa h it (lo+(i:Nat)*(-1)) ((n:Int)-(i:Nat)) (-1)) where
 mem:=by simp
 obj:=fun i h st b hb=>by
  have e:b=it:=by simpa using hb
  subst e
  exact⟨_,st,fun v z=>by
   have z':Ry _=Data.cell v:=z
   cases z'⟩
 keep:=fun i h h' st k=>k it (by simp) _ st
 item:=by
  intro X hP hw hK hc i pins s σ H E I hf st hg
  subst hP hw hK
  obtain⟨f0,f1,f2,f3,f4,f5⟩:=hf it (by simp)
  have W:=Rz (prog:=X.prog) (w:=X.w) (I.ok.hd hc) it lo (-1) n
  refine W.item i s _ _ hg st fun v h' tk hv aA kk=>?_
  obtain⟨t,rfl⟩:=hv
  have I1:Inv X pins σ H { s with heap:=h',toks:=tk }:=I.turned (fun b o hb e=>kk b o (by simpa using hb) e) f0 f1 f3 f4 f5
  refine⟨_,rfl,C6 (s:={ s with heap:=h',toks:=tk }) (n :="range_iterator") aA rfl rfl (by decide) ⟨.int (lo-i),H,I1,⟨t,?_⟩,⟨rfl,rfl⟩,aA,fun b hb=>(hf b hb).1⟩⟩
  congr 1;omega
 done:=by
  intro X hP hw hK hc i pins s σ H E I hf st hg
  subst hP hw hK
  obtain⟨f0,f1,f2,f3,f4,f5⟩:=hf it (by simp)
  exact uc (I.ok.hd hc) st (by have:n<=i:=hg;omega) fun h' eb=>⟨rfl,I.turned (t':=s.toks) (fun b o hb e=>eb b o hb e) f0 f1 f3 f4 f5⟩
 self:=fun _ _ _ _ _ st h=>ue st h
theorem UK {K:ab}{H1:Hp}{aC:aB}(lo:Int)(n:Nat):BO K (Ds lo n) [] (oG lo n) H1 aC where
 go:=fun i H st d s ok _ e=>by
  have:=(List.getElem?_eq_some_iff.mp e).1
  show i<n
  simpa [oG]using this
 yld:=fun i H st d x H' s ok _ e ⟨e',h⟩=>by
  subst e' h
  simp only[oG,bc,dh]at e
  obtain⟨k,e1,rfl⟩:=e
  have:k=i:=by
   rw[lh]at e1
   obtain⟨_,e2⟩:=e1
   simp at e2
   exact e2.symm
  subst this
  exact⟨.refl,ok,.int _⟩
 stop:=fun i H st s ok _ l=>by show n<=i;simpa [oG]using l
section
variable {X:Cx}{tg:Expr}
theorem PC {pins:List (Addr×Obj)}{σ:L2.St}{H:Hp}{s:af}{R:It->Hp->Prop}{E:Value->af->Prop}{lo hi:Int}{t u v:Tok}{tk:Nat}(I:Inv X pins σ H s) (h1 : -(2 ^ 62)<=lo)(h2:lo<2 ^ 62) (h3 : -(2 ^ 62)<=hi)(h4:hi<2 ^ 62)
  (q:R (Ds lo (lo-hi).toNat) H):wpAny (model X.prog X.w) X.A (ub (.ref s.heap.objs.size)) (Q4 X pins σ tg R) E { s with heap:=s.heap.push { cls:=.type "range", data:=.fields #[.int lo t,.int hi u,.int (-1) v] },toks:=tk }:=by
 refine xy (Sa ..) (PySem.W.small_down h1 h2 h3 h4) ?_
 have I1:Inv X pins σ H { s with heap:=s.heap.push { cls:=.type "range", data:=.fields #[.int lo t,.int hi u,.int (-1) v] },toks:=tk }:=I.kept fun b o e=>ak _ e
 refine⟨(s.heap.push { cls:=.type "range", data:=.fields #[.int lo t,.int hi u,.int (-1) v] }).objs.size,[(s.heap.push { cls:=.type "range", data:=.fields #[.int lo t,.int hi u,.int (-1) v] }).objs.size],_,_,H,rfl,
  I1.kept (t':=tk) fun b o e=>ak _ e,QP _ lo (lo-hi).toNat,?_,fun b hb=>?_,q⟩
 ·have e1:lo+((0:Nat):Int)*(-1)=lo:=by simp
  have e2:(((lo-hi).toNat:Nat):Int)-((0:Nat):Int)=si lo hi (-1):=by rw[PySem.W.rangeSize_downNat];omega
  show wa _ _ (lo+((0:Nat):Int)*(-1)) ((((lo-hi).toNat:Nat):Int)-((0:Nat):Int)) (-1)
  rw[e1,e2]
  exact bg _ rfl
 ·have e:b=(s.heap.push { cls:=.type "range", data:=.fields #[.int lo t,.int hi u,.int (-1) v] }).objs.size:=by simpa using hb
  subst e
  exact I1.KQ (bb _) (I1.cG.fresh (bb _))
variable {C:bL}{sub:Nat->Nat->Bool}{E:XK}{a b c:Expr}{x y z:Ex}{p pos:Pos}
set_option tactic.hygienic true in
theorem TJ {d d' d'':L3.D}{st:aB}{R:List Nat->List L3.D->Prop}(h:gN (some .range) [d,d',d''] st R):∃ i j c,d=.int i/\d'=.int j/\d''=.int c:=by
 unfold gN at h
 split at h
 all_goals first|(rename_i h1 h2;cases h2;exact⟨_,_,_,rfl,rfl,rfl⟩)|(rename_i h1 h2;cases h2)|(rename_i h1 h2;cases h1)|exact h.elim
theorem Pw (m:bY C C)(hm:X.mg "range" = none)(ha:JA X C sub E [a,b,c] [x,y,z])(hg:X.env.kindOf "range" = some .globalImplicit:=by kernel_rfl)
  (hs:ar [a,b,c] X.env=[(false,eval a X.env),(false,eval b X.env),(false,eval c X.env)]:=by kernel_rfl)(hs2:ar [b,c] X.env=[(false,eval b X.env),(false,eval c X.env)]:=by kernel_rfl):
  JI X C sub E tg (.Call (.Name "range" p) [a,b,c] [] pos) (some .range) [x,y,z]:=⟨by
 intro pins s σ H R I ⟨σd,st,M,r,ok,q,hq⟩
 refine Call_ (nU I hg hm T5 (ey (bE (ha.h pos pins s σ H _ I ⟨σd,st,_,r,ok,rJ [x,y,z] m q,fun vs H' z=>z⟩) fun us s1 ⟨vs,H1,I1,rv,ds,aC,dC,aP,rs,l1,q1⟩=>?_) (by rw[hs,hs2]) (by rw[hs2];rfl)))
 obtain⟨d,d',d'',rfl⟩:∃ d d' d'',ds=[d,d',d'']:=by
  match ds,l1 with
  |[d,d',d''],_=>exact⟨d,d',d'',rfl⟩
 have q1:gN (some .range) [d,d',d''] aC fun as xs=>M as xs aC:=q1
 obtain⟨i,j,c,rfl,rfl,rfl⟩:=TJ q1
 cases rs with|cons r1 rs=>cases rs with|cons r2 rs=>cases rs with|cons r3 rs =>
  cases rs
  cases r1.int_inv;cases r2.int_inv;cases r3.int_inv
  rw[DM]at q1
  obtain⟨rfl,⟨a1,a2⟩,⟨b1,b2⟩,q1⟩:=q1
  cases rv with|cons v1 rv=>cases rv with|cons v2 rv=>cases rv with|cons v3 rv =>
   cases rv
   obtain⟨t1,rfl⟩:=v1
   obtain⟨t2,rfl⟩:=v2
   obtain⟨t3,rfl⟩:=v3
   exact call_range_3 (by decide) (PC I1 a1 a2 b1 b2 (hq _ _ ⟨_,_,aC,dC,aP,UK _ _,q1⟩))⟩
end
end L3
end
section
namespace L3
open PySem PySem.Spec PyProof.Rows L2
noncomputable def Fs:D->Qo
 |.bl b=>.bool b
 |.int i=>.int i
 |.str w=>.str ⟨w.toArray⟩
 |_=>.none
noncomputable def Lo:D->Bool
 |.non=>true
 |.bl _=>true
 |.int _=>true
 |.str _=>true
 |_=>false
noncomputable def wR:List D->List D->List (Str×PyData)
 |.str w::ks,v::vs=>(⟨w.toArray⟩,Fs v)::wR ks vs
 |_,_=>[]
noncomputable def VI:List D->List D->Bool
 |[],[]=>true
 |.str _::ks,v::vs=>Lo v&&VI ks vs
 |_,_=>false
theorem Cz {v:D}(h:Lo v=true):tI (Fs v)=v/\oJ (Fs v)=true:=by
 cases v<;>first|exact⟨rfl,rfl⟩|cases h
theorem RS:∀{ks vs:List D},VI ks vs=true->((wR ks vs).all fun p=>oJ p.2)=true/\ks=(wR ks vs).map (fun p=>.str p.1.cps.toList)/\vs=(wR ks vs).map (fun p=>tI p.2)
 |[],[],_=>⟨rfl,rfl,rfl⟩
 |.str w::ks,v::vs,h=>by
  simp only[VI,ay]at h
  obtain⟨a,b,c⟩:=RS h.2
  obtain⟨d,e⟩:=Cz h.1
  refine⟨?_,?_,?_⟩
  ·simp only[wR,lx,e,a,df]
  ·simp only[wR,av];rw[<-b]
  ·simp only[wR,av,d];rw[<-c]
 |[],_::_,h=>by cases h
 |.str _::_,[],h=>by cases h
 |.non::_,_,h=>by cases h
 |.bl _::_,_,h=>by cases h
 |.int _::_,_,h=>by cases h
 |.tup _::_,_,h=>by cases h
 |.ref _::_,_,h=>by cases h
 |.dA _ _::_,_,h=>by cases h
 |.bP _::_,_,h=>by cases h
 |.exc _::_,_,h=>by cases h
theorem Dr {K:ab}{h:Heap}{mg:Str->Option Value}(X:K.In h)(G:h.Ns cj mg){n:Str}{ks vs:List D}{p:Addr}{es:Array DictEntry}{ep:Nat}(a:jf K cj n=some (some (.ref p)))
 (l:K.lookup p=some ⟨.type "dict", none,.dict es ep,#[]⟩)(f:(KTD.rowsLook rm es.toList (wR ks vs)&&VI ks vs && !(p==nv))=true):GC K mg n (.dA ks vs):=by
 simp only[ay]at f
 obtain⟨⟨f1,f2⟩,f3⟩:=f
 obtain⟨a1,a2,a3⟩:=RS f2
 refine⟨_,.ref p,lz X G a,rfl,fun H=>.dA ⟨wR ks vs,?_,a1,a2,a3⟩⟩
 simp only[wj,l,f1,f3]
 rfl
end L3
end
section
namespace L3
open PySem PySem.Spec PyProof.Rows L2 PySem.SeqAt
theorem L4 {β:Type}(n:Nat)(b:β)(f:Nat->β->Sem (ForInStep β)):forIn [0:n] b f=forIn (wx 0 n 1) b f:=by
 rw[Std.Legacy.Range.forIn_eq_forIn_range']
 have iZ:([0:n]:zr).size=n:=by simp [Std.Legacy.Range.size]
 show forIn (wx 0 ([0:n]:zr).size 1) b f=_
 rw[iZ]
theorem CQ {prog:br}{w:World}{A:cg}{E:Value->af->Prop}{s:af}{t:Addr}{items:Array Value}{x:Value}{e:Value->Bool}{j:Nat}{P:Fin->af->Prop}(ht:IsTup s.heap t items)
  (he:∀ y,y∈items->EqAt A s y x (e y))(hj:j<items.size)(hit:e items[j]=true)(hno:∀ m (hm:m<items.size),m<j->e items[m]=false)
  (h:P (.done (.ret (.int j s.toks))) { s with toks:=s.toks+1 }):wpAny (model prog w) A (Builtin.«tuple.index» ⟨[.ref t,x],[]⟩) P E s:=by
 show wpAny _ _ (gj (.ref t) >>= _) _ _ s
 refine ae (xn ht ?_)
 show wpAny _ _ (forIn [0:min items.size items.size] _ _ >>= _) _ _ s
 rw[Nat.min_self,L4]
 refine ae (j2 (Q:=fun(b:Option PySem.Fin×Unit) s'=>b.1=some (.done (.ret (.int j s.toks)))/\s' = { s with toks:=s.toks+1 }) (tm (β:=Option PySem.Fin×Unit) _ (fun rest b s'=>s'=s/\b.1=none/\∃ i,rest=wx i (items.size-i) 1/\i<=j) _ ?_ ?_ _ _ ⟨rfl,rfl,0,rfl,cu _⟩) ?_ fun _ _ z=>z)
 ·rintro i rest b s' ⟨rfl,hb,k,hk,hkj⟩
  have dP:k<items.size:=by omega
  have e1:items.size-k=(items.size-(k+1))+1:=by omega
  rw[e1,List.range'_succ]at hk
  injection hk with h1 h2
  subst h1
  have hg:items[i]? = some items[i]:=by simp [dP]
  rw[hg]
  show wpAny _ _ (eqBool items[i] x >>= _) _ _ _
  refine ae (he _ (Array.getElem_mem dP) prog w _ _ ?_)
  by_cases hij:i=j
  ·subst hij
   rw[hit]
   exact ae (ae (rj (ao (ao ⟨rfl,rfl⟩))))
  ·rw[hno i dP (by omega)]
   exact ao ⟨rfl,rfl,i+1,h2,by omega⟩
 ·rintro b s' ⟨_,_,i,hi,hij⟩
  have:(wx i (items.size-i) 1).length=0:=by rw[<-hi];rfl
  simp at this
  omega
 ·rintro⟨b1,b2⟩ s' ⟨hb,rfl⟩
  simp only at hb
  subst hb
  exact ao h
end L3
end
section
namespace L3
open PySem PySem.Spec PyProof.Rows L2 PySem.SeqAt
section
variable {X:Cx}
theorem K6 {pins:List (Addr×Obj)}{s:af}{σ:L2.St}{H:Hp}{st:aB}(I:Inv X pins σ H s)(ok:aS X.K st H){ds:List D}{vs:List V}{aD:List Value}{d:D}{v:V}{u:Value}{A:cg}
  (g:aL X.K H ds vs)(r:aQ vs aD)(p:dW st ds)(pd:plainS st d)(rd:Rep X.K H d v)(rv:RelV v u)(hu:A.units+178<cLine):
  ∃ e:Value->Bool,(∀ y,y∈aD.toArray->EqAt A.in1 s y u (e y))/\∀ j (hj:j<aD.length)(hj':j<ds.length),e aD[j]=bT st ds[j] d:=by
 classical
 have hD:mH=80:=rfl
 have item:∀(d':D)(v':V)(y:Value),d'∈ds->Rep X.K H d' v'->RelV v' y->EqAt A.in1 s y u (bT st d' d):=fun d' v' y m r' bJ=>by
  have h1:=jN m
  have h2:=p.2
  exact(OO I ok 80 (by omega) (gQ p.1 m) pd.1 r' bJ rd rv (by simp only[fj];omega)).2.1
 let e:Value->Bool:=fun y=>decide (∃ d' v',d'∈ds/\Rep X.K H d' v'/\RelV v' y/\bT st d' d=true)
 have he:∀(d':D)(v':V)(y:Value),d'∈ds->Rep X.K H d' v'->RelV v' y->e y=bT st d' d:=fun d' v' y m r' bJ=>by
  show decide _=_
  cases q:bT st d' d with
  |true=>exact decide_eq_true ⟨d',v',m,r',bJ,q⟩
  |false =>
   refine decide_eq_false fun⟨d2,v2,m2,r2,rv2,q2⟩=>?_
   cases RelV.inj bJ rv2
   have:=J6 I ok _ (bb _) (gQ p.1 m) (gQ p.1 m2) r' r2
   subst this
   rw[q]at q2;cases q2
 refine⟨e,fun y hy=>?_,fun j hj hj'=>?_⟩
 ·obtain⟨j,hj,rfl⟩:=Array.mem_iff_getElem.mp hy
  obtain⟨v',e1,e2⟩:=aQ.at r hj
  obtain⟨d',e3,e4⟩:=aL.get' g e1
  rw[he d' v' _ (bf e3) e4 e2]
  exact item d' v' _ (bf e3) e4 e2
 ·obtain⟨v',e1,e2⟩:=aQ.at r (by simpa using hj)
  obtain⟨d',e3,e4⟩:=aL.get' g e1
  have e5:ds[j]=d':=(List.getElem?_eq_some_iff.mp e3).2
  rw[e5]
  exact he d' v' _ (bf e3) e4 (by simpa using e2)
theorem wW {st:aB}{d:D}:∀{ds:List D}{j:Nat},findD st d ds=some j->∃ hj:j<ds.length,bT st ds[j] d=true/\∀ m (hm:m<ds.length),m<j->bT st ds[m] d=false
 |[],_,h=>by cases h
 |x::r,j,h=>by
  have h:(if bT st x d=true then some 0 else(findD st d r).map (·+ 1))=some j:=h
  by_cases c:bT st x d=true
  ·rw[if_pos c]at h;cases h
   exact⟨by simp,c,fun m _ hm=>by omega⟩
  ·rw[if_neg c]at h
   obtain⟨k,e,rfl⟩:=Option.map_eq_some_iff.mp h
   obtain⟨h1,h2,h3⟩:=wW e
   refine⟨by simpa using h1,by simpa using h2,fun m hm hl=>?_⟩
   cases m with
   |zero=>simpa using c
   |succ m=>simpa using h3 m (by simpa using hm) (by omega)
theorem index_list {pins:List (Addr×Obj)}{s:af}{σ:L2.St}{H:Hp}{st:aB}{R:VK}{ds:List D}{vs:List V}{d:D}{v:V}{u:Value}{a:Addr}{j:Nat}(hu:X.A.units+180<cLine)(I:Inv X pins σ H s)(ok:aS X.K st H)(f:dQ X.K H a vs)(g:aL X.K H ds vs)
  (rd:Rep X.K H d v)(rv:RelV v u)(pd:plainS st d)(ps:dW st ds)(hj:findD st d ds=some j)(q:R (.int (j:Nat)) st):wpAny (model X.prog X.w) X.A (call (.builtin "list.index") [.ref a,u]) (EP X pins σ (QD X.K H st R)) X.xe s:=by
 obtain⟨aD,r1,p1,hz⟩:=I.list f
 obtain⟨e,he,ha⟩:=K6 I ok g r1 ps pd rd rv (A:=X.A) (by omega)
 obtain⟨h1,h2,h3⟩:=wW hj
 have l1:=g.length
 have l2:=r1.length
 have hn:=rM
 obtain⟨⟨cls,dd,data,sl⟩,ho,hc,n,hd⟩:=id p1.isList
 simp only at hc hd
 subst hc hd
 refine l6 tu ⟨_,ho,rfl⟩ PySem.F.entry_list_index (PySem.F.args_list_index_2 _ _)
  (list_indexAt a aD.toArray n dd sl u e j (by simp;omega) (by omega) ?_ ?_) ⟨ho,he,?_⟩
 ·show e aD[j]=true
  rw[ha j (by omega) h1];exact h2
 ·intro m hm hl
  have hm:m<aD.length:=by simpa using hm
  show e aD[m]=false
  rw[ha m hm (by omega)];exact h3 m (by omega) hl
 ·exact⟨.int j,H,I.tok _,⟨_,rfl⟩,.here ok (.int _) q⟩
theorem PY {pins:List (Addr×Obj)}{s:af}{σ:L2.St}{H:Hp}{st:aB}{R:VK}{ds:List D}{vs:List V}{d:D}{v:V}{u:Value}{a:Addr}{j:Nat}(hu:X.A.units+180<cLine)(I:Inv X pins σ H s)(ok:aS X.K st H)(f:eS X.K H a vs)(g:aL X.K H ds vs)
  (rd:Rep X.K H d v)(rv:RelV v u)(pd:plainS st d)(ps:dW st ds)(hj:findD st d ds=some j)(q:R (.int (j:Nat)) st):wpAny (model X.prog X.w) X.A (call (.builtin "tuple.index") [.ref a,u]) (EP X pins σ (QD X.K H st R)) X.xe s:=by
 obtain⟨aD,r1,p1,hz⟩:=I.tuple f
 obtain⟨e,he,ha⟩:=K6 I ok g r1 ps pd rd rv (A:=X.A) (by omega)
 obtain⟨h1,h2,h3⟩:=wW hj
 have l1:=g.length
 have l2:=r1.length
 refine ff se p1.typeIs PySem.F.entry_tuple_index (CQ p1 he (j:=j) (by simp;omega) ?_ ?_ ⟨_,rfl,?_⟩) (PySem.F.args_tuple_index_2 _ _)
 ·show e aD[j]=true
  rw[ha j (by omega) h1];exact h2
 ·intro m hm hl
  have hm:m<aD.length:=by simpa using hm
  show e aD[m]=false
  rw[ha m hm (by omega)];exact h3 m (by omega) hl
 ·exact⟨.int j,H,I.tok _,⟨_,rfl⟩,.here ok (.int _) q⟩
end
section
variable {X:Cx}{C:bL}{sub:Nat->Nat->Bool}{E:XK}{e o:Expr}{x y:Ex}{pos apos kO:Pos}
noncomputable def ZV:D->Bool
 |.tup _=>true
 |_=>false
theorem J5 {K:ab}{H:Hp}{st:aB}{d:D}{v:V}{Kk:List Nat->List D->Prop}(ok:aS K st H)(r:Rep K H d v)(h:eE d st Kk):∃ a vs as ds,v=.ref a/\aL K H ds vs/\((ZV d=false/\dQ K H a vs)∨(ZV d=true/\eS K H a vs))/\Kk as ds:=by
 unfold eE at h
 split at h
 ·obtain⟨a,vs,rfl,f,g⟩:=r.bS
  exact⟨a,vs,_,_,rfl,g,.inr ⟨rfl,f⟩,h⟩
 ·cases r.cP
  obtain⟨ds,e,h⟩:=eB h
  obtain⟨vs,g1,g2⟩:=ok.lst e
  exact⟨_,vs,_,_,rfl,g2,.inl ⟨rfl,dQ.of g1⟩,h⟩
 ·obtain⟨a,vs,rfl,f,g⟩:=r.lC
  exact⟨a,vs,_,_,rfl,g,.inl ⟨rfl,f.sq⟩,h⟩
 ·exact h.elim
theorem OY (m:bY C C)(hu:X.A.units+180<cLine)(ho:JE X C sub E o x)(ha:JA X C sub E [e] [y])(kA:fx o "index" X.env (eval o X.env)=eval o X.env:=by kernel_rfl)
  (sF:((dq pos (ar [e] X.env)).all (fun x=>!x.1)&&(my pos (jy [] X.env)).all (fun x=>x.1.isSome)&&decide ([e].length+([]:List pz).length+(if([]:List pz).isEmpty then 0 else 1)<30))=true:=by kernel_rfl)(kB:(apos.endLine==pos.line)=true:=by kernel_rfl)
  (hs:ar [e] X.env=[(false,eval e X.env)]:=by kernel_rfl):
  JE X C sub E (.Call (.Attribute o "index" apos) [e] [] pos) (.cB .index x [y]):=⟨by
 intro pins s σ H Q I ⟨σd,st,R,r,ok,q,hq⟩
 refine ur kA sF kB rfl (bE (ho.h pins s σ H _ I ⟨σd,st,_,r,ok,q,fun v H' z=>z⟩) fun v s1 ⟨x1,H1,I1,r1,d1,aC,dC,aP,rd1,q1⟩=>?_)
 obtain⟨rc,q1⟩:=q1
 obtain⟨a,vs,as,ds,rfl,g,ty,-⟩:=J5 aP rd1 rc
 cases r1
 have rest:∀ id:String,(∀(s2:af)(H2:Hp)(aG:aB)(d2:D)(v2:V)(u2:Value),Inv X pins σ H2 s2->Step H1 aC H2 aG->aS X.K aG H2->Rep X.K H2 d2 v2->RelV v2 u2->jX .index d1 [d2] aG R->wpAny (model X.prog X.w) X.A (call (.builtin id) [.ref a,u2]) (EP X pins σ (QD X.K H2 aG R)) X.xe s2) ->
   wpAny (model X.prog X.w) X.A (wb pos (.builtin id) [.ref a] (dq pos (ar [e] X.env)) []) (EP X pins σ Q) X.xe s1:=by
  intro id hc
  have hA:=ha.h pos pins s1 σ H1 _ I1 ⟨σd,aC,_,r.step ok dC,aP,rJ [y] m q1,fun vs H' z=>z⟩
  rw[hs]at hA ⊢
  refine ke (by rfl) (om ?_)
  refine bE hA fun us s2 ⟨ws,H2,I2,r2,es,aG,gM,cD,rs2,l2,q2⟩=>?_
  match es,l2,ws,rs2,us,r2 with
  |[d2],_,_,.cons rd2 .nil,_,.cons rv2 .nil =>
   exact bE (hc s2 H2 aG d2 _ _ I2 gM cD rd2 rv2 q2) fun w s3 ⟨v3,H3,I3,r3,z⟩=>⟨v3,H3,I3,r3,hq _ _ (.after (dC.trans gM) z)⟩
 rcases ty with⟨tk,ty⟩|⟨tk,ty⟩
 ·obtain⟨aD,_,p1,_⟩:=I1.list ty
  refine⟨"list","list.index", mn,tu,PySem.F.type_list_index,p1.isList.typeIs,fun b e=>?_,rest _ fun s2 H2 aG d2 v2 u2 I2 gM cD rd2 rv2 q2=>?_⟩
  ·cases e
   obtain⟨o,n,e,c,hd,_⟩:=p1
   exact⟨o,e,hd⟩
  ·obtain⟨a',vs2,as2,ds2,e2,g2,ty2,pd,ps,q2⟩:=J5 cD (rd1.step aP gM) q2
   cases e2
   obtain⟨j,hj,q2⟩:=eJ q2
   rcases ty2 with⟨tk2,ty2⟩|⟨tk2,ty2⟩
   ·exact index_list hu I2 cD ty2 g2 rd2 rv2 pd ps hj q2
   ·rw[tk]at tk2;cases tk2
 ·obtain⟨aD,_,p1,_⟩:=I1.tuple ty
  refine⟨"tuple","tuple.index", PySem.F.plainAttrs_tuple,se,PySem.F.type_tuple_index,p1.typeIs,fun b e=>?_,rest _ fun s2 H2 aG d2 v2 u2 I2 gM cD rd2 rv2 q2=>?_⟩
  ·cases e
   exact I1.Gq ty
  ·obtain⟨a',vs2,as2,ds2,e2,g2,ty2,pd,ps,q2⟩:=J5 cD (rd1.step aP gM) q2
   cases e2
   obtain⟨j,hj,q2⟩:=eJ q2
   rcases ty2 with⟨tk2,ty2⟩|⟨tk2,ty2⟩
   ·rw[tk]at tk2;cases tk2
   ·exact PY hu I2 cD ty2 g2 rd2 rv2 pd ps hj q2⟩
end
end L3
end
section
namespace L3
open PySem PySem.Spec PyProof.Rows L2 PySem.SeqAt
noncomputable def tO (val:Nat->Str):Nat->Nat
 |0=>0
 |i+1=>if((a9 i).map val).any (·== val i)then tO val i else tO val i+1
theorem P7 (val:Nat->Str):∀ i,tO val i<=i
 |0=>bb _
 |i+1=>by
  have:=P7 val i
  unfold tO
  split<;>omega
section
variable {prog:br}{w:World}{A:cg}{R:Rq->af->Prop}{I:Addr}{fp wr:List Addr}{G:Array Qh->Array Qh->Prop}{n:Nat}{P:Nat->Value->Prop}{St:Nat->af->Prop}
noncomputable abbrev qM (prog:br)(w:World)(val:Nat->Str)(S:Addr)(i:Nat)(h:Heap):Prop:=h.SetOf (strKind prog w) S (fun k=>((a9 i).map val).any (·== k)) (tO val i)
theorem MB {val:Nat->Str}{S:Addr}{i:Nat}{h:Heap}(x:h.SetOf (strKind prog w) S (fun k'=>((a9 i).map val).any (·== k')||decide (k'=val i)) (if((a9 i).map val).any (·== val i)then tO val i else tO val i+1)):qM prog w val S (i+1) h:=by
 refine SetOf_congr x (fun k=>?_) rfl
 rw[l4,cx,List.any_append]
 congr 1
 simp only[av,e9,jk,List.any_nil,xo]
 by_cases e:k=val i
 ·subst e;simp
 ·rw[decide_eq_false e];symm;exact beq_eq_false_iff_ne.mpr fun z=>e z.symm
theorem UL (W:WalksS prog w A.in1 I fp wr G n P St)(S:Addr)(hSf:S∉fp)(val:Nat->Str)(hval:∀ i v,P i v->∃ t,v=.str (val i) t)(hb:n+1<tw):
 ∀(k i:Nat)(s:af),n-i=k->i<=n->St i s->qM prog w val S i s.heap->(∀ s',Moved (S::wr) G s s'->qM prog w val S n s'.heap->R (.ok (.ret .none)) s') ->
  kv (model prog w) A (.builtin "set.update.loop" ⟨[.ref S,.ref I],[]⟩) R s:=by
 have hSw:S∉wr:=fun h=>hSf (W.sub _ h)
 have hsub:∀ b∈wr,b∈S::wr:=fun b hb=>dj _ hb
 have keep:∀{i:Nat}{s s':af},qM prog w val S i s.heap->Moved wr G s s'->qM prog w val S i s'.heap:=fun⟨o,es,ep,t,ho,rest⟩ hm=>⟨o,es,ep,t,hm.heap S _ hSw ho,rest⟩
 intro k
 induction k with
 |zero =>
 intro i s hk hi fF hS hR
 obtain rfl:i=n:=by omega
 refine oz ll ?_
 rw[ot jd _]
 show wpAny _ A.in1 (ua (.ref I) >>= _) _ _ s
 refine ae (W.done s _ _ fF fun s' hm=>?_)
 show wpAny _ A.in1 (ret iq) _ _ s'
 exact ao (hR s' (hm.mono hsub) (keep hS hm))
 |succ k ih =>
 intro i s hk hi fF hS hR
 have dP:i<n:=by omega
 refine oz ll ?_
 rw[ot jd _]
 show wpAny _ A.in1 (ua (.ref I) >>= _) _ _ s
 refine ae (W.item i s _ _ dP fF fun v s' hP hst' hm=>?_)
 obtain⟨t,rfl⟩:=hval i v hP
 show wpAny _ A.in1 (j4 [zd (val i) t] (setAdd S (.str (val i) t)) >>= _) _ _ s'
 refine ae (gf ?_)
 unfold setAdd
 refine gf (ae ((strKind prog w).pyHash (k:=val i) (yg _ _ _ _) ?_))
 refine wpAny_setAddHashed_of (knd:=strKind prog w) (s:={ s' with toks:=s'.toks+1 }) (yg _ _ _ _) rfl (show qM prog w val S i s'.heap from keep hS hm) (by have:=P7 val i;omega) fun h' hsb hS2=>?_
 refine ao ⟨plainId_quiet jd _,ih (i+1) _ (by omega) dP (W.frame _ s' _ _ hst' (zu _) fun b hb o e=>?_) (MB hS2) fun s'' hm'' hS''=>?_⟩
 ·rw[hsb.2 b (fun h:b=S=>hSf (by rw[<-h];exact hb))];exact e
 ·refine hR s'' (Moved.trans W.gtrans ((hm.mono hsub).then_heap (zu _) fun b o hb e=>?_) hm'') hS''
  rw[hsb.2 b (fun h:b=S=>hb (by rw[h];exact fb))];exact e
end
section
variable {prog:br}{w:World}{A:cg}{E:Value->af->Prop}{s:af}
noncomputable abbrev iE (led:Bool):Obj:={ cls:=.type "set", dict:=none,data:=.set #[] 0 (.fresh 0 0 led) }
theorem E3 {l:Addr}{items:Array Value}{val:Nat->Str}{led:Bool}{Q:PySem.Fin->af->Prop}(hh:A.handled=none)(hl:s.heap.IsTuple l items)(hv:∀(i:Nat)(v:Value),items[i]? = some v->∃ t,v=.str (val i) t)(hb:items.size+1<tw)
  (h:∀(h':Heap)(tk:Nat),qM prog w val s.heap.objs.size items.size h'->(∀ b o,s.heap.get? b=some o->h'.get? b=some o)->Q (.done (.ret .none)) { s with heap:=h',toks:=tk }):
  wpAny (model prog w) A (Builtin.«set.__init__» ⟨[.ref s.heap.objs.size,.ref l],[]⟩) Q E { s with heap:=s.heap.push (iE led) }:=by
 obtain⟨ol,hol,hcl,nl,hdl⟩:=hl
 obtain⟨ocls,odict,odata,oslots⟩:=ol
 simp only at hcl hdl
 subst hcl;subst hdl
 have hS:(s.heap.push (iE led)).get? s.heap.objs.size=some (iE led):=bg _ rfl
 have hT:Rh { s with heap:=s.heap.push (iE led) } (.ref s.heap.objs.size) "set":=⟨_,hS,rfl⟩
 have hol':(s.heap.push (iE led)).get? l=some { cls:=.type "tuple", dict:=odict,data:=.seq items nl,slots:=oslots }:=ak _ hol
 have hsls:=PySem.F.sub_tuple_set
 have hslf:=PySem.F.sub_tuple_frozenset
 have hne:(fq "tuple" == fq "dict")=false:=by decide
 have hl1:(s.heap.push (iE led)).IsTuple l items:=⟨_,hol',rfl,nl,rfl⟩
 unfold Builtin.«set.__init__» noKeywords Builtin.Frozenset.updateFrom
 generalize hPI:ub=PI
 wp_walk
 subst hPI
 refine qs hl1 ?_
 refine ae (wpAny_runValue ?_)
 have hlS:l<s.heap.objs.size:=bo hol
 have hh3:A.in1.handled=none:=by simp [hh]
 have iZ:(s.heap.push (iE led)).objs.size=s.heap.objs.size+1:=jm ..
 have hneI:l≠(s.heap.push (iE led)).objs.size:=by rw[iZ];exact cb (j1 hlS)
 have hSf:s.heap.objs.size∉[(s.heap.push (iE led)).objs.size,l]:=by
  simp only[b9,bp,or_false,not_or]
  exact⟨by rw[iZ];exact cb (f9 _),pw hlS⟩
 refine UL ((Sg hh3 _ l hneI items).toS) s.heap.objs.size hSf val hv hb (items.size-0) 0 _ (by omega) (cu _) ⟨?hT1,?hT0⟩ ?hS0 ?hR
 case hT1=>exact⟨_,bg _ rfl,rfl,rfl⟩
 case hT0=>exact⟨_,ak _ hol',rfl,nl,rfl⟩
 case hS0=>exact SetOf_congr ((setObjOf_fresh (knd:=strKind prog w) led).setOf (ak _ hS) (by unfold tw;omega)) (fun _=>rfl) rfl
 case hR =>
  intro s' hm hS'
  obtain⟨h',g',d',tk',os'⟩:=s'
  have eg:g'=s.gens:=hm.gens
  have ed:d'=s.drawn:=hm.drawn
  have eo:os'=s.os:=hm.os
  subst eg;subst ed;subst eo
  show wpAny _ _ _ _ _ _
  refine ao ?_
  show wpAny _ _ (ret iq) _ _ _
  refine ao (h h' tk' hS' fun b o e=>?_)
  have hb1:b<s.heap.objs.size:=bo e
  exact hm.heap b o (by simp only[b9,bp,or_false,not_or];exact⟨Nat.ne_of_lt hb1,by rw[iZ];exact cb (j1 hb1)⟩) (ak _ (ak _ e))
set_option maxHeartbeats 6400000 in
theorem IX {l:Addr}{items:Array Value}{val:Nat->Str}{Q:Value->af->Prop}(hh:A.handled=none)(hl:s.heap.IsTuple l items)(hv:∀(i:Nat)(v:Value),items[i]? = some v->∃ t,v=.str (val i) t)(hb:items.size+1<tw)
 (h:∀(h':Heap)(tk:Nat),qM prog w val s.heap.objs.size items.size h'->(∀ b o,s.heap.get? b=some o->h'.get? b=some o)->Q (.ref s.heap.objs.size) { s with heap:=h',toks:=tk }):
 wpAny (model prog w) A (call (.type "set") [.ref l]) Q E s:=by
 obtain⟨c,tl,hmro⟩:=PySem.F.called_set.mro
 have hmade:=PySem.F.called_set.made
 have hsub:=PySem.F.called_set.sub
 refine Qj (z0 ?_)
 show wpAny _ _ (callAny (.type "set") _) _ _ _
 refine ao ⟨Code.quiet_builtin _ (by decide +kernel),oz PySem.F.entry_type_call ?_⟩
 rw[Around.under_plain (weight_type_call_type "set" [.ref l] []) rfl]
 have h1:=PySem.F.called_set.notType
 have h2:=PySem.F.called_set.canCreate
 have hct:=PySem.F.typeCall_set_1 (.ref l)
 repeat (any_goals (first|assumption|wp_step))
 refine mz (code_set_new_1 (.ref l) (E:=E) (Q₁:=fun obj s₁=>∃ led:Bool,obj=.ref s.heap.objs.size/\s₁ = { s with heap:=s.heap.push (iE led) }) fun led=>⟨led,rfl,rfl⟩) fun r s₁ hr=>?_
 cases r with
 |error e=>exact hr
 |ok fl =>
 cases fl with
 |ret obj =>
  obtain⟨led,rfl,rfl⟩:=hr
  have hT:Rh { s with heap:=s.heap.push (iE led) } (.ref s.heap.objs.size) "set":=⟨_,bg _ rfl,rfl⟩
  have hli:=PySem.F.called_set.init.lookup
  have hbi:=PySem.F.called_set.init.bind (.ref s.heap.objs.size)
  repeat (any_goals (first|assumption|wp_step))
  refine mz (codeAny_call_builtin (R:=wants (fun r s₂=>r=.none/\∃ h' tk,s₂ = { s with heap:=h',toks:=tk }/\qM prog w val s.heap.objs.size items.size h'/\(∀ b o,s.heap.get? b=some o->h'.get? b=some o)) E) PySem.F.called_set.init.plain PySem.F.entry_set_init (check_set_init_1 hT ?_)) fun r₂ s₂ hr₂=>?_
  ·exact E3 (by simp [hh]) hl hv hb fun h' tk hS hk=>⟨rfl,h',tk,rfl,hS,hk⟩
  ·cases r₂ with
  |error e=>exact hr₂
  |ok fl₂ =>
   cases fl₂ with
   |ret r =>
   obtain⟨rfl,h',tk,rfl,hS',hk'⟩:=hr₂
   repeat (any_goals (first|assumption|wp_step))
   exact h _ _ hS' hk'
   |_=>exact hr₂.elim
 |_=>exact hr.elim
end
end L3
end
section
namespace L3
open PySem PySem.Spec PyProof.Rows L2 PySem.SeqAt
noncomputable abbrev nN (ws:List (List Nat))(i:Nat):Str:=⟨(ws.getD i []).toArray⟩
theorem Tb (a b:List Nat):((⟨a.toArray⟩:Str)==⟨b.toArray⟩)=(a==b):=by
 by_cases h:a=b
 ·subst h;simp
 ·rw[beq_eq_false_iff_ne.mpr h]
  refine beq_eq_false_iff_ne.mpr fun e=>h ?_
  have e1:a.toArray=b.toArray:=congrArg Tc e
  simpa using e1
theorem RD (ws:List (List Nat)):∀(rest seen:List (List Nat)),ws=seen++rest->tO (nN ws) seen.length+zT seen rest=tO (nN ws) ws.length
 |[],seen,h=>by simp [h,zT]
 |w::r,seen,h=>by
  have ih:=RD ws r (seen++[w]) (by simp [h])
  rw[<-ih]
  have e1:nN ws seen.length=⟨w.toArray⟩:=by simp [nN,h]
  have e2:((a9 seen.length).map (nN ws)).any (·== nN ws seen.length)=seen.any (·== w):=by
   have e3:(a9 seen.length).map (nN ws)=seen.map fun x=>(⟨x.toArray⟩:Str):=by
    refine List.ext_getElem (by simp) fun i h1 h2=>?_
    have hi:i<seen.length:=by simpa using h1
    simp [nN,h,bq hi,aj hi]
   rw[e3,e1,kg]
   congr 1
   funext x
   exact Tb x w
  simp only[bh,be,ba,zT]
  have e5:tO (nN ws) (seen.length+1)=if seen.any (·== w)=true then tO (nN ws) seen.length else tO (nN ws) seen.length+1:=by rw[<-e2];rfl
  show _=tO (nN ws) (seen.length+1)+_
  rw[e5]
  by_cases c:seen.any (·== w)=true
  ·rw[if_pos c,if_pos c];omega
  ·rw[if_neg c,if_neg c];omega
theorem GL {K:ab}{H:Hp}:∀{ds:List D}{ws:List (List Nat)}{vs:List V}{us:List Value},strsOf ds=some ws->aL K H ds vs->aQ vs us->us.length=ws.length/\∀(i:Nat)(v:Value),us[i]? = some v->∃ t,v=.str (nN ws i) t
 |[],ws,_,_,h,.nil,.nil=>by cases h;exact⟨rfl,fun i v e=>by simp at e⟩
 |.str w::r,ws,_,_,h,.cons rd rs,.cons rv rvs=>by
  have h:(strsOf r).map (w :: ·)=some ws:=h
  obtain⟨ws',e,rfl⟩:=Option.map_eq_some_iff.mp h
  obtain⟨l,ih⟩:=GL e rs rvs
  refine⟨by simpa using l,fun i v e=>?_⟩
  cases i with
  |zero =>
   cases rd.str_inv
   obtain⟨t,rfl⟩:=rv
   simp at e
   exact⟨t,e.symm⟩
  |succ i=>exact ih i v (by simpa using e)
 |.non::_,_,_,_,h,_,_=>by cases h
 |.bl _::_,_,_,_,h,_,_=>by cases h
 |.int _::_,_,_,_,h,_,_=>by cases h
 |.tup _::_,_,_,_,h,_,_=>by cases h
 |.ref _::_,_,_,_,h,_,_=>by cases h
 |.dA _ _::_,_,_,_,h,_,_=>by cases h
 |.bP _::_,_,_,_,h,_,_=>by cases h
 |.exc _::_,_,_,_,h,_,_=>by cases h
theorem Pk {a b:D}{r:List D}{st:aB}{Q:VK}(h:gS .sH (a::b::r) st Q):False:=by
 unfold gS at h
 split at h<;>simp_all
section
variable {X:Cx}{C:bL}{sub:Nat->Nat->Bool}{E:XK}{a:Expr}{x:Ex}{p p2 pos pos2:Pos}
theorem Pd (hm:X.mg "len" = none)(hm2:X.mg "set" = none)(ha:JA X C sub E [a] [x])(hc:X.calm=true:=by kernel_rfl)(hg:X.env.kindOf "len" = some .globalImplicit:=by kernel_rfl)(hg2:X.env.kindOf "set" = some .globalImplicit:=by kernel_rfl)
  (he:ar [.Call (.Name "set" p2) [a] [] pos2] X.env=(false,eval (.Call (.Name "set" p2) [a] [] pos2) X.env)::ar [] X.env:=by kernel_rfl)(dB:(dq pos (ar [] X.env)).any (·.1)=false:=by kernel_rfl)
  (he2:ar [a] X.env=(false,eval a X.env)::ar [] X.env:=by kernel_rfl)(hpl2:(dq pos2 (ar [] X.env)).any (·.1)=false:=by kernel_rfl):
  JE X C sub E (.Call (.Name "len" p) [.Call (.Name "set" p2) [a] [] pos2] [] pos) (.bi .sH [x]):=⟨by
 intro pins s σ H Q I ⟨σd,st,R,r,ok,q,hq⟩
 refine f7 (nU I hg hm cU ?_ (by decide) (by decide))
 rw[he]
 refine ke (by show(false||(dq pos (ar [] X.env)).any (·.1))=false;rw[dB];rfl) (om ?_)
 show wpAny _ _ (z9 ((false,eval (.Call (.Name "set" p2) [a] [] pos2) X.env)::dq pos (ar [] X.env))) _ _ s
 refine qg ?_
 refine f7 (nU I hg2 hm2 Dj ?_ (by decide) (by decide))
 refine ey (bE (ha.h pos2 pins s σ H _ I ⟨σd,st,_,r,ok,q,fun vs H' z=>z⟩) fun us s1 ⟨vs,H1,I1,rv,ds,aC,dC,aP,rs,q1⟩=>?_) he2 hpl2
 match ds,rs,q1 with
 |[d],rs,q1 =>
  obtain⟨v,rfl,rd⟩:=rs.one
  obtain⟨u,rfl,ru⟩:=vals1 rv
  cases d with
  |tup es =>
   rw[G6]at q1
   obtain⟨ws,e1,hl,q1⟩:=eJ q1
   obtain⟨l,vs,rfl,f,g⟩:=rd.bS
   cases ru
   obtain⟨aD,r1,pl,hz⟩:=I1.tuple f
   obtain⟨hlen,hat⟩:=GL e1 g r1
   have hh:X.A.handled=none:=I1.ok.hd hc
   refine IX (val:=nN ws) hh (show s1.heap.IsTuple l aD.toArray from pl) (fun i v e=>hat i v (by simpa using e)) (by simp;unfold tw;omega) fun h' tk hS hk=>?_
   refine rg ?_
   have I2:Inv X pins σ H1 { s1 with heap:=h',toks:=tk }:=I1.kept hk
   obtain⟨o,es',ep,t,ho,hex,hd,hel,hmem,hb,hf,hn⟩:=hS
   refine call_len_set (s:={ s1 with heap:=h',toks:=tk }) ho hex hd hf (by unfold tw at hb;omega) ?_
   have hn2:es'.size=zT [] ws:=by
    rw[hn]
    have:=RD ws ws [] rfl
    simp only[ba,tO,yw]at this
    rw[this]
    simp [hlen]
   rw[hn2]
   exact⟨.int (zT [] ws:Nat),H1,I2.tok _,⟨_,rfl⟩,hq _ _ (.after dC (.here aP (.int _) q1))⟩
  |ref b =>
   obtain⟨_,_,z⟩:=eB (show cM aC b fun xs=>eT .sH xs aC R from q1)
   exact(show False from z).elim
  |_=>exact(show False from q1).elim
 |[],rs,q1=>exact(show False from q1).elim
 |_::_::_,rs,q1=>exact(Pk q1).elim⟩
end
end L3
end
section
namespace L3
open PySem PySem.Spec PyProof.Rows L2
theorem uE.qI {X:Cx}{C:bL}{n:Str}{i:Nat}{scope:Scope}{own cn:List Str}{fp:List Addr}{s:af}{H:Hp}{Ca:Addr}(h:uE X C n i):uE (mM X scope own cn fp s H Ca) C n i:=let⟨a,b⟩:=h;⟨a,b⟩
end L3
end
section
namespace L3
open PySem PySem.Spec PyProof.Rows L2
section
variable {K:ab}{H:Hp}
theorem str_inj {a b:List Nat}(h:(⟨a.toArray⟩:Str)=⟨b.toArray⟩):a=b:=by
 have:a.toArray=b.toArray:=congrArg Tc h
 simpa using this
theorem iW.get {f:List Nat}{d:D}:∀{fs:List (List Nat×D)}{ws:List (Str×V)},iW K H fs ws->bV fs f=some d->∃ v,ws.lookup (⟨f.toArray⟩:Str)=some v/\Rep K H d v
 |[],_,_,h=>by cases h
 |(g,e)::fs,[],r,_=>by cases r.1
 |(g,e)::fs,(g',v)::ws,r,h=>by
  obtain⟨r1,r2⟩:=r
  simp only[av,pe]at r1
  cases r2 with
  |cons rd rs =>
   simp only[bV]at h
   by_cases q:g=f
   ·rw[if_pos q]at h;cases h
    refine⟨v,?_,rd⟩
    simp [g8,r1.1,q]
   ·rw[if_neg q]at h
    obtain⟨v',e1,e2⟩:=iW.get (fs:=fs) (ws:=ws) ⟨r1.2,rs⟩ h
    refine⟨v',?_,e2⟩
    have:((⟨f.toArray⟩:Str)==g')=false:=beq_eq_false_iff_ne.mpr fun z=>q (str_inj (by rw[z];exact r1.1.symm))
    simp only[g8,this]
    exact e1
theorem iW.no {f:List Nat}:∀{fs:List (List Nat×D)}{ws:List (Str×V)},iW K H fs ws->bV fs f=none->ws.lookup (⟨f.toArray⟩:Str)=none
 |[],[],_,_=>rfl
 |[],_::_,r,_=>by cases r.1
 |(g,e)::fs,[],r,_=>by cases r.1
 |(g,e)::fs,(g',v)::ws,r,h=>by
  obtain⟨r1,r2⟩:=r
  simp only[av,pe]at r1
  cases r2 with
  |cons rd rs =>
   simp only[bV]at h
   by_cases q:g=f
   ·rw[if_pos q]at h;cases h
   ·rw[if_neg q]at h
    have:((⟨f.toArray⟩:Str)==g')=false:=beq_eq_false_iff_ne.mpr fun z=>q (str_inj (by rw[z];exact r1.1.symm))
    simp only[g8,this]
    exact iW.no (fs:=fs) (ws:=ws) ⟨r1.2,rs⟩ h
theorem iW.put {f:List Nat}{d:D}{v:V}(rd:Rep K H d v):∀{fs:List (List Nat×D)}{ws:List (Str×V)},iW K H fs ws->iW K H (rY f d fs) (jB ⟨f.toArray⟩ v ws)
 |[],[],_=>⟨rfl,.cons rd .nil⟩
 |[],_::_,r=>by cases r.1
 |(g,e)::fs,[],r=>by cases r.1
 |(g,e)::fs,(g',v')::ws,r=>by
  obtain⟨r1,r2⟩:=r
  simp only[av,pe]at r1
  cases r2 with
  |cons rd' rs =>
   by_cases q:g=f
   ·have q':g'=(⟨f.toArray⟩:Str):=by rw[r1.1,q]
    simp only[rY,jB,if_pos q,if_pos q']
    exact⟨by simp [r1.1,r1.2],.cons rd rs⟩
   ·have q':¬g'=(⟨f.toArray⟩:Str):=fun z=>q (str_inj (r1.1.symm.trans z))
    simp only[rY,jB,if_neg q,if_neg q']
    have ih:=iW.put (f:=f) rd (fs:=fs) (ws:=ws) ⟨r1.2,rs⟩
    exact⟨by simp [r1.1,ih.1],.cons rd' ih.2⟩
theorem iW.length {fs:List (List Nat×D)}{ws:List (Str×V)}(r:iW K H fs ws):ws.length=fs.length:=by
 have:=congrArg wc r.1
 simpa using this
end
theorem yR {st:aB}{a:Nat}{P:List Nat->List (List Nat×D)->Prop}(h:nF st a P):∃ c fs,st a=some (.ins c fs)/\P c fs:=by
 unfold nF at h
 split at h
 ·exact⟨_,_,by assumption,h⟩
 ·exact h.elim
theorem zV {st:aB}{a:Nat}{P:List D->List D->Prop}(h:tabAt st a P):∃ c fs,st a=some (.tab c fs)/\P c fs:=by
 unfold tabAt at h
 split at h
 ·exact⟨_,_,by assumption,h⟩
 ·exact h.elim
theorem TB {c f:List Nat}{x:D}{st:aB}{Q:VK}(h:qC c f x st Q):∃ a fs d,x=.ref a/\st a=some (.ins c fs)/\bV fs f=some d/\Q d st:=by
 unfold qC at h
 split at h
 ·obtain⟨c',fs,e,rfl,q⟩:=yR h
  obtain⟨d,e1,q⟩:=eJ q
  exact⟨_,fs,d,rfl,e,e1,q⟩
 ·exact h.elim
theorem X7 {c f:List Nat}{v x:D}{st:aB}{Q:aB->Prop}(h:EB c f v x st Q):∃ a fs,x=.ref a/\st a=some (.ins c fs)/\fs.length<900/\Q (put st a (.ins c (rY f v fs))):=by
 unfold EB at h
 split at h
 ·obtain⟨c',fs,e,rfl,l,q⟩:=yR h
  exact⟨_,fs,rfl,e,l,q⟩
 ·exact h.elim
theorem TY {c m:List Nat}{x:D}{st:aB}(h:EH c m x st):∃ a fs,x=.ref a/\st a=some (.ins c fs)/\bV fs m=none:=by
 unfold EH at h
 split at h
 ·obtain⟨c',fs,e,rfl,q⟩:=yR h
  exact⟨_,fs,rfl,e,q⟩
 ·exact h.elim
structure sL (K:ab)(c:List Nat):Prop where
 h:∃ C,clsAt K c C/\uL K C
structure pE (K:ab)(c f:List Nat):Prop where
 h:∀ C,clsAt K c C->rN K C ⟨f.toArray⟩
structure vF (X:Cx)(C:bL)(c:List Nat)(n:Str)(fid:Nat):Prop where
 h:∃ k f fd ps C0,fA X.prog X.w X.K X.mg X.base iD k f fd ps (fN X.K C fid)/\dS k X.A/\Binds X.K fd ps []/\clsAt X.K c C0/\uL X.K C0/\E2 X.K C0 n f
structure J8 (X:Cx)(C:bL)(c:List Nat)(n:Str)(fid:Nat):Prop where
 h:∃ k f fd ps C0,fA X.prog X.w X.K X.mg X.base iD k f fd ps (fN X.K C fid)/\dS (k+1) X.A/\Binds X.K fd ps []/\clsAt X.K c C0/\X.mg n=some (.ref C0)/\Mk X.K C0 f
theorem vF.qI {X:Cx}{C:bL}{c:List Nat}{n:Str}{i:Nat}{scope:Scope}{own cn:List Str}{fp:List Addr}{s:af}{H:Hp}{Ca:Addr}(h:vF X C c n i):vF (mM X scope own cn fp s H Ca) C c n i:=let⟨a,b⟩:=h;⟨a,b⟩
section
variable {X:Cx}{C:bL}{sub:Nat->Nat->Bool}{E:XK}{a b e o value:Expr}{es:List Expr}{x y:Ex}{xs:List Ex}{p pos apos pos':Pos}{n:Str}{c f:List Nat}{fid:Nat}
theorem Kw (hn:n=⟨f.toArray⟩)(hc:sL X.K c)(hna:pE X.K c f)(ho:PE X o (bZ X.K (aI C sub E x)))(hb:fx o n X.env (eval o X.env)=eval o X.env):PE X (.Attribute o n pos) (bZ X.K (aI C sub E (.fld c f x))) :=
 (Cs ho hb).imp fun σ H Q ⟨σd,st,R,r,ok,q,hq⟩=>by
 refine⟨σd,st,_,r,ok,q,fun v H1 ⟨d,aC,s1,aP,r1,q1⟩=>?_⟩
 obtain⟨a,fs,d',rfl,e,ed,q1⟩:=TB q1
 cases r1.cP
 obtain⟨C0,dx,ws,h1,h2,h3⟩:=aP a _ e
 obtain⟨v,l,rv⟩:=iW.get h3 ed
 obtain⟨C',c1,c2⟩:=hc.h
 have eC:=c1.inj h1
 subst eC
 exact⟨a,C',dx,ws,v,rfl,h2,c2,by rw[hn];exact hna.h C' c1,by rw[hn];exact l,hq _ _ (.after s1 (.here aP rv q1))⟩
theorem Hz (hC:bY C C)(hn:n=⟨f.toArray⟩)(hc:sL X.K c)(hna:pE X.K c f)(ho:PE X o (bZ X.K (aI C sub EF y)))(hv:PE X value (bZ X.K (aI C sub EF x)))(hs:ku value (some (.Attribute o n pos')) pos.line X.env=pure false):
 PS X (.Assign [.Attribute o n pos'] value pos) (iL X.K (wpS C sub (.asg (.fl c f y) x))) :=
 (Bd ho hv hs).imp fun D σ H ⟨σd,st,P,r,ok,q,h⟩=>by
 refine⟨σd,st,_,r,ok,rS hC h.ex q,fun v H1 ⟨d,aC,s1,aP,rd,q1⟩=>?_⟩
 refine⟨σd,aC,_,r.step ok s1,aP,rS hC h.ex q1,fun u H2 ⟨d2,aG,s2,cD,r2,q2⟩=>?_⟩
 obtain⟨a,fs,rfl,e,l,q2⟩:=X7 q2
 cases r2.cP
 obtain⟨C0,dx,ws,h1,h2,h3⟩:=cD a _ e
 obtain⟨C',c1,c2⟩:=hc.h
 have eC:=c1.inj h1
 subst eC
 have s3:Step H2 aG (upd H2 a (.ins C' dx (jB n v ws))) (put aG a (.ins c (rY f d fs))):=lG e
 have rd2:=(rd.step aP s2).step cD s3
 have h3':iW X.K (upd H2 a (.ins C' dx (jB n v ws))) fs ws:=⟨h3.1,h3.2.step cD s3⟩
 refine⟨a,C',dx,ws,rfl,h2,c2,by rw[hn];exact hna.h C' c1,by rw[h3.length];omega,h.nx _ _ _ _ (((r.step ok s1).step aP s2).step cD s3) ((s1.trans s2).trans s3) (cD.EG e ?_) q2⟩
 exact⟨C',dx,_,c1,eI,by rw[hn]at *;exact iW.put rd2 h3'⟩
theorem Hr {k:Nat}{fa:Addr}{fd:gw}{ps:List Str}{C0:Addr}{pl:Sem Bool}{m:List Nat}(hn:n=⟨m.toArray⟩)(hcl:clsAt X.K c C0)(hC0:uL X.K C0)(hm:E2 X.K C0 n fa)(F:fA X.prog X.w X.K X.mg X.base iD k fa fd ps (fN X.K C fid))(hr:dS k X.A)(hb:Binds X.K fd ps [])
 (ho:PE X o (bZ X.K (aI C sub EF x)))(ha:PA X (e::es) (lQ X.K (bU C sub EF xs)))
 (fF:ar (e::es) X.env=(false,eval e X.env)::ar es X.env)(dB:(dq pos (ar es X.env)).any (·.1)=false)
 (ht:eval (.Call (.Attribute o n apos) (e::es) [] pos) X.env=(do
  let ov <-eval o X.env
  mr apos.atName
  let(f,first) <-j4 [ov] (sk ov n pl)
  wb pos f first (dq pos (ar (e::es) X.env)) (my pos (jy [] X.env)))):
 PE X (.Call (.Attribute o n apos) (e::es) [] pos) (bZ X.K (aI C sub EF (.mcl c m fid x xs))) :=
 (XD (pl:=pl) ho hC0 hm F hr hb .nil OJ ha fF dB ht).imp fun σ H Q ⟨σd,st,R,r,ok,q,hq⟩=>by
 refine⟨σd,st,_,r,ok,q,fun v H1 ⟨d,aC,s1,aP,r1,q1,q2⟩=>?_⟩
 obtain⟨a,fs,rfl,e0,l⟩:=TY q1
 cases r1.cP
 obtain⟨C1,dx,ws,h1,h2,h3⟩:=aP a _ e0
 cases hcl.inj h1
 refine⟨a,dx,ws,rfl,h2,by rw[hn];exact iW.no h3 l,?_⟩
 refine⟨σd,aC,_,r.step ok s1,aP,q2,fun vs H2 ⟨ds,aG,s2,cD,r2,q3⟩=>?_⟩
 show fN X.K C fid (.ref a::(vs++[])) H2 Q E0
 rw[b7]
 exact⟨.ref a::ds,aG,R,.cons (.ref a) r2,cD,q3,fun v H' z=>hq _ _ (.after (s1.trans s2) z)⟩
theorem Nw {k:Nat}{fa:Addr}{fd:gw}{ps:List Str}{C0:Addr}(hcl:clsAt X.K c C0)(hM:Mk X.K C0 fa)(F:fA X.prog X.w X.K X.mg X.base iD k fa fd ps (fN X.K C fid))(hr:dS (k+1) X.A)(hg:Gl X n)(hmg:X.mg n=some (.ref C0))(hb:Binds X.K fd ps [])
 (ha:PA X (e::es) (lQ X.K (bU C sub EF xs)))(hdb:(n==("__debug__" : Str))=false)(he:ar (e::es) X.env=(false,eval e X.env)::ar es X.env)(dB:(dq pos (ar es X.env)).any (·.1)=false):
 PE X (.Call (.Name n p) (e::es) [] pos) (bZ X.K (aI C sub EF (.mk c fid xs))) :=
 (W7 hM F hr hg hmg hb .nil OJ ha hdb he dB).imp fun σ H Q ⟨σd,st,R,r,ok,q,hq⟩=>by
 refine⟨σd,st,_,r,ok,q,fun vs H1 ⟨ds,aC,s1,aP,r1,q1⟩=>?_⟩
 intro x dx hx hdx hne
 show fN X.K C fid (.ref x::(vs++[])) _ _ E0
 rw[b7]
 have cD:aS X.K aC (upd H1 dx (.own x)):=aP.new hdx
 have s2:Step H1 aC (upd H1 dx (.own x)) aC:=sE hdx
 have hx2:upd H1 dx (.own x) x=none:=by rw[cA (cz hne)];exact hx
 have s3:Step (upd H1 dx (.own x)) aC (upd (upd H1 dx (.own x)) x (.ins C0 dx [])) (put aC x (.ins c [])):=mR hx2
 have vO:aS X.K (put aC x (.ins c [])) (upd (upd H1 dx (.own x)) x (.ins C0 dx [])):=cD.VC hx2 ⟨C0,dx,[],hcl,eI,rfl,.nil⟩
 refine⟨.ref x::ds,put aC x (.ins c []),_,.cons (.ref x) ((r1.step aP s2).step cD s3),vO,q1 x (aP.fresh hx),fun v H' ⟨d,aA,s',gG,rd,ed,q'⟩=>?_⟩
 subst ed
 exact⟨rd.fR,hq _ _ (.after ((s1.trans s2).trans (s3.trans s')) (.here gG (.ref x) q'))⟩
theorem gJ (c:List Nat)(hc:sL X.K c)(hna:pE X.K c f)(ho:JE X C sub E o x)(hn:n=⟨f.toArray⟩:=by kernel_rfl)(hb:fx o n X.env (eval o X.env)=eval o X.env:=by kernel_rfl):JE X C sub E (.Attribute o n pos) (.fld c f x):=⟨Kw hn hc hna ho.h hb⟩
theorem yG (m:bY C C)(c:List Nat)(hc:sL X.K c)(hna:pE X.K c f)(ho:JE X C sub EF o y)(hv:JE X C sub EF value x)(hn:n=⟨f.toArray⟩:=by kernel_rfl)(hs:ku value (some (.Attribute o n pos')) pos.line X.env=pure false:=by kernel_rfl):
 JS X C sub (.Assign [.Attribute o n pos'] value pos) (.asg (.fl c f y) x):=⟨Hz m hn hc hna ho.h hv.h hs⟩
theorem yY {pl:Sem Bool}{mm:List Nat}(h:vF X C c n fid)(ho:JE X C sub EF o x)(ha:JA X C sub EF (e::es) xs)(hn:n=⟨mm.toArray⟩:=by kernel_rfl)
 (fF:ar (e::es) X.env=(false,eval e X.env)::ar es X.env:=by kernel_rfl)(dB:(dq pos (ar es X.env)).any (·.1)=false:=by kernel_rfl)
 (ht:eval (.Call (.Attribute o n apos) (e::es) [] pos) X.env=(do
  let ov <-eval o X.env
  mr apos.atName
  let(f,first) <-j4 [ov] (sk ov n pl)
  wb pos f first (dq pos (ar (e::es) X.env)) (my pos (jy [] X.env))):=by rfl):
 JE X C sub EF (.Call (.Attribute o n apos) (e::es) [] pos) (.mcl c mm fid x xs):=⟨let⟨k,f,fd,ps,C0,h1,h2,h3,h4,h5,h6⟩:=h.h;Hr hn h4 h5 h6 h1 h2 h3 ho.h ha.h fF dB ht⟩
theorem Dg (h:J8 X C c n fid)(ha:JA X C sub EF (e::es) xs)(hg:X.env.kindOf n=some .globalImplicit:=by kernel_rfl)(hdb:(n==("__debug__" : Str))=false:=by kernel_rfl)(he:ar (e::es) X.env=(false,eval e X.env)::ar es X.env:=by kernel_rfl)(dB:(dq pos (ar es X.env)).any (·.1)=false:=by kernel_rfl):
 JE X C sub EF (.Call (.Name n p) (e::es) [] pos) (.mk c fid xs):=⟨let⟨k,f,fd,ps,C0,h1,h2,h3,h4,h5,h6⟩:=h.h;Nw h4 h6 h1 h2 hg h5 h3 ha.h hdb he dB⟩
end
end L3
end
section
namespace L3
open PySem PySem.Spec PyProof.Rows L2
section
variable {X:Cx}{pins:List (Addr×Obj)}{σ:L2.St}{H:Hp}{s:af}{st:aB}
mutual
theorem LL (I:Inv X pins σ H s):∀{d:D}{v:V}{u:Value},jC d=true->Rep X.K H d v->RelV v u->jL s.heap d u
 |_,_,u,_,.str x,rv=>by obtain⟨tk,rfl⟩:=rv;exact .str x tk
 |_,_,u,t,.tup h r,rv=>by
  cases rv
  obtain⟨aD,r1,⟨o,e,c,n,d⟩,_⟩:=I.tuple h
  exact .tup e c d (by simpa using MF I (by simpa [jC]using t) r r1)
 |_,_,_,t,.non,_=>by cases t
 |_,_,u,_,.bl b,rv=>by cases rv;exact .bl b
 |_,_,_,t,.int _,_=>by cases t
 |_,_,_,t,.ref _,_=>by cases t
 |_,_,_,t,.bP _ _,_=>by cases t
 |_,_,_,t,.dA _,_=>by cases t
theorem MF (I:Inv X pins σ H s):∀{ds:List D}{vs:List V}{us:List Value},jG ds=true->aL X.K H ds vs->aQ vs us->gA s.heap ds us
 |_,_,_,_,.nil,rv=>by cases rv;exact .nil
 |_,_,_,t,.cons h r,rv=>by
  simp only[jG,ay]at t
  cases rv with
  |cons r1 r2=>exact .cons (LL I t.1 h r1) (MF I t.2 r r2)
end
theorem key_is (I:Inv X pins σ H s){d:D}{v:V}{u:Value}(k:keyed d)(r:Rep X.K H d v)(rv:RelV v u):∃ a,u=.ref a/\v=.ref a/\(sM X.prog X.w).is s.heap d a:=by
 have h:=LL I k.txt r rv
 cases d with
 |tup ds =>
 obtain⟨a,vs,rfl,_,_⟩:=r.bS
 cases rv
 exact⟨a,rfl,rfl,k,h⟩
 |_=>exact k.elim
theorem D4 (I:Inv X pins σ H s)(ok:aS X.K st H){a:Addr}{ks vs:List D}(e:st a=some (.tab ks vs)):∃(xs:List (D×Addr×Value))(ws:List V),H a=some (rH a xs)/\(a==nv)=false/\xs.map (·.1)=ks/\(∀ x∈xs,keyed x.1)/\aQ ws (xs.map (·.2.2))/\aL X.K H vs ws/\aL X.K H ks (xs.map fun x=>.ref x.2.1) /\
  s.heap.DictOfH (sM X.prog X.w) a xs:=by
 obtain⟨xs,ws,q,q0,q1,q2,q3,q4,q5,r⟩:=ok a _ e
 refine⟨xs,ws,q,q0,q1,q4,q5,r,q3,?_⟩
 obtain⟨⟨o,es,ep,h1,h2,h3,h4⟩,_⟩:=I.cG a _ q
 refine⟨o,es,ep,h1,h2,h3,h4,fun x hx=>?_,q2⟩
 obtain⟨j,hj⟩:=List.mem_iff_getElem?.mp hx
 have e1:ks[j]? = some x.1:=by rw[<-q1,bc,hj];rfl
 obtain⟨v,e2,rv⟩:=q3.get e1
 have e3:v=.ref x.2.1:=by
  rw[bc,hj]at e2
  exact(dy e2).symm
 subst e3
 exact⟨q4 x hx,LL I (q4 x hx).txt rv rfl⟩
theorem KU {xs:List (D×Addr×Value)}{k:D}(kk:keyed k)(h:∀ x∈xs,keyed x.1):(atKey xs k).isSome=(xs.map (·.1)).any fun y=>bK y k:=by
 induction xs with
 |nil=>rfl
 |cons x xs ih =>
 have ih:=ih fun y hy=>h y (by simp [hy])
 simp only[av,jk,<-ih,FA (h x (by simp)).txt kk.txt]
 by_cases q:x.1=k
 ·simp [atKey,q]
 ·simp [atKey,q]
theorem NH {K:ab}{k:D}(kk:keyed k){d:D}:∀{xs:List (D×Addr×Value)}{vs:List D}{ws:List V},(∀ x∈xs,keyed x.1)->aQ ws (xs.map (·.2.2))->aL K H vs ws->kR (xs.map (·.1)) vs k=some d->∃ p v,atKey xs k=some p/\RelV v p.2/\Rep K H d v
 |[],_,_,_,_,_,h=>by simp [kR]at h
 |x::xs,[],_,_,rv,r,h=>by simp [kR]at h
 |x::xs,d0::vs,ws,hk,rv,r,h=>by
  cases r with
  |cons r1 r2 =>
   cases rv with
   |cons v1 v2 =>
    simp only[av,kR]at h
    rw[FA (hk x (by simp)).txt kk.txt]at h
    by_cases q:x.1=k
    ·rw[if_pos (by simpa using q)]at h;cases h
     exact⟨x.2,_,by simp [atKey,q],v1,r1⟩
    ·rw[if_neg (by simpa using q)]at h
     obtain⟨p,v,e1,e2,e3⟩:=NH kk (fun y hy=>hk y (by simp [hy])) v2 r2 h
     exact⟨p,v,by simpa [atKey,q]using e1,e2,e3⟩
end
section
variable {X:Cx}{C:bL}{sub:Nat->Nat->Bool}{E:XK}{a b e o i value:Expr}{x y z:Ex}{p pos apos pos':Pos}
theorem Ia (hu:X.A.units+180<cLine)(neg:Bool):oK X (if neg=true then .NotIn else .In) (fun d d' st P=>wN d d' st fun b=>P (if neg=true then !b else b)):=by
 intro pins s σ H st d d' v v' u u' P I ok r rv r' bJ q
 unfold wN at q
 split at q
 ·obtain⟨ks,vs,e,hk,q⟩:=zV q
  cases r'.cP
  cases bJ
  obtain⟨xs,ws,t1,t2,t3,t4,t5,t6,t8,t7⟩:=D4 I ok e
  obtain⟨ka,rfl,rfl,hka⟩:=key_is I hk r rv
  have hroom:(sM X.prog X.w).room X.A.in1:=by show X.A.in1.units+12<cLine;simp only[fj];omega
  rw[<-t3,<-KU hk t4]at q
  cases neg with
  |true=>exact wpAny_notIn_heap hroom hka t2 t7 ⟨_,rfl,q,I.tok _⟩
  |false=>exact wpAny_in_heap hroom hka t2 t7 ⟨_,rfl,q,I.tok _⟩
 ·exact q.elim
theorem R5 {neg:Bool}(hu:X.A.units+180<cLine)(ha:PE X a (bZ X.K (aI C sub E x)))(hb:PE X b (bZ X.K (aI C sub E y)))(hm:kh (if neg=true then .NotIn else .In) b=false):PT X (.Compare a [if neg=true then .NotIn else .In] [b] pos) (jS X.K (aI C sub E (.din neg x y))):=by
 intro pins s σ H Q I ⟨σd,st,R,r,ok,q,hq⟩
 refine vz (bE (ha pins s σ H _ I ⟨σd,st,_,r,ok,q,fun v H' z=>z⟩) fun u s1 ⟨v,H1,I1,rv,d,aC,dC,aP,r1,q1⟩ =>
 bE (hb pins s1 σ H1 _ I1 ⟨σd,aC,_,r.step ok dC,aP,q1,fun v H' z=>z⟩) fun u' s2 ⟨v',H2,I2,bJ,d',aG,gM,cD,r2,q2⟩ =>
 bE (Ia hu neg pins s2 σ H2 aG d d' v v' u u' (fun k=>R k aG) I2 cD (r1.step aP gM) rv r2 bJ q2) fun w s3 ⟨k,e,q3,I3⟩=>?_) hm
 subst e
 exact kj ⟨H2,I3,hq _ _ ⟨aG,dC.trans gM,cD,q3⟩⟩
noncomputable def Mz (K:ab):R2:=fun v v' H Q=>∃ d d' st R,Rep K H d v/\Rep K H d' v'/\aS K st H/\rE d' d st R/\∀ v H',QD K H st R v H'->Q v H'
theorem Fp (hu:X.A.units+180<cLine):xY X (Mz X.K):=by
 intro value slice pins s σ H x y v u Q I rx ry h hs
 obtain⟨d,d',st,R,r1,r2,ok,q,hq⟩:=h
 unfold rE at q
 split at q
 ·obtain⟨ks,vs,e,hk,q⟩:=zV q
  obtain⟨d0,e0,q⟩:=eJ q
  cases r1.cP
  cases rx
  obtain⟨xs,ws,t1,t2,t3,t4,t5,t6,t8,t7⟩:=D4 I ok e
  obtain⟨ka,rfl,rfl,hka⟩:=key_is I hk r2 ry
  have hroom:(sM X.prog X.w).room X.A.in1:=by show X.A.in1.units+12<cLine;simp only[fj];omega
  rw[<-t3]at e0
  obtain⟨pp,v0,e1,e2,e3⟩:=NH hk t4 t5 t6 e0
  refine nh (x:=pp.2) t7.typeIs slot_dict_getitem.lookup ?_ hs
  exact wpAny_getItem_heap hroom hka t7 e1 ⟨rfl,v0,H,I.tok _,e2,hq _ _ (.here ok e3 q)⟩
 ·exact q.elim
theorem Kc (hu:X.A.units+180<cLine)(ha:PE X a (bZ X.K (aI C sub E x)))(hb:PE X b (bZ X.K (aI C sub E y)))(hp:uG b):PE X (.Subscript a b pos) (bZ X.K (aI C sub E (.dix x y))) :=
 (VG (Fp hu) ha hb hp).imp fun σ H Q ⟨σd,st,R,r,ok,q,hq⟩=>by
 refine⟨σd,st,_,r,ok,q,fun v H1 ⟨d,aC,s1,aP,r1,q1⟩=>?_⟩
 refine⟨σd,aC,_,r.step ok s1,aP,q1,fun v' H2 ⟨d',aG,s2,cD,r2,q2⟩=>?_⟩
 exact⟨d,d',aG,R,r1.step aP s2,r2,cD,q2,fun v H' z=>hq _ _ (.after (s1.trans s2) z)⟩
theorem Li {pins:List (Addr×Obj)}{σ:L2.St}{H:Hp}{s:af}(I:Inv X pins σ H s):nv<s.heap.objs.size:=by
 have h:cj<s.heap.objs.size:=(I.mod.glob.keeps I.bk).lt
 exact Rt (by decide) h
theorem sV {a:Addr}{xs:List (D×Addr×Value)}{w:World}:∀ h1 h2:Heap,ON a xs w h1->(∀ o,h1.get? a=some o->h2.get? a=some o)->ON a xs w h2:=fun h1 h2 ⟨o,es,ep,e,r⟩ k=>⟨o,es,ep,k o e,r⟩
theorem Cv:PE X (.Dict [] [] pos) (bZ X.K (aI C sub E .dnew)):=fun pins s σ H Q I ⟨σd,st,R,r,ok,q,hq⟩=>by
 have hf:H s.heap.objs.size=none:=I.cG.fresh (bb _)
 refine wpAny_Dict_empty ⟨.ref s.heap.objs.size,_,I.laid (a:=s.heap.objs.size) (o:=rH s.heap.objs.size []) (t':=s.toks) (fun _ _ q=>ak _ q) (bb _) ?_,rfl,hq _ _ ⟨.ref s.heap.objs.size,put st s.heap.objs.size (.tab [] []),mR hf,ok.VC hf ?_,.ref _,q _ (ok.fresh hf)⟩⟩
 ·exact⟨⟨_,#[],0,bg _ rfl,⟨rfl,rfl,rfl⟩,rfl,rfl⟩,⟨_,bg _ rfl⟩,sV⟩
 ·exact⟨[],[],eI,beq_eq_false_iff_ne.mpr (pw (Li I)),rfl,wy,.nil,fun x hx=>(by cases hx),.nil,.nil⟩
theorem NB {x v y:D}{st:aB}{Q:aB->Prop}(h:zC x v y st Q):∃ a ks vs,y=.ref a/\st a=some (.tab ks vs)/\keyed x/\(ks.any fun k=>bK k x)=false/\ks.length<10000/\Q (put st a (.tab (ks++[x]) (vs++[v]))):=by
 unfold zC at h
 split at h
 ·obtain⟨ks,vs,e,h1,h2,h3,q⟩:=zV h
  exact⟨_,ks,vs,rfl,e,h1,h2,h3,q⟩
 ·exact h.elim
theorem Oq (hC:bY C C)(hu:X.A.units+180<cLine)(ho:PE X o (bZ X.K (aI C sub EF y)))(hi:PE X i (bZ X.K (aI C sub EF z)))(hv:PE X value (bZ X.K (aI C sub EF x)))(hs:ku value (some (.Subscript o i pos')) pos.line X.env=pure false):
  PS X (.Assign [.Subscript o i pos'] value pos) (iL X.K (wpS C sub (.asg (.dk y z) x))):=by
 intro pins s σ H D I ⟨σd,st,P,r,ok,q,h⟩
 refine wpAny_Assign_Subscript (bE (hv pins s σ H _ I ⟨σd,st,_,r,ok,rS hC h.ex q,fun v H' z=>z⟩) fun uv s1 ⟨v,H1,I1,rv,d,aC,dC,aP,rd,q1⟩ =>
  bE (ho pins s1 σ H1 _ I1 ⟨σd,aC,_,r.step ok dC,aP,rS hC h.ex q1,fun v H' z=>z⟩) fun uo s2 ⟨vo,H2,I2,rvo,d2,aG,gM,cD,rd2,q2⟩ =>
  bE (hi pins s2 σ H2 _ I2 ⟨σd,aG,_,(r.step ok dC).step aP gM,cD,rS hC h.ex q2,fun v H' z=>z⟩) fun ui s3 ⟨vi,H3,I3,rvi,d3,aV,s3s,vO,rd3,q3⟩=>?_) hs
 obtain⟨da,ks,vs,ed2,e,hk,hnew,hlen,q4⟩:=NB q3
 ·subst ed2
  cases rd2.cP
  cases rvo
  obtain⟨xs,ws,t1,t2,t3,t4,t5,t6,t8,t7⟩:=D4 I3 vO e
  obtain⟨ka,rfl,rfl,hka⟩:=key_is I3 hk rd3 rvi
  have hroom:(sM X.prog X.w).room X.A.in1:=by show X.A.in1.units+12<cLine;simp only[fj];omega
  have hno:atKey xs d3=none:=by
   have:=KU (k:=d3) hk t4
   rw[t3,hnew]at this
   cases q:atKey xs d3 with
   |none=>rfl
   |some p=>rw[q]at this;cases this
  have hxl:xs.length=ks.length:=by rw[<-t3];simp
  refine wpAny_setItem_heap hroom hka t7 (fun h' hm hsb=>?_) (by rw[fQ,hxl];have h10:(10000:Nat)<=aZ:=(by decide);omega)
  rw[storedH_new hno]at hm
  obtain⟨o',es,ep,m1,m2,m3,m4,m5,m6⟩:=id hm
  have hS:Step H3 aV (upd H3 da (rH da (xs++[(d3,ka,uv)]))) (put aV da (.tab (ks++[d3]) (vs++[d]))):=lG e
  have I4:Inv X pins σ (upd H3 da (rH da (xs++[(d3,ka,uv)]))) { s3 with heap:=h',toks:=s3.toks+(sM X.prog X.w).draws d3 }:=by
   refine I3.write (x:=da) (e:=da) (by rw[t1];exact cv) (.inl rfl) (fun b u hb z=>(hsb.2 b hb).trans z) ⟨o',m1⟩ ?_
   exact⟨⟨o',es,ep,m1,m2,m3,m4⟩,⟨o',m1⟩,sV⟩
  refine⟨σ,_,I4,h.nx _ _ _ _ ((((r.step ok dC).step aP gM).step cD s3s).step vO hS) (((dC.trans gM).trans s3s).trans hS) (vO.EG e ?_) q4⟩
  refine⟨xs++[(d3,ka,uv)],ws++[v],eI,t2,by simp [t3],m6,?_,?_,?_,?_⟩
  ·rw[cx]
   exact(t8.step vO hS).append (.cons (rd3.step vO hS) .nil)
  ·intro x hx
   rcases List.mem_append.mp hx with hx|hx
   ·exact t4 x hx
   ·simp only[ah]at hx;subst hx;exact hk
  ·rw[cx];exact t5.append (.cons rv .nil)
  ·exact(t6.step vO hS).append (.cons ((((rd.step aP gM).step cD s3s)).step vO hS) .nil)
theorem Pn (hu:X.A.units+180<cLine)(ha:JE X C sub E a x)(hb:JE X C sub E b y)(hm:kh .In b=false:=by kernel_rfl):JT X C sub E (.Compare a [.In] [b] pos) (.din false x y):=⟨R5 (neg:=false) hu ha.h hb.h hm⟩
theorem Pl (hu:X.A.units+180<cLine)(ha:JE X C sub E a x)(hb:JE X C sub E b y)(hm:kh .NotIn b=false:=by kernel_rfl):JT X C sub E (.Compare a [.NotIn] [b] pos) (.din true x y):=⟨R5 (neg:=true) hu ha.h hb.h hm⟩
theorem JD (hu:X.A.units+180<cLine)(ha:JE X C sub E a x)(hb:JE X C sub E b y)(hp:uG b:=by intro _ _;rfl):JE X C sub E (.Subscript a b pos) (.dix x y):=⟨Kc hu ha.h hb.h hp⟩
theorem Oz:JE X C sub E (.Dict [] [] pos) .dnew:=⟨Cv⟩
theorem Lm (m:bY C C)(hu:X.A.units+180<cLine)(ho:JE X C sub EF o y)(hi:JE X C sub EF i z)(hv:JE X C sub EF value x)(hs:ku value (some (.Subscript o i pos')) pos.line X.env=pure false:=by kernel_rfl):
 JS X C sub (.Assign [.Subscript o i pos'] value pos) (.asg (.dk y z) x):=⟨Oq m hu ho.h hi.h hv.h hs⟩
end
end L3
end
section
namespace L3
open PySem PySem.Spec PyProof.Rows L2
theorem Fy {P:br}{w:World}{K:ab}{mg:Str->Option Value}{base:Heap}{G:Prog}{r k f:Nat}{fn:Fn}{x qual:Str}{st:Stmt}{a:Addr}{fd:gw}{N ps:List Str}(F:ED K x qual st a fd)(S:vD N ps (aR st))
  (hG:G.fns f=some fn)(hp:fn.np=ps.length)(hl:fn.nl=N.length)
  (hb:∀(bM:Value)(A:cg)(outer:List Env)(s:af)(H:Hp)(E:L2.XK),dS r (A.deeper (qi qual (aR st) s.heap.objs.size a bM)) ->
   BU (nL iD P w K mg base N qual (aR st) a bM A outer s H E).yB (aO G k) G.sub (jH st) fn.body):
  fA P w K mg base iD (r+1) a fd ps (fN K (aO G (k+1)) f):=by
 refine F.ok S (fun vs H Q E h=>?_) (fun bM A outer s H vs Q E hr h=>?_)
 ·obtain⟨ds,aA,R,r,_,h,_⟩:=h
  simp only[aO,hG]at h
  rw[<-r.length,h.1,hp]
 ·obtain⟨ds,aA,R,r,ok,h,hq⟩:=h
  simp only[aO,hG]at h
  refine⟨_,(hb bM A outer s H E hr).h,?_⟩
  refine⟨start fn.np fn.nl ds,aA,_,?_,ok,h.2,⟨fun σ' H' eD aX sr s' gG q=>?_,fun v H' z=>hq v H' z,fun _ _ _ _ _ _ _ q=>q,fun _ _ _ _ _ _ _ q=>q,fun _ _ _ q=>q⟩⟩
  ·rw[hl];exact SE r h.1
  ·exact hq _ _ ⟨.non,aX,s',gG,.non,q⟩
noncomputable def kD (s:Stmt)(j:Nat):Stmt:=match s with
 |.ClassDef _ _ _ body ..=>body.getD j (.Pass ⟨0,0,0,0⟩)
 |_=>.Pass ⟨0,0,0,0⟩
inductive At where
 |top
 |cB (c:List Nat)
 |init (c:List Nat)
noncomputable def Az (K:ab)(mg:Str->Option Value)(n:Str)(a:Addr):At->Prop
 |.top=>mg n=some (.ref a)
 |.cB c=>∃ C0,clsAt K c C0/\uL K C0/\E2 K C0 n a
 |.init c=>∃ C0,clsAt K c C0/\mg ⟨c.toArray⟩=some (.ref C0)/\Mk K C0 a
structure CU (K:ab)(mg:Str->Option Value)(nf:Nat)(nm qn:Nat->Str)(ps:Nat->List Str)(st:Nat->Stmt)(at_:Nat->At) where
 a:Nat->Addr
 fd:Nat->gw
 fn:∀ i,i<nf->ED K (nm i) (qn i) (st i) (a i) (fd i)
 bi:∀ i,i<nf->Binds K (fd i) (ps i) []
 mg:∀ i,i<nf->Az K mg (nm i) (a i) (at_ i)
theorem MW {P:br}{w:World}{K:ab}{mg:Str->Option Value}{base:Heap}{G:Prog}{nf:Nat}{nm qn:Nat->Str}{ps:Nat->List Str}{st:Nat->Stmt}{at_:Nat->At}(T:CU K mg nf nm qn ps st at_)
 (step:∀ k,(∀ i,i<nf->fA P w K mg base iD (2*k) (T.a i) (T.fd i) (ps i) (fN K (aO G k) i))->∀ i,i<nf->fA P w K mg base iD (2*k+1+1) (T.a i) (T.fd i) (ps i) (fN K (aO G (k+1)) i)):
 ∀ k i,i<nf->fA P w K mg base iD (2*k) (T.a i) (T.fd i) (ps i) (fN K (aO G k) i)
 |0,i,_=>XQ
 |k+1,i,h=>step k (MW T step k) i h
noncomputable def FG (n q:Str)(ps:List Str)(st:Stmt):Prop:=∀(kV doc pm:Value)(an:Option Addr)(bM ct:Value)(us:List Value),us.length=ps.length->Sd (je n q (mU st) (jH st) (aR st) .none kV doc pm an bM ct) ⟨us,[]⟩=pure (ps.zip us)
noncomputable def wL (K:ab)(mg:Str->Option Value)(n q:Str)(st:Stmt)(at_:At):Prop:=∃ a fd,ED K n q st a fd/\Az K mg n a at_
theorem Jb {K:ab}{h:Heap}{mg:Str->Option Value}(X:K.In h)(G:h.Ns cj mg){n:Str}{st:Stmt}{f:Addr}{oc:Value}{od an:Option Addr}{sl:Array (Option Value)}{kV dc pm cd ct:Value}
 (a:jf K cj n=some (some (.ref f)))(l:K.lookup f=some ⟨oc,od,.func (je n n (mU st) (jH st) (aR st) .none kV dc pm an cd ct),sl⟩)(c:kr K cd n=true)(k:fw K (.ref f)=true):wL K mg n n st .top :=
 ⟨f,_,IV l c k,lz X G a⟩
theorem Km {K:ab}{h:Heap}{mg:Str->Option Value}(X:K.In h)(G:h.Ns cj mg){n q:Str}{c:List Nat}{C:Addr}{st:Stmt}{f:Addr}{oc:Value}{od an:Option Addr}{sl:Array (Option Value)}{kV dc pm cd ct:Value}
 (cl:jf K cj ⟨c.toArray⟩=some (some (.ref C)))(pg:j5 K C Rl=true)(hd:kl K C=true)(po:mx K C=true)(sa:dz K (.ref C) "__setattr__" = some (some (.builtin "object.__setattr__")))
 (a:dz K (.ref C) n=some (some (.ref f)))(fn:px K (.ref f)=true)
 (l:K.lookup f=some ⟨oc,od,.func (je n q (mU st) (jH st) (aR st) .none kV dc pm an cd ct),sl⟩)(cc:kr K cd q=true)(k:fw K (.ref f)=true):wL K mg n q st (.cB c) :=
 ⟨f,_,IV l cc k,C,cl,⟨pg,hd,po,sa⟩,⟨a,fn,k⟩⟩
theorem Hy {K:ab}{h:Heap}{mg:Str->Option Value}(X:K.In h)(G:h.Ns cj mg){q:Str}{c:List Nat}{C:Addr}{st:Stmt}{f:Addr}{oc:Value}{od an:Option Addr}{sl:Array (Option Value)}{kV dc pm cd ct:Value}
 (cl:jf K cj ⟨c.toArray⟩=some (some (.ref C)))(mk:ve K C=true)(kp:fw K (.ref C)=true)
 (a:dz K (.ref C) "__init__" = some (some (.ref f)))(fn:px K (.ref f)=true)
 (l:K.lookup f=some ⟨oc,od,.func (je "__init__" q (mU st) (jH st) (aR st) .none kV dc pm an cd ct),sl⟩)(cc:kr K cd q=true)(k:fw K (.ref f)=true):wL K mg "__init__" q st (.init c) :=
 ⟨f,_,IV l cc k,C,cl,lz X G cl,⟨mk,a,fn,kp⟩⟩
theorem Fk {K:ab}{c:List Nat}{C:Addr}(cl:jf K cj ⟨c.toArray⟩=some (some (.ref C)))(pg:j5 K C Rl=true)(hd:kl K C=true)(po:mx K C=true)(sa:dz K (.ref C) "__setattr__" = some (some (.builtin "object.__setattr__"))):sL K c:=⟨C,cl,pg,hd,po,sa⟩
theorem Dw {K:ab}{c f:List Nat}{C:Addr}(cl:jf K cj ⟨c.toArray⟩=some (some (.ref C)))(na:dz K (.ref C) ⟨f.toArray⟩=some none):pE K c f:=⟨fun C' h=>by cases clsAt.inj h cl;exact na⟩
theorem MX {K:ab}{mg:Str->Option Value}{nm qn:Nat->Str}{ps:Nat->List Str}{st:Nat->Stmt}{at_:Nat->At}:∀(nf:Nat),(∀ i,i<nf->FG (nm i) (qn i) (ps i) (st i))->(∀ i,i<nf->wL K mg (nm i) (qn i) (st i) (at_ i))->gw->Nonempty (CU K mg nf nm qn ps st at_)
 |0,_,_,d=>⟨⟨fun _=>0,fun _=>d,fun i h=>absurd h (by omega),fun i h=>absurd h (by omega),fun i h=>absurd h (by omega)⟩⟩
 |nf+1,B,H,d=>by
  obtain⟨T⟩:=MX nf (fun i h=>B i (by omega)) (fun i h=>H i (by omega)) d
  obtain⟨a,fd,hF,hm⟩:=H nf (by omega)
  refine⟨⟨fun i=>if i=nf then a else T.a i,fun i=>if i=nf then fd else T.fd i,fun i h=>?_,fun i h=>?_,fun i h=>?_⟩⟩
  ·by_cases e:i=nf
   ·subst e;simpa using hF
   ·simpa only[if_neg e]using T.fn i (by omega)
  ·by_cases e:i=nf
   ·subst e;simpa using hF.binds (B i (by omega))
   ·simpa only[if_neg e]using T.bi i (by omega)
  ·by_cases e:i=nf
   ·subst e;simpa using hm
   ·simpa only[if_neg e]using T.mg i (by omega)
theorem NY {K:ab}{n q x:Str}{st:Stmt}{a:Addr}{fd:gw}(F:ED K n q st a fd)(h:FG n q [x] st)(s:af)(u:Value):w6 s fd ⟨[u],[]⟩ [(x,u)]:=by
 obtain⟨oc,od,kV,doc,pm,an,bM,ct,osl,rfl,lk,hcd⟩:=F.ex
 exact .of_eq (h kV doc pm an bM ct [u] rfl)
theorem Fg {l:zx}{q:br}{loose:List Str}{XP:(Str->Option Value)->Heap->Prop}{YP:World->Heap->Prop}{d:DefRec}{K:Ss->ab}{G:Prog}{r k f:Nat}{x:Str}(hr:dS r uw)(VA:∀ ns:List Int,ns.length<=63->aO G k f [.bP (ns.map .int)] (fun _=>none) (fun d _=>d=.bl true) fun _ _=>False)(hn:l.most=some 63)(hdf:d.params.defaults=[])
 (hY:∀(w:World)(h:Heap),YP w h->(K w.params).In h)
 (F:∀(w:World)(mg:Str->Option Value)(fa:Addr)(h:Heap),(K w.params).In h->h.Ns cj mg->mg d.name=some (.ref fa) ->
  ∃ fd:gw,(∀(s:af)(u:Value),w6 s fd ⟨[u],[]⟩ [(x,u)])/\∀ base:Heap,(K w.params).In base->base.Ns cj mg->fA l.prog w (K w.params) mg base iD r fa fd [x] (fN (K w.params) (aO G k) f)):
 Rg q loose XP YP l.row.toRowW d [] (fun f vs=>Qm f vs) :=
 L2.XU (n:=63) (k:=r) (x:=x) (CX:=fun _=>iD) (sp:=fun w=>fN (K w.params) (aO G k) f) hn (by decide) hdf hr hY F (fun _ H a ns hl hO hS=>Ah VA H a ns hl hO hS) fun _ _ _ _ _ z=>z
end L3
end
section
namespace L3
open PySem PySem.Spec PyProof.Rows L2
section
variable {X:Cx}{C:bL}{sub:Nat->Nat->Bool}{E:XK}{k v:Expr}{x y:Ex}{pos:Pos}
theorem Ol (hu:X.A.units+180<cLine)(ha:PE X k (bZ X.K (aI C sub E x)))(hb:PE X v (bZ X.K (aI C sub E y))):PE X (.Dict [some k] [v] pos) (bZ X.K (aI C sub E (.d1 x y))):=fun pins s σ H Q I ⟨σd,st,R,r,ok,q,hq⟩=>by
 have hs:(evalEachOpt [some k] X.env).zip ((evalEach [v] X.env).map fun t=>do let z <-t;mr pos;pure z)=([(eval k X.env,do let z <-eval v X.env;mr pos;pure z)]:List (Sem Value×Sem Value)).map fun p=>(some p.1,p.2):=by
  simp [evalEachOpt,evalEach]
  rfl
 rw[arm_eval_Dict,hs,dictDisplay_pairs _ (by simp) (by simp)]
 refine ae (oe (ae ?_))
 unfold subDict
 refine ae (wpAny_alloc ?_)
 refine ae (gf ?_)
 rw[if_pos (by simp)]
 have hf:H s.heap.objs.size=none:=I.cG.fresh (bb _)
 have I0:Inv X pins σ (upd H s.heap.objs.size (rH s.heap.objs.size [])) { s with heap:=s.heap.push { cls:=.type "dict", data:=.dict #[] } }:=by
  refine I.laid (a:=s.heap.objs.size) (o:=rH s.heap.objs.size []) (t':=s.toks) (fun _ _ q=>ak _ q) (bb _) ?_
  exact⟨⟨_,#[],0,bg _ rfl,⟨rfl,rfl,rfl⟩,rfl,rfl⟩,⟨_,bg _ rfl⟩,sV⟩
 have S0:Step H st (upd H s.heap.objs.size (rH s.heap.objs.size [])) (put st s.heap.objs.size (.tab [] [])):=mR hf
 have Lw:aS X.K (put st s.heap.objs.size (.tab [] [])) (upd H s.heap.objs.size (rH s.heap.objs.size [])) :=
  ok.VC hf ⟨[],[],eI,beq_eq_false_iff_ne.mpr (pw (Li I)),rfl,wy,.nil,fun x hx=>(by cases hx),.nil,.nil⟩
 have q:=q _ (ok.fresh hf)
 refine ae (evalPairs_cons ?_)
 refine bE (ha pins _ σ _ _ I0 ⟨σd,_,_,r.step ok S0,Lw,q,fun v H' z=>z⟩) fun uk s1 ⟨vk,H1,I1,rvk,dk,aC,dC,aP,rdk,q1⟩=>?_
 refine ae (bE (hb pins s1 σ H1 _ I1 ⟨σd,aC,_,(r.step ok S0).step Lw dC,aP,q1,fun v H' z=>z⟩) fun uv s2 ⟨vv,H2,I2,rvv,dv,aG,gM,cD,rdv,q2⟩=>?_)
 refine ae (oe (ao (evalPairs_nil ?_)))
 obtain⟨da,ks,vs,ed2,e,hk,hnew,hlen,q4⟩:=NB q2
 cases ed2
 obtain⟨xs,ws,t1,t2,t3,t4,t5,t6,t8,t7⟩:=D4 I2 cD e
 obtain⟨ka,rfl,rfl,hka⟩:=key_is I2 hk (rdk.step aP gM) rvk
 have hroom:(sM X.prog X.w).room X.A:=by show X.A.units+12<cLine;omega
 have hno:atKey xs dk=none:=by
  have:=KU (k:=dk) hk t4
  rw[t3,hnew]at this
  cases q:atKey xs dk with
  |none=>rfl
  |some p=>rw[q]at this;cases this
 have hxl:xs.length=ks.length:=by rw[<-t3];simp
 refine gf ?_
 rw[oy]
 refine ae (ae ?_)
 show wpAny _ _ (dictSet s.heap.objs.size (.ref ka) uv >>= fun _=>pure (jw PUnit.unit)) _ _ s2
 refine ae (wpAny_dictSet_heap hroom hka t7 (fun h' hm hsb=>?_) (by rw[fQ,hxl];have h10:(10000:Nat)<=aZ:=(by decide);omega))
 rw[storedH_new hno]at hm
 obtain⟨o',es,ep,m1,m2,m3,m4,m5,m6⟩:=id hm
 have hS:Step H2 aG (upd H2 s.heap.objs.size (rH s.heap.objs.size (xs++[(dk,ka,uv)]))) (put aG s.heap.objs.size (.tab (ks++[dk]) (vs++[dv]))):=lG e
 have I4:Inv X pins σ (upd H2 s.heap.objs.size (rH s.heap.objs.size (xs++[(dk,ka,uv)]))) { s2 with heap:=h',toks:=s2.toks+(sM X.prog X.w).draws dk }:=by
  refine I2.write (x:=s.heap.objs.size) (e:=s.heap.objs.size) (by rw[t1];exact cv) (.inl rfl) (fun b u hb z=>(hsb.2 b hb).trans z) ⟨o',m1⟩ ?_
  exact⟨⟨o',es,ep,m1,m2,m3,m4⟩,⟨o',m1⟩,sV⟩
 refine ao ?_
 show wpAny _ _ (forIn [] _ _) _ _ _
 rw[Qt]
 refine ao (ao (ao (ao ⟨.ref s.heap.objs.size,_,I4,rfl,hq _ _ (.after S0 (.after dC (.after gM ⟨.ref s.heap.objs.size,_,hS,cD.EG e ?_,.ref _,q4⟩)))⟩)))
 refine⟨xs++[(dk,ka,uv)],ws++[vv],eI,t2,by simp [t3],m6,?_,?_,?_,?_⟩
 ·rw[cx]
  exact(t8.step cD hS).append (.cons ((rdk.step aP gM).step cD hS) .nil)
 ·intro x hx
  rcases List.mem_append.mp hx with hx|hx
  ·exact t4 x hx
  ·simp only[ah]at hx;subst hx;exact hk
 ·rw[cx];exact t5.append (.cons rvv .nil)
 ·exact(t6.step cD hS).append (.cons (rdv.step cD hS) .nil)
theorem Pe (hu:X.A.units+180<cLine)(ha:JE X C sub E k x)(hb:JE X C sub E v y):JE X C sub E (.Dict [some k] [v] pos) (.d1 x y):=⟨Ol hu ha.h hb.h⟩
end
end L3
end
section
namespace L3
section
variable {C:bL}{sub:Nat->Nat->Bool}{E:XK}{σ:St}{st:aB}{Q:VK}{QQ:List D->aB->Prop}{QB:Bool->aB->Prop}{P:gO}{e a b c:Ex}{es:List Ex}{i:Nat}{d:D}{M:St->aB->Prop}
theorem ID:aI C sub E (.c d) σ st Q=Q d st:=rfl
theorem FZ:aI C sub E (.v i) σ st Q=gD σ i fun d=>Q d st:=rfl
theorem Gh:aI C sub E (.tup es) σ st Q=bU C sub E es σ st fun ds aA=>Q (.tup ds) aA:=rfl
theorem Jv:aI C sub E (.lst es) σ st Q=bU C sub E es σ st fun ds aA=>iF ds aA Q:=rfl
theorem NT {op:uJ}:aI C sub E (.bin op a b) σ st Q=aI C sub E a σ st fun x aC=>aI C sub E b σ aC fun y aG=>iC op x y aG Q:=rfl
theorem Io:aI C sub E (.neg a) σ st Q=aI C sub E a σ st fun x aC=>zY x aC Q:=rfl
theorem Jg {op:rD}:aI C sub E (.cmp op a b) σ st Q=aI C sub E a σ st fun x aC=>aI C sub E b σ aC fun y aG=>dE op x y aG fun k=>Q (.bl k) aG:=rfl
theorem Y6 {op op':rD}:aI C sub E (.chain op op' a b c) σ st Q=aI C sub E a σ st fun x aC=>aI C sub E b σ aC fun y aG=>dE op x y aG fun k =>
 if k=true then aI C sub E c σ aG fun z aV=>dE op' y z aV fun k=>Q (.bl k) aV else Q (.bl false) aG:=rfl
theorem Jr:aI C sub E (.and_ a b) σ st Q=aI C sub E a σ st fun x aC=>eF x aC fun k=>if k=true then aI C sub E b σ aC Q else Q x aC:=rfl
theorem Oh:aI C sub E (.or_ a b) σ st Q=aI C sub E a σ st fun x aC=>eF x aC fun k=>if k=true then Q x aC else aI C sub E b σ aC Q:=rfl
theorem Hj:aI C sub E (.not_ a) σ st Q=aI C sub E a σ st fun x aC=>eF x aC fun k=>Q (.bl (!k)) aC:=rfl
theorem Gi:aI C sub E (.ite c a b) σ st Q=aI C sub E c σ st fun x aC=>eF x aC fun k=>if k=true then aI C sub E a σ aC Q else aI C sub E b σ aC Q:=rfl
theorem Em {f:Nat}:aI C sub E (.call f es) σ st Q=bU C sub E es σ st fun ds aA=>C f ds aA Q E:=rfl
theorem Dx {f:BI}:aI C sub E (.bi f es) σ st Q=bU C sub E es σ st fun ds aA=>gS f ds aA Q:=rfl
theorem Ju {ts:List Ty}:aI C sub E (.isi a ts) σ st Q=aI C sub E a σ st fun x aC=>vX sub x aC ts fun k=>Q (.bl k) aC:=rfl
theorem Bw {m:MT}:aI C sub E (.cB m a es) σ st Q=aI C sub E a σ st fun x aC=>zM m x aC/\bU C sub E es σ aC fun ds aG=>jX m x ds aG Q:=rfl
theorem CK:aI C sub E (.ix a b) σ st Q=aI C sub E a σ st fun x aC=>aI C sub E b σ aC fun y aG=>nZ x y aG Q:=rfl
theorem Nt {lo hi:List Ex}:aI C sub E (.sl a lo hi) σ st Q=aI C sub E a σ st fun x aC=>bU C sub E lo σ aC fun ls aG=>oV ls fun l=>bU C sub E hi σ aG fun hs aV=>oV hs fun h=>DK x l h aV Q:=rfl
theorem Kd {f:BI}{k:IK}:aI C sub E (.bit f k es) σ st Q=bU C sub E es σ st fun ds aC=>gN (some k) ds aC fun _ xs=>eT f xs aC Q:=rfl
theorem ZW {n:Nat}{bG tg:List Nat}{one:Bool}{k:Option IK}{aD ifs:List Ex}:aI C sub E (.comp n bG tg one k aD ifs e) σ st Q=bU C sub E aD σ st fun ds aC=>gN k ds aC fun as xs =>
 jQ (same as aC) (fun x aG K=>kQ one tg x (ai n none++bG.map fun i=>(σ[i]?).getD none) fun σ' =>
 iM C sub E ifs σ' aG fun b aV=>if b=true then aI C sub E e σ' aV fun d cH=>K (some d) cH else K none aV) xs [] aC fun ds cQ=>iF ds cQ Q:=rfl
theorem PV:bU C sub E [] σ st QQ=QQ [] st:=rfl
theorem M7:bU C sub E (e::es) σ st QQ=aI C sub E e σ st fun d aA=>bU C sub E es σ aA fun ds aX=>QQ (d::ds) aX:=rfl
theorem Ik:iM C sub E [] σ st QB=QB true st:=rfl
theorem Av:iM C sub E (e::es) σ st QB=aI C sub E e σ st fun d aA=>eF d aA fun k=>if k=true then iM C sub E es σ aA QB else QB false aA:=rfl
theorem Kx:wpS C sub (.ex e) P σ st=aI C sub (fun c aA=>P.ex c σ aA) e σ st fun _ aA=>P.nx σ aA:=rfl
theorem vC {t:Tg}:wpS C sub (.asg t e) P σ st=aI C sub (fun c aA=>P.ex c σ aA) e σ st fun d aA=>nI C sub (fun c aA=>P.ex c σ aA) t d σ aA P.nx:=rfl
theorem Ew {op:uJ}:wpS C sub (.aug i op e) P σ st=gD σ i fun x=>aI C sub (fun c aA=>P.ex c σ aA) e σ st fun y aA=>notRef x/\iC op x y aA fun d aX=>P.nx (σ.set i (some d)) aX:=rfl
theorem Fe {x y:List Sx}:wpS C sub (.iff e x y) P σ st=aI C sub (fun c aA=>P.ex c σ aA) e σ st fun d aA=>eF d aA fun k=>if k=true then cR C sub x P σ aA else cR C sub y P σ aA:=rfl
theorem Bp {t:Tg}{k:Option IK}{b:List Sx}:wpS C sub (.gR t k es b) P σ st=bU C sub (fun c aA=>P.ex c σ aA) es σ st fun ds aC=>gN k ds aC fun as xs=>rV (same as aC) (fun x next σ st=>nI C sub (fun c aA=>P.ex c σ aA) t x σ st fun σ' aA=>cR C sub b { P with nx:=next,ct:=next,bk:=P.nx } σ' aA) P.nx xs σ aC:=rfl
theorem R8:wpS C sub (.ret e) P σ st=aI C sub (fun c aA=>P.ex c σ aA) e σ st P.rt:=rfl
theorem Cy:wpS C sub .brk P σ st=P.bk σ st:=rfl
theorem An:wpS C sub .cnt P σ st=P.ct σ st:=rfl
theorem YZ:wpS C sub .pass P σ st=P.nx σ st:=rfl
theorem AS:nI C sub E (.nm i) d σ st M=M (σ.set i (some d)) st:=rfl
theorem Kf {is:List Nat}:nI C sub E (.tp is) d σ st M=kQ false is d σ fun σ'=>M σ' st:=rfl
theorem Kh:nI C sub E (.ix a b) d σ st M=aI C sub E a σ st fun x aC=>aI C sub E b σ aC fun y aG=>CA x y d aG fun aV=>M σ aV:=rfl
theorem Gf {c f:List Nat}:nI C sub E (.fl c f a) d σ st M=aI C sub E a σ st fun x aC=>EB c f d x aC fun aG=>M σ aG:=rfl
theorem Ky:nI C sub E (.dk a b) d σ st M=aI C sub E a σ st fun x aC=>aI C sub E b σ aC fun y aG=>zC y d x aG fun aV=>M σ aV:=rfl
theorem Ge {c f:List Nat}:aI C sub E (.fld c f a) σ st Q=aI C sub E a σ st fun x aC=>qC c f x aC Q:=rfl
theorem Od {c:List Nat}{f:Nat}:aI C sub E (.mk c f es) σ st Q=bU C sub E es σ st fun ds aC=>∀ p,aC p=none->C f (.ref p::ds) (put aC p (.ins c [])) (fun d aG=>d=.non/\Q (.ref p) aG) E:=rfl
theorem Hf {c m:List Nat}{f:Nat}:aI C sub E (.mcl c m f a es) σ st Q=aI C sub E a σ st fun x aC=>EH c m x aC/\bU C sub E es σ aC fun ds aG=>C f (x::ds) aG Q E:=rfl
theorem Mj {k v:Ex}:aI C sub E (.d1 k v) σ st Q = ∀ p,st p=none->aI C sub E k σ (put st p (.tab [] [])) fun x aC=>aI C sub E v σ aC fun y aG=>zC x y (.ref p) aG fun aV=>Q (.ref p) aV:=rfl
theorem Bi:aI C sub E .dnew σ st Q = ∀ p,st p=none->Q (.ref p) (put st p (.tab [] [])):=rfl
theorem Kr {neg:Bool}:aI C sub E (.din neg a b) σ st Q=aI C sub E a σ st fun x aC=>aI C sub E b σ aC fun y aG=>wN x y aG fun k=>Q (.bl (if neg=true then !k else k)) aG:=rfl
theorem Gw:aI C sub E (.dix a b) σ st Q=aI C sub E a σ st fun y aC=>aI C sub E b σ aC fun x aG=>rE x y aG Q:=rfl
theorem cT {c f:List Nat}{p:Nat}{fs:List (List Nat×D)}(h:st p=some (.ins c fs)){x:D}(hx:bV fs f=some x):qC c f (.ref p) st Q=Q x st:=by
 simp only[qC,nF,h,hx,cZ,true_and]
theorem lZ {c f:List Nat}{p:Nat}{fs:List (List Nat×D)}{R:aB->Prop}(h:st p=some (.ins c fs))(hl:fs.length<900):EB c f d (.ref p) st R=R (put st p (.ins c (rY f d fs))):=by
 simp only[EB,nF,h,hl,true_and]
theorem kZ {c m:List Nat}{p:Nat}{fs:List (List Nat×D)}(h:st p=some (.ins c fs))(hm:bV fs m=none):EH c m (.ref p) st=True:=by
 simp only[EH,nF,h,hm,and_self]
theorem Q7 {x:D}{p:Nat}{ks vs:List D}{R:Bool->Prop}(h:st p=some (.tab ks vs))(hx:keyed x):wN x (.ref p) st R=R (ks.any fun k=>bK k x):=by
 simp only[wN,tabAt,h,hx,true_and]
theorem AB {x v:D}{p:Nat}{ks vs:List D}(h:st p=some (.tab ks vs))(hx:keyed x)(hv:kR ks vs x=some v):rE x (.ref p) st Q=Q v st:=by
 simp only[rE,tabAt,h,hx,hv,cZ,true_and]
theorem OQ {x v:D}{p:Nat}{ks vs:List D}{R:aB->Prop}(h:st p=some (.tab ks vs))(hx:keyed x)(hn:(ks.any fun k=>bK k x)=false)(hl:ks.length<10000):zC x v (.ref p) st R=R (put st p (.tab (ks++[x]) (vs++[v]))):=by
 simp only[zC,tabAt,h,hx,hn,hl,true_and]
end
section
variable {d:D}{r:St}{R:D->Prop}{o0 o1 o2 o3 o4 o5 o6 o7 o8 o9 jK jP WJ:Option D}
theorem EX:gD (some d::r) 0 R=R d:=rfl
theorem Ai:gD (o0::some d::r) 1 R=R d:=rfl
theorem Ms:gD (o0::o1::some d::r) 2 R=R d:=rfl
theorem Ng:gD (o0::o1::o2::some d::r) 3 R=R d:=rfl
theorem Oo:gD (o0::o1::o2::o3::some d::r) 4 R=R d:=rfl
theorem Ny:gD (o0::o1::o2::o3::o4::some d::r) 5 R=R d:=rfl
theorem Mw:gD (o0::o1::o2::o3::o4::o5::some d::r) 6 R=R d:=rfl
theorem Mp:gD (o0::o1::o2::o3::o4::o5::o6::some d::r) 7 R=R d:=rfl
theorem Md:gD (o0::o1::o2::o3::o4::o5::o6::o7::some d::r) 8 R=R d:=rfl
theorem Nl:gD (o0::o1::o2::o3::o4::o5::o6::o7::o8::some d::r) 9 R=R d:=rfl
theorem Gk:gD (o0::o1::o2::o3::o4::o5::o6::o7::o8::o9::some d::r) 10 R=R d:=rfl
theorem Ic:gD (o0::o1::o2::o3::o4::o5::o6::o7::o8::o9::jK::some d::r) 11 R=R d:=rfl
theorem Ib:gD (o0::o1::o2::o3::o4::o5::o6::o7::o8::o9::jK::jP::some d::r) 12 R=R d:=rfl
theorem Iu:gD (o0::o1::o2::o3::o4::o5::o6::o7::o8::o9::jK::jP::WJ::some d::r) 13 R=R d:=rfl
end
end L3
end
section
open L3 PySem
local macro_rules|`(tactic| walk_at"wpe")=>`(tactic| simp only[↓ID,↓FZ,↓Gh,↓Jv,↓NT,↓Io,↓Jg,↓Y6,↓Jr,↓Oh,↓Hj,↓Gi,↓Em,↓Dx,↓Ju,↓Bw,↓CK,↓Nt,↓Kd,↓ZW,↓Ge,↓Od,↓Hf,↓Bi,↓Kr,↓Gw,↓Gf,↓Ky,↓PV,↓M7,↓Ik,↓Av,↓Kx,↓vC,↓Ew,↓Fe,↓Bp,↓R8,↓Cy,↓An,↓YZ,↓AS,↓Kf,↓Kh,↓EX,↓Ai,↓Ms,↓Ng,↓Oo,↓Ny,↓Mw,↓Mp,↓Md,↓Nl,↓Gk,↓Ic,↓Ib,↓Iu,↓Be,↓X3,↓XS,↓Y4,↓TF,↓Bs,↓Ef,↓Fh,↓Cd,↓cmp_gt,↓Cp,↓W0,↓YD,↓U7,↓TN,↓NU,↓LZ,↓OV,↓LX,↓K5,↓L8,↓add_int,↓add_str,↓EK,↓XN,↓sub_int,↓mul_int,↓WW,↓UM,↓mod_int,↓pow_int,↓neg_int,↓X6,↓YI,jW,↓lK,↓ML,↓IZ,↓WT,EU,UH,UR,Mb,Nj,↓bD,↓RH,↓Ei,↓Es,↓K1,↓Cq,Hx,↓W5,↓UB,↓U4,↓QW,↓mF,↓uS,↓vN,↓SR,↓OX,↓NV,↓YO,↓PQ,↓WS,↓LA,↓len_str,↓FC,↓Q1,↓Q6,↓Y5,↓Z7,↓Ak,↓RO,↓MI,↓KW,↓ZQ,↓YE,↓G6,↓Fm,↓As,↓WM,↓UD,↓Bh,↓ZN,↓M3,↓vR,↓NP,↓XH,↓sT,↓yU,↓LD,↓MG,↓Fj,↓RT,av,e9,cw,az,ai,b7,if_true,if_false,d7,d5,ag,reduceIte,dg,du,true_and,and_true,wK,O4,RR,NL,FW,G9,LF,G7,iP,YK,Df,WY,j7,mi,mj,decide_eq_true_eq,ay,qt,List.zip_nil_left,List.zip_nil_right,l0,List.foldl_nil,be,ba])
local macro_rules|`(tactic| walk_at"st")=>`(tactic| ((try dsimp only);(first|refine fJ ?_|rw[R3]);(try walk_at"wpe")))
local macro_rules|`(tactic| walk_at"ex")=>`(tactic| ((try dsimp only);(try walk_at"wpe")))
section
namespace L3
open PySem
theorem aT {G:Prog}{f k:Nat}{fn:Fn}{ds:List D}{st:aB}{Q:VK}{E:XK}(h:G.fns f=some fn):aO G (k+1) f ds st Q E=(ds.length=fn.np/\cR (aO G k) G.sub fn.body ⟨fun _ aA=>Q .non aA,Q,fun _ _=>False,fun _ _=>False,fun c _ aA=>E c aA⟩ (start fn.np fn.nl ds) st):=by
 simp only[aO,h]
noncomputable def bC (as:List Nat)(st aA:aB):Prop:=∀ a o,a∉as->st a=some o->aA a=some o
theorem bC.refl {as:List Nat}{st:aB}:bC as st st:=fun _ _ _ h=>h
theorem bC.trans {as:List Nat}{a b c:aB}(h:bC as a b)(h':bC as b c):bC as a c:=fun x o n e=>h' x o n (h x o n e)
theorem bC.mono {as bs:List Nat}{st aA:aB}(h:bC as st aA)(s:∀ a∈as,a∈bs):bC bs st aA:=fun x o n e=>h x o (fun z=>n (s x z)) e
theorem Ext.keep {as:List Nat}{st aA:aB}(h:Ext st aA):bC as st aA:=fun x o _ e=>h x o e
theorem bC.put {as:List Nat}{st:aB}{a:Nat}{o:MO}(h:a∈as):bC as st (put st a o):=fun x u n e=>by rw[aH (fun z=>n (by rw[z];exact h))];exact e
noncomputable def xH (ns:List Int)(k:Int):Int:=if k<ns.length then(ns[k.toNat]?).getD 0 else if ns=[]then 0 else(ns[(k % ns.length).toNat]?).getD 0*31+k
noncomputable def kW (ns:List Int)(k many:Int):Int :=
 let d:=(xH ns k+7919*k+1)*48271 % 2147483647
 (d*d+7*d+k) % 2147483629 % many
theorem gW {ns:List Int}{k many:Int}(h:0<many):0<=kW ns k many:=vj _ (by omega)
theorem gY {ns:List Int}{k many:Int}(h:0<many):kW ns k many<many:=qv _ h
noncomputable def oR:Fn:=⟨2,2,[.iff (.cmp .lt (.v 1) (.bi .len [(.v 0)])) [.ret (.ix (.v 0) (.v 1))] [],.iff (.cmp .eq (.v 0) (.lst [])) [.ret (.c (.int 0))] [],
 .ret (.bin .add (.bin .mul (.ix (.v 0) (.bin .mod (.v 1) (.bi .len [(.v 0)]))) (.c (.int 31))) (.v 1))]⟩
noncomputable def nK (ic:Nat):Fn:=⟨3,4,[.asg (.nm 3) (.bin .mod (.bin .mul (.bin .add (.bin .add (.call ic [(.v 0),(.v 1)]) (.bin .mul (.c (.int 7919)) (.v 1))) (.c (.int 1))) (.c (.int 48271))) (.c (.int 2147483647))),
 .ret (.bin .mod (.bin .mod (.bin .add (.bin .add (.bin .mul (.v 3) (.v 3)) (.bin .mul (.c (.int 7)) (.v 3))) (.v 1)) (.c (.int 2147483629))) (.v 2))]⟩
noncomputable def sO (im:Nat):Fn:=⟨3,3,[.asg (.ix (.v 1) (.c (.int 0))) (.bin .add (.ix (.v 1) (.c (.int 0))) (.c (.int 1))),.ret (.call im [(.v 0),(.ix (.v 1) (.c (.int 0))),(.v 2)])]⟩
theorem D3 (ns:List Int):bO (ns.map .int)=true/\cI (ns.map .int)=0:=by
 induction ns with
 |nil=>exact⟨rfl,rfl⟩
 |cons n r ih=>exact⟨by simp only[av,bO,bH,ih.1,df],by simp only[av,cI,cL,ih.2,Nat.max_self]⟩
theorem NG {ns:List Int}{k:Int}(h0:0<=k)(h1:k<ns.length):fZ (ns.map D.int) k=some (.int ((ns[k.toNat]?).getD 0)):=by
 obtain⟨n,rfl⟩:∃ n:Nat,k=n:=⟨k.toNat,by omega⟩
 rw[dR (by simp;omega)]
 simp only[bc,Int.toNat_natCast]
 rw[aj (by omega)]
 rfl
section
variable {G:Prog}{k ic im dM:Nat}{st:aB}{Q:VK}{E:XK}{ns:List Int}
theorem WO (hc:G.fns ic=some oR){i:Int}(hi:0<=i)(hQ:∀ aA,Ext st aA->Q (.int (xH ns i)) aA):aO G (k+1) ic [.bP (ns.map .int),.int i] st Q E:=by
 rw[aT hc]
 simp only[oR,start]
 refine⟨rfl,?_⟩
 refine fJ ?_
 walk_at"wpe"
 simp only[aa]
 by_cases h:i<ns.length
 ·simp only[h,decide_true,if_true]
  refine fJ ?_
  walk_at"wpe"
  rw[NG hi h]
  walk_at"wpe"
  have:=hQ st .refl
  simp only[xH,h,if_true]at this
  exact this
 ·simp only[h,decide_false,ag,if_false,aF]
  refine fJ ?_
  walk_at"wpe"
  refine⟨Nat.zero_le _,fun p hp=>?_⟩
  have hx:Ext st (put st p (.lst [])):=Ext.new hp
  dsimp only
  have e1:bT (put st p (.lst [])) (.bP (ns.map .int)) (.ref p)=ns.isEmpty:=by
   simp only[bT,aN,DI]
   cases ns with
   |nil=>rfl
   |cons n r=>rfl
  rw[e1]
  refine⟨⟨?_,cu _⟩,⟨?_,cu _⟩,?_⟩
  ·simp only[fH,(D3 ns).1,(D3 ns).2,fe];rfl
  ·simp only[fH,aN,JK];rfl
  cases ns with
  |nil =>
   simp only[n4,if_true]
   refine fJ ?_
   walk_at"wpe"
   have:=hQ _ hx
   simp only[xH,h,if_false,if_true]at this
   exact this
  |cons n r =>
   simp only[yp,ag,if_false,aF]
   refine fJ ?_
   have hl:(0:Int)<((n::r).length:Int):=by simp only[be];omega
   simp only[R8,NT,CK,FZ,ID,Dx,M7,PV,Ct,Bm,PQ,LA,mod_int,ML,aa,av,cw,az,e9]
   refine⟨by simpa using hl,?_⟩
   have hm0:0<=i % ((n::r).length:Int):=vj _ (by omega)
   have hm1:i % ((n::r).length:Int)<(n::r).length:=qv _ hl
   have:=NG (ns:=n::r) hm0 hm1
   simp only[av,be]at this
   simp only[be,aa]
   rw[this]
   walk_at"wpe"
   refine⟨.inr ⟨by omega,by omega⟩,?_⟩
   have:=hQ _ hx
   simp only[xH,h,if_false]at this
   simpa using this
theorem TC (hm:G.fns im=some (nK ic))(hc:G.fns ic=some oR){i many:Int}(hi:0<=i)(hmany:0<many)(hQ:∀ aA,Ext st aA->Q (.int (kW ns i many)) aA):aO G (k+2) im [.bP (ns.map .int),.int i,.int many] st Q E:=by
 rw[aT hm]
 simp only[nK,start]
 refine⟨rfl,?_⟩
 refine fJ ?_
 walk_at"wpe"
 refine WO hc hi fun aA e=>?_
 walk_at"wpe"
 refine⟨.inl ⟨by omega,by omega⟩,.inr ⟨by omega,by omega⟩,by omega,?_⟩
 refine fJ ?_
 walk_at"wpe"
 have d0:0<=(xH ns i+7919*i+1)*48271 % 2147483647:=vj _ (by omega)
 have d1:(xH ns i+7919*i+1)*48271 % 2147483647<2147483647:=qv _ (by omega)
 refine⟨.inl ⟨by omega,by omega⟩,.inl ⟨by omega,by omega⟩,by omega,hmany,?_⟩
 exact hQ aA e
theorem fO (hn:G.fns dM=some (sO im))(hm:G.fns im=some (nK ic))(hc:G.fns ic=some oR){a:Nat}{i many:Int}(ha:st a=some (.lst [.int i]))(hi:0<=i)(hmany:0<many)
 (hQ:∀ aA,bC [a] st aA->aA a=some (.lst [.int (i+1)])->Q (.int (kW ns (i+1) many)) aA):aO G (k+3) dM [.bP (ns.map .int),.ref a,.int many] st Q E:=by
 rw[aT hn]
 simp only[sO,start]
 refine⟨rfl,?_⟩
 refine fJ ?_
 walk_at"wpe"
 rw[dX ha]
 walk_at"wpe"
 rw[aE ha]
 have e0:oA [D.int i].length 0=some 0:=rfl
 simp only[e0,bD,dg]
 refine fJ ?_
 walk_at"wpe"
 rw[dX aN]
 walk_at"wpe"
 refine TC hm hc (by omega) hmany fun aA e=>?_
 refine hQ aA (fun x o n h=>e x o (by rw[aH (by simpa using n)];exact h)) (e a _ aN)
end
end L3
end
section
namespace L3
open PySem
inductive W1 where
 |not|before|once|sofar
 deriving DecidableEq
inductive W2 where
 |and|or|bE|same|since
 deriving DecidableEq
inductive Sy where
 |yes|no|cF (n:List Nat)|one (w:W1)(s:Sy)|two (w:W2)(s t:Sy)
 deriving DecidableEq
noncomputable def c1:W1->List Nat
 |.not=>W "not"
 |.before=>W "before"
 |.once=>W "once"
 |.sofar=>W "sofar"
noncomputable def c2:W2->List Nat
 |.and=>W "and"
 |.or=>W "or"
 |.bE=>W "then"
 |.same=>W "same"
 |.since=>W "since"
noncomputable def toD:Sy->D
 |.yes=>.tup [.str (W "yes")]
 |.no=>.tup [.str (W "no")]
 |.cF n=>.tup [.str (W "lamp"),.str n]
 |.one w s=>.tup [.str (c1 w),toD s]
 |.two w s t=>.tup [.str (c2 w),toD s,toD t]
noncomputable def aK:Sy->Nat
 |.one _ s=>aK s+1
 |.two _ s t=>max (aK s) (aK t)+1
 |_=>1
noncomputable def p1:W1->Bool
 |.not=>false
 |_=>true
noncomputable def p2:W2->Bool
 |.since=>true
 |_=>false
noncomputable def cnt:Sy->Nat
 |.one w s=>(if p1 w then 1 else 0)+cnt s
 |.two w s t=>(if p2 w then 1 else 0)+(cnt s+cnt t)
 |_=>0
noncomputable def over (names:List (List Nat)):Sy->Prop
 |.cF n=>n∈names
 |.one _ s=>over names s
 |.two _ s t=>over names s/\over names t
 |_=>True
theorem mK:∀ s:Sy,bH (toD s)=true
 |.yes=>rfl
 |.no=>rfl
 |.cF n=>rfl
 |.one w s=>by simp only[toD,bH,bO,mK s,df]
 |.two w s t=>by simp only[toD,bH,bO,mK s,mK t,df]
theorem qQ:∀ s:Sy,cL (toD s)=aK s
 |.yes=>rfl
 |.no=>rfl
 |.cF n=>rfl
 |.one w s=>by simp only[toD,cL,cI,qQ s,aK];omega
 |.two w s t=>by simp only[toD,cL,cI,qQ s,qQ t,aK];omega
noncomputable def oF (dM is:Nat):Fn:=⟨5,7,[.asg (.nm 5) (.call dM [(.v 0),(.v 1),(.c (.int 13))]),.iff (.or_ (.cmp .eq (.v 3) (.c (.int 0))) (.cmp .lt (.v 5) (.c (.int 3)))) [.ret (.tup [(.c (.str (W "lamp"))),(.ix (.v 2) (.call dM [(.v 0),(.v 1),(.bi .len [(.v 2)])]))])] [],.iff (.cmp .eq (.v 5) (.c (.int 3))) [.ret (.tup [(.ix (.lst [(.c (.str (W "yes"))),(.c (.str (W "no")))]) (.call dM [(.v 0),(.v 1),(.c (.int 2))]))])] [],.iff (.and_ (.cmp .gt (.v 5) (.c (.int 8))) (.cmp .gt (.ix (.v 4) (.c (.int 0))) (.c (.int 0)))) [.asg (.ix (.v 4) (.c (.int 0))) (.bin .sub (.ix (.v 4) (.c (.int 0))) (.c (.int 1))),.asg (.nm 6) (.call is [(.v 0),(.v 1),(.v 2),(.bin .sub (.v 3) (.c (.int 1))),(.v 4)]),.iff (.cmp .eq (.v 5) (.c (.int 12))) [.ret (.tup [(.c (.str (W "since"))),(.v 6),(.call is [(.v 0),(.v 1),(.v 2),(.bin .sub (.v 3) (.c (.int 1))),(.v 4)])])] [],.ret (.tup [(.ix (.lst [(.c (.str (W "before"))),(.c (.str (W "once"))),(.c (.str (W "sofar")))]) (.bin .sub (.v 5) (.c (.int 9)))),(.v 6)])] [],.asg (.nm 6) (.call is [(.v 0),(.v 1),(.v 2),(.bin .sub (.v 3) (.c (.int 1))),(.v 4)]),.iff (.or_ (.cmp .eq (.v 5) (.c (.int 4))) (.cmp .gt (.v 5) (.c (.int 8)))) [.ret (.tup [(.c (.str (W "not"))),(.v 6)])] [],.ret (.tup [(.ix (.lst [(.c (.str (W "and"))),(.c (.str (W "or"))),(.c (.str (W "then"))),(.c (.str (W "same")))]) (.bin .sub (.v 5) (.c (.int 5)))),(.v 6),(.call is [(.v 0),(.v 1),(.v 2),(.bin .sub (.v 3) (.c (.int 1))),(.v 4)])])]⟩
noncomputable def Drawn (a b:Nat)(i l:Int)(st aA:aB)(i' l':Int):Prop:=bC [a,b] st aA/\0<=i'/\aA a=some (.lst [.int i'])/\aA b=some (.lst [.int l'])
section
variable {G:Prog}{k ic im dM is:Nat}{st:aB}{Q:VK}{E:XK}{ns:List Int}
theorem Y8 {xs:List (List Nat)}{v:Int}(h0:0<=v)(h1:v<xs.length):∃ x∈xs,fZ (xs.map D.str) v=some (.str x):=by
 obtain⟨n,rfl⟩:∃ n:Nat,v=n:=⟨v.toNat,by omega⟩
 have h:n<xs.length:=by omega
 refine⟨xs[n],List.getElem_mem h,?_⟩
 rw[dR (by simpa using h)]
 simp only[bc]
 rw[aj h]
 rfl
theorem WD {d:D}{r:List D}:oA (d::r).length 0=some 0:=by
 unfold oA
 rw[if_pos (by omega),if_pos (by simp only[be];omega)]
 rfl
theorem bI {ds:List D}{Q:VK}(hl:ds.length<=aZ)(h:∀ p aA,Ext st aA->st p=none->aA p=some (.lst ds)->Q (.ref p) aA):iF ds st Q:=⟨hl,fun p hp=>h p _ (Ext.new hp) hp aN⟩
theorem tK (hs:G.fns is=some (oF dM is))(hn:G.fns dM=some (sO im))(hm:G.fns im=some (nK ic))(hc:G.fns ic=some oR){names:List (List Nat)}(iH:0<names.length){a b:Nat}(dY:a≠b):
  ∀(n:Nat){st:aB}{Q:VK}{E:XK}{i l:Int},st a=some (.lst [.int i])->st b=some (.lst [.int l])->0<=i->0<=l ->
   (∀ s aA i',over names s->aK s<=n+1->(cnt s:Int)<=l->bC [a,b] st aA->0<=i'->aA a=some (.lst [.int i'])->aA b=some (.lst [.int (l-cnt s)])->Q (toD s) aA) ->
   aO G (k+n+4) is [.bP (ns.map .int),.ref a,.tup (names.map .str),.int n,.ref b] st Q E:=by
 intro n
 have cF:∀{n:Nat}{st:aB}{Q:VK}{E:XK}{i l:Int}{K:Nat}{P:gO}{r:St},st a=some (.lst [.int i])->st b=some (.lst [.int l])->0<=i->0<=l ->
   (∀ s aA i',over names s->aK s<=n+1->(cnt s:Int)<=l->bC [a,b] st aA->0<=i'->aA a=some (.lst [.int i'])->aA b=some (.lst [.int (l-cnt s)])->P.rt (toD s) aA) ->
   cR (aO G (K+3)) G.sub [.ret (.tup [(.c (.str (W "lamp"))),(.ix (.v 2) (.call dM [(.v 0),(.v 1),(.bi .len [(.v 2)])]))])] P (some (.bP (ns.map .int))::some (.ref a)::some (.tup (names.map .str))::r) st:=by
  intro n st Q E i l K P r ha hb hi hl hQ
  walk_at"st"
  simp only[aa]
  refine fO hn hm hc ha hi (by omega) fun aC k1 a1=>?_
  walk_at"ex"
  obtain⟨x,hx,e⟩:=Y8 (xs:=names) (gW (ns:=ns) (k:=i+1) (many:=names.length) (by omega)) (gY (by omega))
  rw[e]
  walk_at"ex"
  have b1:aC b=some (.lst [.int l]):=k1 b _ (by simpa using dY.symm) hb
  exact hQ (.cF x) aC (i+1) hx (by simp [aK]) (by simp [cnt];omega) (k1.mono (by simp)) (by omega) a1 (by simpa [cnt]using b1)
 induction n with
 |zero =>
  intro st Q E i l ha hb hi hl hQ
  rw[aT hs]
  simp only[oF,start]
  refine⟨rfl,?_⟩
  walk_at"st"
  refine fO hn hm hc ha hi (by omega) fun aC k1 a1=>?_
  walk_at"st"
  simp only[la,beq_self_eq_true,if_true]
  have b1:aC b=some (.lst [.int l]):=k1 b _ (by simpa using dY.symm) hb
  have kk:bC [a,b] st aC:=k1.mono (by simp)
  exact cF (n:=0) (Q:=Q) (E:=E) a1 b1 (by omega) hl fun s aA i' h1 h2 h3 h4 h5 h6 h7=>hQ s aA i' h1 h2 h3 (kk.trans h4) h5 h6 h7
 |succ n ih =>
  intro st Q E i l ha hb hi hl hQ
  rw[aT hs]
  simp only[oF,start]
  refine⟨rfl,?_⟩
  walk_at"st"
  refine fO hn hm hc ha hi (by omega) fun aC k1 a1=>?_
  have v0:=gW (ns:=ns) (k:=i+1) (many:=13) (by omega)
  have v1:=gY (ns:=ns) (k:=i+1) (many:=13) (by omega)
  generalize kW ns (i+1) 13=v at v0 v1
  have b1:aC b=some (.lst [.int l]):=k1 b _ (by simpa using dY.symm) hb
  have kk:bC [a,b] st aC:=k1.mono (by simp)
  have hn0:(((n+1:Nat):Int)==0)=false:=by rw[beq_eq_false_iff_ne];omega
  have hn1:((n+1:Nat):Int)-1=(n:Int):=by omega
  walk_at"st"
  simp only[hn0,ag,if_false]
  by_cases h3:v<3
  ·simp only[h3,decide_true,if_true]
   exact cF (n:=n+1) (Q:=Q) (E:=E) a1 b1 (by omega) hl fun s aA i' h1 h2 h3 h4 h5 h6 h7=>hQ s aA i' h1 h2 h3 (kk.trans h4) h5 h6 h7
  simp only[h3,decide_false,ag,if_false,aF]
  walk_at"st"
  by_cases e3:v=3
  ·subst e3
   simp only[beq_self_eq_true,if_true]
   walk_at"st"
   refine bI (by decide) fun p aG x2 hp gU=>?_
   walk_at"ex"
   have pa:p≠a:=fun z=>by rw[z,a1]at hp;cases hp
   have pb:p≠b:=fun z=>by rw[z,b1]at hp;cases hp
   refine fO hn hm hc (x2 a _ a1) (by omega) (by omega) fun aV k3 a3=>?_
   walk_at"ex"
   have w0:=gW (ns:=ns) (k:=i+1+1) (many:=2) (by omega)
   have w1:=gY (ns:=ns) (k:=i+1+1) (many:=2) (by omega)
   generalize kW ns (i+1+1) 2=w at w0 w1
   rw[dX (k3 p _ (by simpa using pa) gU)]
   have b3:aV b=some (.lst [.int l]):=k3 b _ (by simpa using dY.symm) (x2 b _ b1)
   have kk3:bC [a,b] st aV:=(kk.trans x2.keep).trans (k3.mono (by simp))
   obtain rfl|rfl:w=0∨w=1:=by omega
   ·walk_at"ex"
    exact hQ .yes aV _ trivial (by simp [aK]) (by simp [cnt];omega) kk3 (by omega) a3 (by simpa [cnt]using b3)
   ·walk_at"ex"
    exact hQ .no aV _ trivial (by simp [aK]) (by simp [cnt];omega) kk3 (by omega) a3 (by simpa [cnt]using b3)
  have e3':(v==3)=false:=by rw[beq_eq_false_iff_ne];exact e3
  simp only[e3',ag,if_false,aF]
  walk_at"st"
  have plain:∀{P:gO},(∀ s aA i',over names s->aK s<=n+1+1->(cnt s:Int)<=l->bC [a,b] st aA->0<=i'->aA a=some (.lst [.int i'])->aA b=some (.lst [.int (l-cnt s)])->P.rt (toD s) aA) ->
    cR (aO G (k+n+4)) G.sub [.asg (.nm 6) (.call is [(.v 0),(.v 1),(.v 2),(.bin .sub (.v 3) (.c (.int 1))),(.v 4)]),.iff (.or_ (.cmp .eq (.v 5) (.c (.int 4))) (.cmp .gt (.v 5) (.c (.int 8)))) [.ret (.tup [(.c (.str (W "not"))),(.v 6)])] [],.ret (.tup [(.ix (.lst [(.c (.str (W "and"))),(.c (.str (W "or"))),(.c (.str (W "then"))),(.c (.str (W "same")))]) (.bin .sub (.v 5) (.c (.int 5)))),(.v 6),(.call is [(.v 0),(.v 1),(.v 2),(.bin .sub (.v 3) (.c (.int 1))),(.v 4)])])] P [some (.bP (ns.map .int)),some (.ref a),some (.tup (names.map .str)),some (.int ((n+1:Nat):Int)),some (.ref b),some (.int v),none] aC:=by
   intro P hQ
   walk_at"st"
   rw[hn1]
   refine ih a1 b1 (by omega) hl fun s1 aG i2 o1 d1 cc1 k2 hi2 a2 b2=>?_
   walk_at"st"
   have hor:((v==4)||decide (8<v))=true∨(v=5∨v=6∨v=7∨v=8):=by
    by_cases q:v=4
    ·left;simp [q]
    ·by_cases q':8<v
     ·left;simp [q']
     ·right;omega
   rcases hor with hor|hor
   ·have go:cR (aO G (k+n+4)) G.sub [.ret (.tup [.c (.str (W "not")),.v 6])] { P with nx:=cR (aO G (k+n+4)) G.sub [.ret (.tup [(.ix (.lst [(.c (.str (W "and"))),(.c (.str (W "or"))),(.c (.str (W "then"))),(.c (.str (W "same")))]) (.bin .sub (.v 5) (.c (.int 5)))),(.v 6),(.call is [(.v 0),(.v 1),(.v 2),(.bin .sub (.v 3) (.c (.int 1))),(.v 4)])])] P } [some (.bP (ns.map .int)),some (.ref a),some (.tup (names.map .str)),some (.int ((n+1:Nat):Int)),some (.ref b),some (.int v),some (toD s1)] aG:=by
     walk_at"st"
     exact hQ (.one .not s1) aG i2 o1 (by simp only[aK];omega) (by simp [cnt,p1];omega) (kk.trans k2) hi2 a2 (by simpa [cnt,p1]using b2)
    by_cases q:v=4
    ·simp only[q,beq_self_eq_true,if_true]
     rw[q]at go;exact go
    ·have q1:(v==4)=false:=by rw[beq_eq_false_iff_ne];exact q
     have q2:8<v:=by simpa [q1]using hor
     simp only[q1,q2,ag,if_false,if_true]
     exact go
   ·have q1:(v==4)=false:=by rw[beq_eq_false_iff_ne];omega
    have q2:¬8<v:=by omega
    simp only[q1,q2,ag,if_false,aF]
    walk_at"st"
    refine bI (by decide) fun p aV x3 hp hp3=>?_
    walk_at"ex"
    rw[dX hp3]
    have pa:p≠a:=fun z=>by rw[z,a2]at hp;cases hp
    have pb:p≠b:=fun z=>by rw[z,b2]at hp;cases hp
    have step:∀ w:W2,p2 w=false->∀{Q:VK},(∀ s aA i',over names s->aK s<=n+1+1->(cnt s:Int)<=l->bC [a,b] st aA->0<=i'->aA a=some (.lst [.int i'])->aA b=some (.lst [.int (l-cnt s)])->Q (toD s) aA) ->
      aO G (k+n+4) is [.bP (ns.map .int),.ref a,.tup (names.map .str),.int (((n+1:Nat):Int)-1),.ref b] aV (fun d aA=>Q (.tup [.str (c2 w),toD s1,d]) aA) fun c aA=>P.ex c [some (.bP (ns.map .int)),some (.ref a),some (.tup (names.map .str)),some (.int ((n+1:Nat):Int)),some (.ref b),some (.int v),some (toD s1)] aA:=by
     intro w hw Q hQ
     rw[hn1]
     refine ih (x3 a _ a2) (x3 b _ b2) hi2 (by omega) fun s2 cH i4 o2 d2 c2' k4 hi4 a4 b4=>?_
     refine hQ (.two w s1 s2) cH i4 ⟨o1,o2⟩ (by simp only[aK];omega) (by simp only[cnt,hw];simp;omega) ((kk.trans k2).trans (x3.keep.trans k4)) hi4 a4 ?_
     rw[b4];simp only[cnt,hw];simp;omega
    rcases hor with rfl|rfl|rfl|rfl
    ·walk_at"ex"; exact step .and rfl hQ
    ·walk_at"ex"; exact step .or rfl hQ
    ·walk_at"ex"; exact step .bE rfl hQ
    ·walk_at"ex"; exact step .same rfl hQ
  by_cases h8:8<v
  ·simp only[h8,if_true]
   rw[dX b1]
   walk_at"ex"
   by_cases hl0:0<l
   ·simp only[hl0,if_true]
    walk_at"st"
    rw[dX b1]
    walk_at"ex"
    rw[aE b1]
    simp only[WD,bD,dg]
    have a2:(put aC b (.lst [.int (l-1)])) a=some (.lst [.int (i+1)]):=by rw[aH dY];exact a1
    have kp:bC [a,b] st (put aC b (.lst [.int (l-1)])):=kk.trans (bC.put (by simp))
    walk_at"st"
    rw[hn1]
    refine ih a2 aN (by omega) (by omega) fun s1 aG i2 o1 d1 cc1 k2 hi2 a3 b3=>?_
    walk_at"st"
    by_cases e12:v=12
    ·simp only[e12,beq_self_eq_true,if_true]
     walk_at"st"
     rw[hn1]
     refine ih a3 b3 hi2 (by omega) fun s2 cH i4 o2 d2 c2' k4 hi4 a4 b4=>?_
     refine hQ (.two .since s1 s2) cH i4 ⟨o1,o2⟩ (by simp only[aK];omega) (by simp [cnt,p2];omega) ((kp.trans k2).trans k4) hi4 a4 ?_
     rw[b4];simp [cnt,p2];omega
    ·have e12':(v==12)=false:=by rw[beq_eq_false_iff_ne];exact e12
     simp only[e12',ag,if_false,aF]
     walk_at"st"
     refine bI (by decide) fun p aV x3 hp hp3=>?_
     walk_at"ex"
     rw[dX hp3]
     have fin:∀ w:W1,p1 w=true->Q (.tup [.str (c1 w),toD s1]) aV:=fun w hw=>by
      refine hQ (.one w s1) aV i2 o1 (by simp only[aK];omega) (by simp [cnt,hw];omega) ((kp.trans k2).trans x3.keep) hi2 (x3 _ _ a3) ?_
      rw[x3 _ _ b3];simp [cnt,hw];omega
     obtain rfl|rfl|rfl:v=9∨v=10∨v=11:=by omega
     ·walk_at"ex"; exact fin .before rfl
     ·walk_at"ex"; exact fin .once rfl
     ·walk_at"ex"; exact fin .sofar rfl
   ·simp only[hl0,if_false,aF]
    exact plain hQ
  ·simp only[h8,if_false,aF]
   exact plain hQ
end
end L3
end
section
namespace L3
open PySem
noncomputable def oQ:List (List Nat):=[W "a", W "b", W "x", W "y", W "lamp", W "far", W "yesno", W "abcdefgh"]
noncomputable def uV (fs gs:List (List Nat)):Bool:=decide (1<=fs.length)&&decide (fs.length<=2)&&decide (1<=gs.length)&&decide (gs.length<=2)&&decide ((fs++gs).Nodup)&&(fs++gs).all fun n=>oQ.contains n
noncomputable def pQ (t:Int):List (List Nat):=cut oQ (some t) none++cut oQ none (some t)
theorem QV:∀(t:Fin 8)(f g:Fin 2),uV (cut (pQ (t.val:Nat)) none (some (1+(f.val:Nat)))) (cut (pQ (t.val:Nat)) (some (1+(f.val:Nat))) (some (1+(f.val:Nat)+(1+(g.val:Nat)))))=true:=by decide +kernel
theorem R9 {t f g:Int}(h0:0<=t)(h1:t<8)(h2:0<=f)(h3:f<2)(h4:0<=g)(h5:g<2):uV (cut (pQ t) none (some (1+f))) (cut (pQ t) (some (1+f)) (some (1+f+(1+g))))=true:=by
 have:=QV ⟨t.toNat,by omega⟩ ⟨f.toNat,by omega⟩ ⟨g.toNat,by omega⟩
 simp only[pj h0,pj h2,pj h4]at this
 exact this
theorem AQ {α β:Type}(f:α->β)(xs:List α)(lo hi:Option Int):cut (xs.map f) lo hi=(cut xs lo hi).map f:=by
 simp only[cut,aa,List.map_take,List.map_drop]
noncomputable def DA (dM:Nat):Fn:=⟨2,7,[.asg (.nm 2) (.lst [(.c (.str (W "a"))),(.c (.str (W "b"))),(.c (.str (W "x"))),(.c (.str (W "y"))),(.c (.str (W "lamp"))),(.c (.str (W "far"))),(.c (.str (W "yesno"))),(.c (.str (W "abcdefgh")))]),.asg (.nm 3) (.call dM [(.v 0),(.v 1),(.c (.int 8))]),.asg (.nm 4) (.bin .add (.sl (.v 2) [(.v 3)] []) (.sl (.v 2) [] [(.v 3)])),.asg (.nm 5) (.bin .add (.c (.int 1)) (.call dM [(.v 0),(.v 1),(.c (.int 2))])),.asg (.nm 6) (.bin .add (.c (.int 1)) (.call dM [(.v 0),(.v 1),(.c (.int 2))])),.ret (.tup [(.bi .tuple [(.sl (.v 4) [] [(.v 5)])]),(.bi .tuple [(.sl (.v 4) [(.v 5)] [(.bin .add (.v 5) (.v 6))])])])]⟩
section
variable {G:Prog}{k ic im dM is:Nat}{st:aB}{Q:VK}{E:XK}{ns:List Int}
theorem UT {inm:Nat}(hm':G.fns inm=some (DA dM))(hn:G.fns dM=some (sO im))(hm:G.fns im=some (nK ic))(hc:G.fns ic=some oR){a:Nat}{i:Int}(ha:st a=some (.lst [.int i]))(hi:0<=i)
  (hQ:∀ fs gs aA i',uV fs gs=true->bC [a] st aA->0<=i'->aA a=some (.lst [.int i'])->Q (.tup [.tup (fs.map .str),.tup (gs.map .str)]) aA):
  aO G (k+4) inm [.bP (ns.map .int),.ref a] st Q E:=by
 have hL:aZ=16777216:=rfl
 rw[aT hm']
 simp only[DA,start]
 refine⟨rfl,?_⟩
 walk_at"st"
 refine bI (by decide) fun p aC x1 hp hp1=>?_
 have pa:p≠a:=fun z=>by rw[z,ha]at hp;cases hp
 walk_at"st"
 refine fO hn hm hc (x1 a _ ha) hi (by omega) fun aG k2 a2=>?_
 have t0:=gW (ns:=ns) (k:=i+1) (many:=8) (by omega)
 have t1:=gY (ns:=ns) (k:=i+1) (many:=8) (by omega)
 generalize kW ns (i+1) 8=t at t0 t1
 have p2:=k2 p _ (by simpa using pa) hp1
 walk_at"st"
 rw[aE p2]
 intro q hq
 have x3:Ext aG (put aG q (.lst (cut [.str (W "a"),.str (W "b"),.str (W "x"),.str (W "y"),.str (W "lamp"),.str (W "far"),.str (W "yesno"),.str (W "abcdefgh")] (some t) none))):=Ext.new hq
 walk_at"ex"
 rw[aE (x3 p _ p2)]
 intro q' hq'
 have x4:=Ext.new (o:=.lst (cut [.str (W "a"),.str (W "b"),.str (W "x"),.str (W "y"),.str (W "lamp"),.str (W "far"),.str (W "yesno"),.str (W "abcdefgh")] none (some t))) hq'
 walk_at"ex"
 rw[aE (x4 q _ aN),aE aN]
 have eL:([.str (W "a"),.str (W "b"),.str (W "x"),.str (W "y"),.str (W "lamp"),.str (W "far"),.str (W "yesno"),.str (W "abcdefgh")]:List D)=oQ.map .str:=rfl
 have er:cut ([.str (W "a"),.str (W "b"),.str (W "x"),.str (W "y"),.str (W "lamp"),.str (W "far"),.str (W "yesno"),.str (W "abcdefgh")]:List D) (some t) none++cut [.str (W "a"),.str (W "b"),.str (W "x"),.str (W "y"),.str (W "lamp"),.str (W "far"),.str (W "yesno"),.str (W "abcdefgh")] none (some t)=(pQ t).map .str:=by
  rw[eL,AQ,AQ,<-cx];rfl
 have lr:(pQ t).length<=16:=by
  have l1:=A5 (xs:=oQ) (lo:=some t) (hi:=none)
  have l2:=A5 (xs:=oQ) (lo:=none) (hi:=some t)
  have l3:oQ.length=8:=rfl
  simp only[pQ,bh];omega
 rw[er]
 refine bI (by simp only[aa];omega) fun r cQ x5 hr hr5=>?_
 have k5:bC [a] st cQ:=((x1.keep.trans k2).trans x3.keep).trans (x4.keep.trans x5.keep)
 have a5:cQ a=some (.lst [.int (i+1)]):=x5 _ _ (x4 _ _ (x3 _ _ a2))
 have ra:r≠a:=fun z=>by rw[z,x4 _ _ (x3 _ _ a2)]at hr;cases hr
 walk_at"st"
 refine fO hn hm hc a5 (by omega) (by omega) fun fE k6 a6=>?_
 have f0:=gW (ns:=ns) (k:=i+1+1) (many:=2) (by omega)
 have f1:=gY (ns:=ns) (k:=i+1+1) (many:=2) (by omega)
 generalize kW ns (i+1+1) 2=f at f0 f1
 walk_at"ex"
 walk_at"st"
 refine fO hn hm hc a6 (by omega) (by omega) fun qJ k7 a7=>?_
 have g0:=gW (ns:=ns) (k:=i+1+1+1) (many:=2) (by omega)
 have g1:=gY (ns:=ns) (k:=i+1+1+1) (many:=2) (by omega)
 generalize kW ns (i+1+1+1) 2=g at g0 g1
 have r7:qJ r=some (.lst ((pQ t).map .str)):=k7 r _ (by simpa using ra) (k6 r _ (by simpa using ra) hr5)
 walk_at"ex"
 walk_at"st"
 rw[aE r7]
 intro u hu
 walk_at"ex"
 rw[aE aN]
 have xu:=Ext.new (o:=.lst (cut ((pQ t).map D.str) none (some (1+f)))) hu
 have c1:=A5 (xs:=(pQ t).map D.str) (lo:=none) (hi:=some (1+f))
 have c2:=A5 (xs:=(pQ t).map D.str) (lo:=some (1+f)) (hi:=some (1+f+(1+g)))
 simp only[aa]at c1 c2
 refine⟨by omega,?_⟩
 rw[aE (xu r _ r7)]
 intro u' hu'
 walk_at"ex"
 rw[aE aN]
 refine⟨by omega,?_⟩
 have xu':=Ext.new (o:=.lst (cut ((pQ t).map D.str) (some (1+f)) (some (1+f+(1+g))))) hu'
 rw[AQ,AQ]at *
 exact hQ _ _ _ (i+1+1+1) (R9 t0 t1 f0 f1 g0 g1) ((k5.trans (k6.trans k7)).trans (xu.keep.trans xu'.keep)) (by omega) (xu' _ _ (xu _ _ a7))
end
end L3
end
section
namespace L3
open PySem
mutual
theorem YM:∀ d:D,bH d=true->bK d d=true
 |.non,_=>rfl
 |.bl b,_=>by simp [bK]
 |.int i,_=>by simp [bK]
 |.str x,_=>by simp [bK]
 |.tup ds,h=>by simp only[bH]at h;simp only[bK];exact CS ds h
 |.ref _,h=>by simp [bH]at h
 |.dA _ _,h=>by simp [bH]at h
 |.bP _,h=>by simp [bH]at h
 |.exc _,h=>by simp [bH]at h
theorem CS:∀ ds:List D,bO ds=true->fM ds ds=true
 |[],_=>rfl
 |d::ds,h=>by
  simp only[bO,ay]at h
  simp only[fM,YM d h.1,CS ds h.2,df]
end
theorem ZS (w w':W1):(c1 w==c1 w')=decide (w=w'):=by cases w<;>cases w'<;>decide +kernel
theorem Cb (w w':W2):(c2 w==c2 w')=decide (w=w'):=by cases w<;>cases w'<;>decide +kernel
theorem FH (w:W1):(W "lamp" == c1 w)=false/\(c1 w==W "lamp")=false:=by cases w<;>decide +kernel
theorem cS {st:aB}{as bs:List D}:bT st (.tup as) (.tup bs)=jZ st as bs:=by simp only[bT]
theorem cC {st:aB}{a b:D}{as bs:List D}:jZ st (a::as) (b::bs)=(bT st a b&&jZ st as bs):=by simp only[jZ]
theorem rK {st:aB}:jZ st [] []=true:=rfl
theorem mT {st:aB}{b:D}{bs:List D}:jZ st [] (b::bs)=false:=rfl
theorem mV {st:aB}{b:D}{bs:List D}:jZ st (b::bs) []=false:=rfl
theorem P9:(W "yes" == W "no")=false/\(W "no" == W "yes")=false:=by decide +kernel
theorem qR {st:aB}:∀ s t:Sy,bT st (toD s) (toD t)=decide (s=t)
 |.yes,.yes=>by simp only[toD,cS,cC,iP,rK,beq_self_eq_true,df,decide_true]
 |.yes,.no=>by simp only[toD,cS,cC,iP,P9.1,fv];rfl
 |.yes,.cF _=>by simp only[toD,cS,cC,mT,bu];rfl
 |.yes,.one _ _=>by simp only[toD,cS,cC,mT,bu];rfl
 |.yes,.two _ _ _=>by simp only[toD,cS,cC,mT,bu];rfl
 |.no,.yes=>by simp only[toD,cS,cC,iP,P9.2,fv];rfl
 |.no,.no=>by simp only[toD,cS,cC,iP,rK,beq_self_eq_true,df,decide_true]
 |.no,.cF _=>by simp only[toD,cS,cC,mT,bu];rfl
 |.no,.one _ _=>by simp only[toD,cS,cC,mT,bu];rfl
 |.no,.two _ _ _=>by simp only[toD,cS,cC,mT,bu];rfl
 |.cF _,.yes=>by simp only[toD,cS,cC,mV,bu];rfl
 |.cF _,.no=>by simp only[toD,cS,cC,mV,bu];rfl
 |.cF m,.cF n=>by
  simp only[toD,cS,cC,rK,iP,beq_self_eq_true,xw,fe,Sy.cF.injEq]
  rw[Bool.beq_eq_decide_eq]
 |.cF m,.one w s=>by simp only[toD,cS,cC,iP,(FH w).1,fv];rfl
 |.cF _,.two _ _ _=>by simp only[toD,cS,cC,mT,bu];rfl
 |.one _ _,.yes=>by simp only[toD,cS,cC,mV,bu];rfl
 |.one _ _,.no=>by simp only[toD,cS,cC,mV,bu];rfl
 |.one w s,.cF m=>by simp only[toD,cS,cC,iP,(FH w).2,fv];rfl
 |.one w s,.one w' s'=>by
  simp only[toD,cS,cC,rK,iP,ZS,qR s s',xw,Sy.one.injEq]
  by_cases h:w=w'<;>by_cases h':s=s'<;>simp [h,h']
 |.one _ _,.two _ _ _=>by simp only[toD,cS,cC,mT,bu];rfl
 |.two _ _ _,.yes=>by simp only[toD,cS,cC,mV,bu];rfl
 |.two _ _ _,.no=>by simp only[toD,cS,cC,mV,bu];rfl
 |.two _ _ _,.cF _=>by simp only[toD,cS,cC,mV,bu];rfl
 |.two _ _ _,.one _ _=>by simp only[toD,cS,cC,mV,bu];rfl
 |.two w s t,.two w' s' t'=>by
  simp only[toD,cS,cC,rK,iP,Cb,qR s s',qR t t',xw,Sy.two.injEq]
  by_cases h:w=w'<;>by_cases h':s=s'<;>by_cases h'':t=t'<;>simp [h,h',h'']
theorem EZ {st:aB}(x:Sy)(f:List Sy):((f.map toD).any fun d=>bT st d (toD x))=f.contains x:=by
 induction f with
 |nil=>rfl
 |cons y r ih =>
 simp only[av,jk,ih,qR,l8]
 congr 1
 by_cases h:y=x
 ·simp [h]
 ·simp [h,cz h]
theorem GX (f:List Sy):bO (f.map toD)=true:=by
 induction f with
 |nil=>rfl
 |cons x r ih=>simp only[av,bO,mK,ih,df]
theorem J0 {n:Nat}(f:List Sy)(h:∀ s∈f,aK s<=n):cI (f.map toD)<=n:=by
 induction f with
 |nil=>exact cu _
 |cons x r ih =>
 simp only[av,cI,qQ]
 have:=h x (by simp)
 have:=ih fun s hs=>h s (by simp [hs])
 omega
theorem zA {st:aB}{s:Sy}(h:aK s<=60):plainS st (toD s):=⟨xB _ (mK s),bz (by rw[qQ];exact h) (by decide)⟩
theorem xI {st:aB}{f:List Sy}(h:∀ s∈f,aK s<=60):dW st (f.map toD):=⟨pL _ (GX f),bz (J0 f h) (by decide)⟩
noncomputable def wd:Sy->List Nat
 |.yes=>W "yes"
 |.no=>W "no"
 |.cF _=>W "lamp"
 |.one w _=>c1 w
 |.two w _ _=>c2 w
noncomputable def subs:Sy->List Sy
 |.one _ s=>[s]
 |.two _ s t=>[s,t]
 |_=>[]
noncomputable def bN:Sy->Bool
 |.one w _=>p1 w
 |.two w _ _=>p2 w
 |_=>false
noncomputable def fK:Sy->Bool
 |.cF _=>true
 |_=>false
theorem lF (s:Sy):∃ r,toD s=.tup (.str (wd s)::r):=by cases s<;>exact⟨_,rfl⟩
theorem S3 {s:Sy}(h:fK s=false):toD s=.tup (.str (wd s)::(subs s).map toD):=by cases s<;>first|rfl|cases h
noncomputable def lN:List (List Nat):=[W "before", W "once", W "sofar", W "since"]
theorem AK (s:Sy):lN.contains (wd s)=bN s:=by
 cases s with
 |one w s=>cases w<;>(simp only[wd,bN];decide +kernel)
 |two w s t=>cases w<;>(simp only[wd,bN];decide +kernel)
 |_=>(simp only[wd,bN];decide +kernel)
theorem FD (s:Sy):(wd s==W "lamp")=fK s:=by
 cases s with
 |one w s=>cases w<;>(simp only[wd,fK];decide +kernel)
 |two w s t=>cases w<;>(simp only[wd,fK];decide +kernel)
 |_=>(simp only[wd,fK];decide +kernel)
noncomputable def cY (f:List Sy)(s:Sy):List Sy:=if bN s && !f.contains s then f++[s]else f
noncomputable def aJ:Sy->List Sy->List Sy
 |.one w s,f=>aJ s (cY f (.one w s))
 |.two w s t,f=>aJ t (aJ s (cY f (.two w s t)))
 |_,f=>f
noncomputable def bX:List Sy->List Sy->List Sy
 |[],f=>f
 |s::r,f=>bX r (aJ s f)
theorem Fc (s:Sy)(f:List Sy):aJ s f=bX (subs s) (cY f s):=by
 cases s<;>simp [aJ,subs,bX,cY,bN]
theorem BD (a b:List Sy)(f:List Sy):bX (a++b) f=bX b (bX a f):=by
 induction a generalizing f with
 |nil=>rfl
 |cons x r ih=>simp only[cw,bX,ih]
theorem QL (s:Sy)(r f:List Sy):bX (s::r) f=bX (subs s++r) (cY f s):=by rw[BD,<-Fc];rfl
noncomputable def sz:Sy->Nat
 |.one _ s=>sz s+1
 |.two _ s t=>sz s+sz t+1
 |_=>1
noncomputable def eH (l:List Sy):Nat:=(l.map sz).sum
theorem HZ:∀ s:Sy,sz s+1<=2 ^ aK s
 |.yes=>by decide
 |.no=>by decide
 |.cF _=>by simp only[sz,aK];decide
 |.one w s=>by have:=HZ s;simp only[sz,aK,yx];omega
 |.two w s t=>by
  have h1:=HZ s
  have h2:=HZ t
  have a:=cy (n:=2) (by omega) (vn (aK s) (aK t))
  have b:=cy (n:=2) (by omega) (tx (aK s) (aK t))
  simp only[sz,aK,yx];omega
theorem M4 (s:Sy):eH (subs s)+1=sz s:=by cases s<;>simp [subs,eH,sz]
theorem CC {s t:Sy}(h:t∈subs s):aK t<aK s:=by cases s<;>simp [subs]at h<;>simp only[aK]<;>(try rcases h with rfl|rfl)<;>(try subst h)<;>omega
theorem qZ {f:List Sy}{s:Sy}{n:Nat}(h:∀ x∈f,aK x<=n)(hs:aK s<=n):∀ x∈cY f s,aK x<=n:=by
 unfold cY
 split
 ·intro x hx
  rcases List.mem_append.mp hx with hx|hx
  ·exact h x hx
  ·simp at hx;subst hx;exact hs
 ·exact h
theorem rP (f:List Sy)(s:Sy):(cY f s).length<=f.length+1:=by unfold cY;split<;>simp
theorem qO:∀(s:Sy){f:List Sy}{n:Nat},(∀ x∈f,aK x<=n)->aK s<=n->∀ x∈aJ s f,aK x<=n
 |.yes,_,_,h,_=>h
 |.no,_,_,h,_=>h
 |.cF _,_,_,h,_=>h
 |.one w s,f,n,h,hs=>qO s (qZ h hs) (by simp only[aK]at hs;omega)
 |.two w s t,f,n,h,hs=>qO t (qO s (qZ h hs) (by simp only[aK]at hs;omega)) (by simp only[aK]at hs;omega)
theorem uU:∀(s:Sy)(f:List Sy),(aJ s f).length<=f.length+sz s
 |.yes,f=>by simp [aJ,sz]
 |.no,f=>by simp [aJ,sz]
 |.cF _,f=>by simp [aJ,sz]
 |.one w s,f=>by have:=uU s (cY f (.one w s));have:=rP f (.one w s);simp only[aJ,sz];omega
 |.two w s t,f=>by
  have h1:=uU s (cY f (.two w s t))
  have h2:=uU t (aJ s (cY f (.two w s t)))
  have:=rP f (.two w s t)
  simp only[aJ,sz];omega
end L3
end
section
namespace L3
open PySem
noncomputable def kM (ip:Nat):Fn:=⟨2,3,[.iff (.and_ (.cmp .in_ (.ix (.v 0) (.c (.int 0))) (.tup [(.c (.str (W "before"))),(.c (.str (W "once"))),(.c (.str (W "sofar"))),(.c (.str (W "since")))])) (.cmp .fX (.v 0) (.v 1))) [.ex (.cB .append (.v 1) [(.v 0)])] [],.iff (.cmp .ne (.ix (.v 0) (.c (.int 0))) (.c (.str (W "lamp")))) [.gR (.nm 2) none [(.sl (.v 0) [(.c (.int 1))] [])] [.ex (.call ip [(.v 2),(.v 1)])]] [],.ret (.v 1)]⟩
noncomputable def iN:Fn:=⟨1,1,[.iff (.cmp .eq (.ix (.v 0) (.c (.int 0))) (.c (.str (W "lamp")))) [.ret (.tup [])] [],.ret (.sl (.v 0) [(.c (.int 1))] [])]⟩
noncomputable def xD:D:=.tup (lN.map .str)
noncomputable def lD (iw:Nat):Fn:=⟨1,4,[.asg (.nm 1) (.lst []),.asg (.nm 2) (.bit .list .rev [(.v 0)]),.whl (.v 2) [.asg (.nm 3) (.cB .pop (.v 2) []),.iff (.and_ (.cmp .in_ (.ix (.v 3) (.c (.int 0))) (.c xD)) (.cmp .fX (.v 3) (.v 1))) [.ex (.cB .append (.v 1) [(.v 3)])] [],.ex (.cB .extend (.v 2) [(.bit .list .rev [(.call iw [(.v 3)])])])],.ret (.v 1)]⟩
theorem AF {g:aB->Prop}{t:D->(St->aB->Prop)->St->aB->Prop}{N:St->aB->Prop}{x:D}{xs:List D}{σ:St}{st:aB}:rV g t N (x::xs) σ st=(g st/\t x (rV g t N xs) σ st):=rfl
theorem xK {g:aB->Prop}{t:D->(St->aB->Prop)->St->aB->Prop}{N:St->aB->Prop}{σ:St}{st:aB}:rV g t N [] σ st=(g st/\N σ st):=rfl
section
variable {G:Prog}{k ip iw:Nat}{st:aB}{Q:VK}{E:XK}
theorem Q2 (hp:G.fns ip=some (kM ip)){b:Nat}:∀(s:Sy)(n:Nat){st:aB}{Q:VK}{E:XK}{f:List Sy},aK s<=n->aK s<=60->(∀ x∈f,aK x<=60)->f.length+sz s<aZ->st b=some (.lst (f.map toD)) ->
  (∀ aA,bC [b] st aA->aA b=some (.lst ((aJ s f).map toD))->Q (.ref b) aA)->aO G (k+n) ip [toD s,.ref b] st Q E:=by
 intro s
 have head:∀{s:Sy}{K:Nat}{st:aB}{f:List Sy}{P:gO}{rest:List Sx},aK s<=60->(∀ x∈f,aK x<=60)->f.length<aZ->st b=some (.lst (f.map toD)) ->
   (∀ aA,bC [b] st aA->aA b=some (.lst ((cY f s).map toD))->cR (aO G K) G.sub rest P [some (toD s),some (.ref b),none] aA) ->
   cR (aO G K) G.sub ((.iff (.and_ (.cmp .in_ (.ix (.v 0) (.c (.int 0))) (.tup [(.c (.str (W "before"))),(.c (.str (W "once"))),(.c (.str (W "sofar"))),(.c (.str (W "since")))])) (.cmp .fX (.v 0) (.v 1))) [.ex (.cB .append (.v 1) [(.v 0)])] [])::rest) P [some (toD s),some (.ref b),none] st:=by
  intro s K st f P rest hs hf hlen hb hN
  obtain⟨r,er⟩:=lF s
  walk_at"st"
  rw[er]
  walk_at"ex"
  rw[<-er]
  refine⟨(lS lN).s,?_⟩
  have e1:(Qy [D.str (W "before"),D.str (W "once"),D.str (W "sofar"),D.str (W "since")] fun d=>bT st d (.str (wd s)))=bN s:=(rT (wd s) lN).trans (AK s)
  rw[e1]
  cases hp:bN s with
  |false =>
   simp only[ag,if_false,aF]
   refine hN st .refl ?_
   simp only[cY,hp,fv,ag,if_false]
   exact hb
  |true =>
   simp only[if_true]
   rw[tY,cN hb,EZ]
   refine⟨zA hs,xI hf,?_⟩
   cases hc:f.contains s with
   |true =>
    simp only[d7,ag,if_false,aF]
    refine hN st .refl ?_
    simp only[cY,hp,hc,d7,bu,ag,if_false]
    exact hb
   |false =>
    simp only[d5,if_true]
    walk_at"st"
    rw[aE hb]
    refine⟨trivial,?_⟩
    rw[aE hb]
    refine⟨by simpa using hlen,?_⟩
    rw[aF]
    refine hN _ (bC.put (by simp)) ?_
    rw[aN]
    simp only[cY,hp,hc,d5,df,if_true,cx,av,e9]
 induction s with
 |yes =>
  intro n st Q E f hn hd hf hl hb hQ
  obtain⟨n,rfl⟩:∃ m,n=m+1:=⟨n-1,by simp only[aK]at hn;omega⟩
  rw[show k+(n+1)=(k+n)+1 from rfl,aT hp]
  simp only[kM,start]
  refine⟨rfl,head (s:=.yes) hd hf (by simp only[sz]at hl;omega) hb fun aC k1 b1=>?_⟩
  walk_at"st"
  simp only[toD]
  walk_at"ex"
  rw[show(W "yes" == W "lamp")=false from by decide +kernel]
  simp only[d5,if_true]
  walk_at"st"
  rw[xK]
  refine⟨jU,?_⟩
  rw[aF]
  walk_at"st"
  exact hQ aC k1 b1
 |no =>
  intro n st Q E f hn hd hf hl hb hQ
  obtain⟨n,rfl⟩:∃ m,n=m+1:=⟨n-1,by simp only[aK]at hn;omega⟩
  rw[show k+(n+1)=(k+n)+1 from rfl,aT hp]
  simp only[kM,start]
  refine⟨rfl,head (s:=.no) hd hf (by simp only[sz]at hl;omega) hb fun aC k1 b1=>?_⟩
  walk_at"st"
  simp only[toD]
  walk_at"ex"
  rw[show(W "no" == W "lamp")=false from by decide +kernel]
  simp only[d5,if_true]
  walk_at"st"
  rw[xK]
  refine⟨jU,?_⟩
  rw[aF]
  walk_at"st"
  exact hQ aC k1 b1
 |cF m =>
  intro n st Q E f hn hd hf hl hb hQ
  obtain⟨n,rfl⟩:∃ m,n=m+1:=⟨n-1,by simp only[aK]at hn;omega⟩
  rw[show k+(n+1)=(k+n)+1 from rfl,aT hp]
  simp only[kM,start]
  refine⟨rfl,head (s:=.cF m) hd hf (by simp only[sz]at hl;omega) hb fun aC k1 b1=>?_⟩
  walk_at"st"
  simp only[toD]
  walk_at"ex"
  simp only[beq_self_eq_true,d7,ag,if_false,aF]
  walk_at"st"
  exact hQ aC k1 b1
 |one w s ih =>
  intro n st Q E f hn hd hf hl hb hQ
  obtain⟨n,rfl⟩:∃ m,n=m+1:=⟨n-1,by simp only[aK]at hn;omega⟩
  rw[show k+(n+1)=(k+n)+1 from rfl,aT hp]
  simp only[kM,start]
  refine⟨rfl,head (s:=.one w s) hd hf (by simp only[sz]at hl;omega) hb fun aC k1 b1=>?_⟩
  have hf1:=qZ hf hd
  have hl1:=rP f (.one w s)
  simp only[aK]at hn hd
  simp only[sz]at hl
  walk_at"st"
  simp only[toD]
  walk_at"ex"
  rw[(FH w).2]
  simp only[d5,if_true]
  walk_at"st"
  rw[AF]
  refine⟨jU,?_⟩
  walk_at"st"
  refine ih n (by omega) (by omega) hf1 (by omega) b1 fun aG k2 b2=>?_
  try dsimp only
  rw[aF]
  dsimp only
  rw[xK]
  refine⟨jU,?_⟩
  rw[aF]
  walk_at"st"
  exact hQ aG (k1.trans k2) b2
 |two w s t ih1 ih2 =>
  intro n st Q E f hn hd hf hl hb hQ
  obtain⟨n,rfl⟩:∃ m,n=m+1:=⟨n-1,by simp only[aK]at hn;omega⟩
  rw[show k+(n+1)=(k+n)+1 from rfl,aT hp]
  simp only[kM,start]
  refine⟨rfl,head (s:=.two w s t) hd hf (by simp only[sz]at hl;omega) hb fun aC k1 b1=>?_⟩
  have hf1:=qZ hf hd
  have hl1:=rP f (.two w s t)
  simp only[aK]at hn hd
  simp only[sz]at hl
  have hf2:=qO s hf1 (by omega)
  have hl2:=uU s (cY f (.two w s t))
  walk_at"st"
  simp only[toD]
  walk_at"ex"
  rw[show(c2 w==W "lamp")=false from by cases w<;>decide +kernel]
  simp only[d5,if_true]
  walk_at"st"
  rw[AF]
  refine⟨jU,?_⟩
  walk_at"st"
  refine ih1 n (by omega) (by omega) hf1 (by omega) b1 fun aG k2 b2=>?_
  try dsimp only
  rw[aF]
  dsimp only
  rw[AF]
  refine⟨jU,?_⟩
  walk_at"st"
  refine ih2 n (by omega) (by omega) hf2 (by omega) b2 fun aV k3 b3=>?_
  try dsimp only
  rw[aF]
  dsimp only
  rw[xK]
  refine⟨jU,?_⟩
  rw[aF]
  walk_at"st"
  exact hQ aV (k1.trans (k2.trans k3)) b3
theorem sN (hw:G.fns iw=some iN){s:Sy}(hQ:Q (.tup ((subs s).map toD)) st):aO G (k+1) iw [toD s] st Q E:=by
 rw[aT hw]
 simp only[iN,start]
 refine⟨rfl,?_⟩
 obtain⟨r,er⟩:=lF s
 walk_at"st"
 rw[er]
 walk_at"ex"
 rw[FD,<-er]
 cases h:fK s with
 |true =>
 simp only[if_true]
 walk_at"st"
 cases s<;>first|exact hQ|cases h
 |false =>
 simp only[ag,if_false,aF]
 walk_at"st"
 rw[S3 h]
 walk_at"ex"
 exact hQ
end
end L3
end
section
namespace L3
open PySem
theorem xF {C:bL}{sub:Nat->Nat->Bool}(hC:bY C C){c:Ex}{b:List Sx}{P:gO}(I:Nat->St->aB->Prop)
  (step:∀ m σ st,I m σ st->aI C sub (fun c aA=>P.ex c σ aA) c σ st fun d aA=>eF d aA fun k =>
   if k=true then cR C sub b { P with nx:=fun σ st=>∃ m',m'<m/\I m' σ st,ct:=fun σ st=>∃ m',m'<m/\I m' σ st,bk:=P.nx } σ aA else P.nx σ aA){m:Nat}{σ:St}{st:aB}(h:I m σ st):wpS C sub (.whl c b) P σ st:=by
 refine⟨m+1,?_⟩
 have key:∀(n m:Nat)(σ:St)(st:aB),m<n->I m σ st->pF (fun next σ st=>aI C sub (fun c aA=>P.ex c σ aA) c σ st fun d aA=>eF d aA fun k =>
   if k=true then cR C sub b { P with nx:=next,ct:=next,bk:=P.nx } σ aA else P.nx σ aA) n σ st:=by
  intro n
  induction n with
  |zero=>intro m σ st h;omega
  |succ n ih =>
   intro m σ st hm hI
   refine aW hC (fun _ _ z=>z) c (fun d aA=>jM fun k=>?_) (step m σ st hI)
   split
   ·exact iS hC b ⟨fun σ st ⟨m',h1,h2⟩=>ih m' σ st (by omega) h2,fun _ _ z=>z,fun _ _ z=>z,fun σ st ⟨m',h1,h2⟩=>ih m' σ st (by omega) h2,fun _ _ _ z=>z⟩
   ·exact id
 exact key (m+1) m σ st (by omega) h
section
variable {G:Prog}{k ip iw iz:Nat}{st:aB}{Q:VK}{E:XK}
theorem iB (s:Sy)(r:List Sy):eH (s::r)=sz s+eH r:=by simp [eH]
theorem iU (a b:List Sy):eH (a++b)=eH a+eH b:=by simp [eH]
theorem QF (s:Sy):0<sz s:=by cases s<;>simp [sz]
theorem FK (r:List Sy):r.length<=eH r:=by
 induction r with
 |nil=>simp
 |cons s r ih=>have:=QF s;simp only[iB,be];omega
theorem yV (hz:G.fns iz=some (lD iw))(hw:G.fns iw=some iN){l:Nat}{ss:List Sy}(hl:st l=some (.lst (ss.map toD)))(hd:∀ x∈ss,aK x<=60)(hs:eH ss<aZ)
  (hQ:∀ p aA,Ext st aA->aA p=some (.lst ((bX ss []).map toD))->Q (.ref p) aA):aO G (k+2) iz [.ref l] st Q E:=by
 rw[aT hz]
 simp only[lD,start]
 refine⟨rfl,?_⟩
 walk_at"st"
 refine bI (by decide) fun p aC x1 hp hp1=>?_
 walk_at"st"
 rw[aE (x1 l _ hl)]
 refine bI (by have:=FK ss;simp only[pk,aa];omega) fun q aG x2 hq hq2=>?_
 have hpq:p≠q:=fun z=>by rw[z]at hp1;rw[hq]at hp1;cases hp1
 have p2:=x2 p _ hp1
 try dsimp only
 refine fJ ?_
 refine xF (pG G (bb _)) (fun m σ aA=>∃(stack f:List Sy)(o:Option D),σ=[some (.ref l),some (.ref p),some (.ref q),o]/\aA p=some (.lst (f.map toD))/\aA q=some (.lst (stack.map toD).reverse)/\eH stack=m /\
  (∀ x∈stack,aK x<=60)/\(∀ x∈f,aK x<=60)/\f.length+eH stack<aZ/\bX stack f=bX ss []/\Ext st aA) ?_ (m:=eH ss) ⟨ss,[],none,rfl,p2,hq2,rfl,hd,by simp,by simpa using hs,rfl,fun a o e=>x2 a o (x1 a o e)⟩
 rintro m σ aV ⟨stack,f,o,rfl,hp3,hq3,hm,hds,hdf,hlen,kK,x3⟩
 walk_at"ex"
 rw[YC,cN hq3]
 cases stack with
 |nil =>
  simp only[e9,List.reverse_nil,n4,d7,ag,if_false]
  walk_at"st"
  refine hQ p aV x3 ?_
  rw[<-kK];exact hp3
 |cons s r =>
  have hne:(!((oq toD (s::r)).reverse).isEmpty)=true:=by simp
  rw[hne]
  simp only[if_true]
  have hds':=hds s (by simp)
  rw[iB]at hm hlen
  have hsp:=QF s
  have hss:=M4 s
  walk_at"st"
  rw[aE hq3]
  refine⟨trivial,?_⟩
  rw[aE hq3]
  have elast:((oq toD (s::r)).reverse)[((oq toD (s::r)).reverse).length-1]? = some (toD s):=by
   simp only[av,kn,bh,be,ba]
   rw[di (by simp)]
   simp
  have edrop:((oq toD (s::r)).reverse).dropLast=(r.map toD).reverse:=by simp
  rw[elast,edrop,bD]
  try dsimp only
  have hp4:(put aV q (.lst (r.map toD).reverse)) p=some (.lst (f.map toD)):=by rw[aH hpq];exact hp3
  have hx4:Ext st (put aV q (.lst (r.map toD).reverse)):=fun a u e=>by
   by_cases ha:a=q
   ·exfalso
    rw[ha]at e
    rw[x1 q _ e]at hq;cases hq
   ·rw[aH ha];exact x3 a u e
  have head:∀{P:gO}{cH:aB}{rest:List Sx},cH p=some (.lst (f.map toD)) ->
    (∀ aA,bC [p] cH aA->aA p=some (.lst ((cY f s).map toD))->cR (aO G (k+1)) G.sub rest P [some (.ref l),some (.ref p),some (.ref q),some (toD s)] aA) ->
    cR (aO G (k+1)) G.sub ((.iff (.and_ (.cmp .in_ (.ix (.v 3) (.c (.int 0))) (.c xD)) (.cmp .fX (.v 3) (.v 1))) [.ex (.cB .append (.v 1) [(.v 3)])] [])::rest) P [some (.ref l),some (.ref p),some (.ref q),some (toD s)] cH:=by
   intro P cH rest hb hN
   obtain⟨rr,er⟩:=lF s
   walk_at"st"
   rw[er]
   simp only[xD]
   walk_at"ex"
   rw[<-er]
   refine⟨(lS lN).s,?_⟩
   have e1:(Qy (lN.map .str) fun d=>bT cH d (.str (wd s)))=bN s:=(rT (wd s) lN).trans (AK s)
   rw[e1]
   cases hpp:bN s with
   |false =>
    simp only[ag,if_false,aF]
    refine hN cH .refl ?_
    simp only[cY,hpp,fv,ag,if_false]
    exact hb
   |true =>
    simp only[if_true]
    rw[tY,cN hb,EZ]
    refine⟨zA hds',xI hdf,?_⟩
    cases hc:f.contains s with
    |true =>
     simp only[d7,ag,if_false,aF]
     refine hN cH .refl ?_
     simp only[cY,hpp,hc,d7,bu,ag,if_false]
     exact hb
    |false =>
     simp only[d5,if_true]
     walk_at"st"
     rw[aE hb]
     refine⟨trivial,?_⟩
     rw[aE hb]
     refine⟨by simp only[aa];omega,?_⟩
     rw[aF]
     refine hN _ (bC.put (by simp)) ?_
     rw[aN]
     simp only[cY,hpp,hc,d5,df,if_true,cx,av,e9]
  refine head hp4 fun cQ k5 hp5=>?_
  have hq5:cQ q=some (.lst (r.map toD).reverse):=k5 q _ (by simpa using cz hpq) aN
  have hx5:Ext st cQ:=fun a u e=>by
   by_cases ha:a=p
   ·exfalso
    rw[ha]at e;rw[hp]at e;cases e
   ·exact k5 a u (by simpa using ha) (hx4 a u e)
  walk_at"st"
  rw[aE hq5]
  refine⟨trivial,sN hw ?_⟩
  walk_at"ex"
  have hsl:=FK (subs s)
  have hrl:=FK r
  refine bI (by simp only[pk,aa];omega) fun u fE x6 hu hu6=>?_
  walk_at"ex"
  rw[aE (x6 q _ hq5),aE hu6]
  refine⟨by simp only[pk,aa];omega,?_⟩
  rw[aF]
  dsimp only
  refine⟨eH (subs s++r),by rw[iU];omega,subs s++r,cY f s,_,rfl,?_,?_,rfl,fun x hx=>?_,qZ hdf hds',?_,?_,fun a v e=>?_⟩
  ·rw[aH hpq];exact x6 p _ hp5
  ·rw[aN];simp
  ·rcases List.mem_append.mp hx with hx|hx
   ·have:=CC hx;omega
   ·exact hds x (by simp [hx])
  ·have:=rP f s;rw[iU];omega
  ·rw[<-QL];exact kK
  ·by_cases ha:a=q
   ·exfalso
    rw[ha]at e
    rw[x1 q _ e]at hq;cases hq
   ·rw[aH ha];exact x6 a v (hx5 a v e)
end
end L3
end
section
namespace L3
open PySem
noncomputable def fS:List (List Nat):=[W "yes", W "no", W "not", W "and", W "or", W "then", W "same", W "before", W "once", W "sofar", W "since", W "foe", W "friend", W "promise", W "must", W "wish"]
noncomputable def eV:List Nat:=W "abcdefghijklmnopqrstuvwxyz"
noncomputable def jI (nn lt lg:D):Fn:=⟨1,1,[.iff (.or_ (.not_ (.isi (.v 0) [.str])) (.cmp .in_ (.v 0) (.c nn))) [.ret (.c (.bl false))] [],.ret (.and_ (.chain .le .le (.c (.int 1)) (.bi .len [(.v 0)]) (.c lg)) (.bi .all [(.comp 1 [] [0] true none [(.v 0)] [] (.cmp .in_ (.v 0) (.c lt)))]))]⟩
noncomputable def fI (w:List Nat):Bool:=!(fS.any (·== w))&&decide (1<=w.length)&&decide (w.length<=8)&&w.all fun c=>occurs [c] eV
section
variable {G:Prog}{k i:Nat}{st:aB}{Q:VK}{E:XK}
theorem YL (st:aB)(w:List Nat):((fS.map D.str).any fun d=>bT st d (.str w))=fS.any (·== w):=by
 rw[kg];rfl
theorem P8 (st:aB):dW st (fS.map D.str):=⟨rfl,by decide⟩
noncomputable def US:D->Bool
 |.str x=>occurs x eV
 |_=>false
theorem GQ:∀(w:List Nat),boolsOf ((w.map fun c=>D.str [c]).map fun d=>.bl (US d))=some (w.map fun c=>occurs [c] eV)
 |[]=>rfl
 |c::r=>by
  show(boolsOf ((r.map fun c=>D.str [c]).map fun d=>.bl (US d))).map (_ :: ·)=_
  rw[GQ r];rfl
set_option tactic.hygienic true in
theorem C7 (h:G.fns i=some (jI (.tup (fS.map .str)) (.str eV) (.int 8))){w:List Nat}(hw:w.length<=aZ)(hQ:∀ aA,Ext st aA->Q (.bl (fI w)) aA):aO G (k+1) i [.str w] st Q E:=by
 have hL:aZ=16777216:=rfl
 rw[aT h]
 simp only[jI,start]
 refine⟨rfl,?_⟩
 walk_at"st"
 refine⟨P8 st,?_⟩
 rw[YL]
 cases c1:fS.any (·== w)with
 |true =>
  simp only[if_true]
  walk_at"st"
  have e:fI w=false:=by simp [fI,c1]
  rw[<-e];exact hQ _ (fun _ _ z=>z)
 |false =>
  simp only[ag,if_false]
  rw[aF]
  walk_at"st"
  refine⟨hw,?_⟩
  split
  ·rename_i g1
   split
   ·rename_i g2
    refine⟨hw,?_⟩
    refine comp_map (fun d=>.bl (US d)) _ [] st (fun aA x a ha=>by cases ha) ?_ (by simp only[aa,ba];omega) fun aA x=>?_
    ·intro x hx aA K x1 hK
     obtain⟨c,hc,rfl⟩:=List.mem_map.mp hx
     exact hK aA .refl
    ·rw[az]
     refine bI (by simp only[aa];omega) fun p aG x2 hp gU=>?_
     simp only[eE]
     rw[aE gU,GQ]
     have e:fI w=(w.map fun c=>occurs [c] eV).all id:=by
      simp only[fI,c1,p8]
      have h1:decide (1<=w.length)=true:=decide_eq_true (by omega)
      have h2:decide (w.length<=8)=true:=decide_eq_true (by omega)
      rw[h1,h2]
      rfl
     show Q _ _
     rw[<-e]
     exact hQ _ (x.trans x2)
   ·rename_i g2
    have e:fI w=decide ((w.length:Int)<=8):=by
     have h2:decide (w.length<=8)=false:=decide_eq_false (by omega)
     have h3:decide ((w.length:Int)<=8)=false:=decide_eq_false g2
     simp only[fI,h2,h3,bu,fv]
    rw[<-e];exact hQ _ .refl
  ·rename_i g1
   have e:fI w=false:=by
    have h1:decide (1<=w.length)=false:=decide_eq_false (by omega)
    simp only[fI,h1,bu,fv]
   rw[<-e];exact hQ _ .refl
end
end L3
end
section
namespace L3
open PySem
noncomputable def nB (iI fG:Nat)(sw:D):Fn:=⟨3,3,[.iff (.or_ (.cmp .lt (.v 2) (.c (.int 1))) (.or_ (.not_ (.isi (.v 1) [.tuple])) (.or_ (.cmp .lt (.bi .len [(.v 1)]) (.c (.int 1))) (.not_ (.isi (.ix (.v 1) (.c (.int 0))) [.str]))))) [.ret (.c (.bl false))] [],.iff (.cmp .eq (.ix (.v 1) (.c (.int 0))) (.c (.str (W "lamp")))) [.ret (.and_ (.cmp .eq (.bi .len [(.v 1)]) (.c (.int 2))) (.and_ (.call iI [(.ix (.v 1) (.c (.int 1)))]) (.cmp .in_ (.ix (.v 1) (.c (.int 1))) (.v 0))))] [],.iff (.or_ (.cmp .fX (.ix (.v 1) (.c (.int 0))) (.c sw)) (.cmp .ne (.bi .len [(.v 1)]) (.bin .add (.c (.int 1)) (.ix (.c sw) (.ix (.v 1) (.c (.int 0))))))) [.ret (.c (.bl false))] [],.ret (.bi .all [(.comp 1 [0,2] [0] true none [(.sl (.v 1) [(.c (.int 1))] [])] [] (.call fG [(.v 1),(.v 0),(.bin .sub (.v 2) (.c (.int 1)))]))])]⟩
section
variable {G:Prog}{k iI fG:Nat}{Q:VK}{E:XK}
noncomputable def zD:List D:=[(.str (W "yes")),(.str (W "no")),(.str (W "not")),(.str (W "before")),(.str (W "once")),(.str (W "sofar")),(.str (W "and")),(.str (W "or")),(.str (W "then")),(.str (W "same")),(.str (W "since"))]
noncomputable def BG:List D:=[(.int 0),(.int 0),(.int 1),(.int 1),(.int 1),(.int 1),(.int 2),(.int 2),(.int 2),(.int 2),(.int 2)]
theorem nR {α:Type}:∀(ps:List α),boolsOf (ps.map fun _=>.bl true)=some (ps.map fun _=>true)
 |[]=>rfl
 |_::r=>by
  show(boolsOf (r.map fun _=>.bl true)).map (true :: ·)=_
  rw[nR r];rfl
theorem wA (h:G.fns fG=some (nB iI fG (.dA zD BG))){nm:D}{w:List Nat}{ps:List D}{st:aB}{d:Int}(hd:1<=d)(hl:¬(w==W "lamp")=true)(hin:(zD.any fun x=>bK x (.str w))=true)(har:vW zD BG (.str w)=some (.int ps.length))(hps:ps.length<=2)
  (hp:∀ x∈ps,∀(aA:aB)(Q':VK)(E':XK),Ext st aA->(∀ aX,Ext aA aX->Q' (.bl true) aX)->aO G k fG [nm,x,.int (d-1)] aA Q' E')(hQ:∀ aA,Ext st aA->Q (.bl true) aA):aO G (k+1) fG [nm,.tup (.str w::ps),.int d] st Q E:=by
 have hL:aZ=16777216:=rfl
 rw[aT h]
 simp only[nB,start]
 refine⟨rfl,?_⟩
 walk_at"st"
 have n1:¬d<1:=by omega
 simp only[if_neg n1]
 have n2:¬((ps.length+1:Nat):Int)<1:=by omega
 simp only[be,if_neg n2]
 walk_at"ex"
 rw[aF]
 walk_at"st"
 rw[if_neg hl]
 rw[aF]
 walk_at"st"
 rw[hin]
 simp only[d7,ag,if_false]
 rw[har]
 show plainS st (.int (1+(ps.length:Int)))/\_
 refine⟨⟨rfl,cu _⟩,?_⟩
 have n3:¬(!bT st (.int ((ps.length+1:Nat):Int)) (.int (1+(ps.length:Int))))=true:=by
  have e:(((ps.length+1:Nat):Int)==1+(ps.length:Int))=true:=beq_iff_eq.mpr (by omega)
  simp only[bT,e,d7,ag,not_false_iff]
 rw[if_neg n3,aF]
 walk_at"st"
 refine comp_map (fun _=>.bl true) ps [] st (fun aA x a ha=>by cases ha) (fun x hx aA K x1 hK=>hp x hx aA _ _ x1 fun aX x2=>hK aX x2) (by simp only[ba];omega) fun aA x1=>?_
 rw[az]
 refine bI (by simp only[aa];omega) fun p aG x2 hp' gU=>?_
 simp only[eE]
 rw[aE gU,nR]
 show Q (.bl (((ps.map fun _=>true).all id))) _
 have e:(ps.map fun _=>true).all id=true:=by simp
 rw[e]
 exact hQ _ (x1.trans x2)
theorem GK {n:List Nat}(h:fI n=true):n.length<=8:=by
 simp only[fI,ay,decide_eq_true_eq]at h
 exact h.1.2
theorem kN (st:aB):∀(names:List (List Nat)),dW st (names.map D.str)
 |[]=>⟨rfl,cu _⟩
 |n::r=>⟨by simp only[av,hU,fH,fe];exact(kN st r).1,by simp only[av,cI,cL];have:=(kN st r).2;omega⟩
theorem SA (st:aB)(names:List (List Nat))(n:List Nat)(h:n∈names):((names.map D.str).any fun d=>bT st d (.str n))=true:=by
 rw[kg]
 exact List.any_eq_true.mpr ⟨n,h,by show(n==n)=true;simp⟩
theorem SM (h:G.fns fG=some (nB iI fG (.dA zD BG)))(hn:G.fns iI=some (jI (.tup (fS.map .str)) (.str eV) (.int 8))){names:List (List Nat)}(iH:∀ n∈names,fI n=true){n:List Nat}(ho:n∈names){st:aB}{d:Int}(hd:1<=d)
 (hQ:∀ aA,Ext st aA->Q (.bl true) aA):aO G (k+1+1) fG [.tup (names.map .str),.tup [.str (W "lamp"),.str n],.int d] st Q E:=by
 have hL:aZ=16777216:=rfl
 rw[aT h]
 simp only[nB,start]
 refine⟨rfl,?_⟩
 walk_at"st"
 have n1:¬d<1:=by omega
 simp only[if_neg n1]
 walk_at"ex"
 have n2:¬((0+1+1:Nat):Int)<1:=by decide
 simp only[if_neg n2]
 walk_at"ex"
 rw[aF]
 walk_at"st"
 have n3:(W "lamp" == W "lamp")=true:=by simp
 simp only[n3,if_true]
 walk_at"st"
 rw[if_pos (by decide)]
 refine C7 (w:=n) hn (by have:=GK (iH n ho);omega) fun aA x1=>?_
 rw[iH n ho]
 show dW aA (names.map .str)/\Q (.bl ((names.map D.str).any fun d=>bT aA d (.str n))) aA
 refine⟨kN aA names,?_⟩
 rw[SA aA names n ho]
 exact hQ _ x1
theorem AU (h:G.fns fG=some (nB iI fG (.dA zD BG)))(hn:G.fns iI=some (jI (.tup (fS.map .str)) (.str eV) (.int 8))){names:List (List Nat)}(iH:∀ n∈names,fI n=true):
  ∀(s:Sy){k:Nat}{st:aB}{Q:VK}{E:XK}{d:Int},over names s->(aK s:Int)<=d->(∀ aA,Ext st aA->Q (.bl true) aA)->aO G (k+aK s+1) fG [.tup (names.map .str),toD s,.int d] st Q E
 |.yes,k,st,Q,E,d,ho,hd,hQ=>by
  simp only[aK]at hd
  exact wA h (by omega) (by decide) (by decide) rfl (by decide) (fun x hx=>by cases hx) hQ
 |.no,k,st,Q,E,d,ho,hd,hQ=>by
  simp only[aK]at hd
  exact wA h (by omega) (by decide) (by decide) rfl (by decide) (fun x hx=>by cases hx) hQ
 |.cF n,k,st,Q,E,d,ho,hd,hQ=>by
  simp only[aK]at hd ⊢
  exact SM h hn iH ho (by omega) hQ
 |.one w s,k,st,Q,E,d,ho,hd,hQ=>by
  simp only[aK]at hd ⊢
  refine wA (ps:=[toD s]) h (by omega) (by cases w<;>decide) (by cases w<;>decide) (by cases w<;>rfl) (by simp) (fun x hx aA Q' E' x1 hQ'=>?_) hQ
  simp only[ah]at hx
  subst hx
  have:=AU h hn iH s (k:=k) (st:=aA) (Q:=Q') (E:=E') (d:=d-1) ho (by omega) hQ'
  exact this
 |.two w s t,k,st,Q,E,d,ho,hd,hQ=>by
  simp only[aK]at hd ⊢
  refine wA (ps:=[toD s,toD t]) h (by omega) (by cases w<;>decide) (by cases w<;>decide) (by cases w<;>rfl) (by simp) (fun x hx aA Q' E' x1 hQ'=>?_) hQ
  have l1:=vn (aK s) (aK t)
  have l2:=tx (aK s) (aK t)
  simp only[b9,bp,or_false]at hx
  rcases hx with rfl|rfl
  ·have:=AU h hn iH s (k:=k+(max (aK s) (aK t)-aK s)) (st:=aA) (Q:=Q') (E:=E') (d:=d-1) ho.1 (by omega) hQ'
   have e:k+(max (aK s) (aK t)-aK s)+aK s+1=k+(max (aK s) (aK t)+1):=by omega
   rw[e]at this;exact this
  ·have:=AU h hn iH t (k:=k+(max (aK s) (aK t)-aK t)) (st:=aA) (Q:=Q') (E:=E') (d:=d-1) ho.2 (by omega) hQ'
   have e:k+(max (aK s) (aK t)-aK t)+aK t+1=k+(max (aK s) (aK t)+1):=by omega
   rw[e]at this;exact this
end
end L3
end
section
namespace L3
open PySem
noncomputable def lT:Fn:=⟨3,3,[.ret (.and_ (.isi (.v 0) [.tuple]) (.chain .le .le (.v 1) (.bi .len [(.v 0)]) (.v 2)))]⟩
noncomputable def K4 (ir iI:Nat)(ml:D):Fn:=⟨2,3,[.iff (.or_ (.not_ (.call ir [(.v 0),(.c (.int 1)),(.c ml)])) (.not_ (.call ir [(.v 1),(.c (.int 1)),(.c ml)]))) [.ret (.c (.bl false))] [],.asg (.nm 2) (.bin .add (.v 0) (.v 1)),.ret (.and_ (.bi .all [(.comp 1 [] [0] true none [(.v 2)] [] (.call iI [(.v 0)]))]) (.cmp .eq (.bi .sH [(.v 2)]) (.bi .len [(.v 2)])))]⟩
section
variable {G:Prog}{k ir iI il:Nat}{st:aB}{Q:VK}{E:XK}
theorem mN (h:G.fns ir=some lT){ds:List D}{lo hi:Int}(hQ:Q (.bl (decide (lo<=(ds.length:Int))&&decide ((ds.length:Int)<=hi))) st):aO G (k+1) ir [.tup ds,.int lo,.int hi] st Q E:=by
 rw[aT h]
 simp only[lT,start]
 refine⟨rfl,?_⟩
 walk_at"st"
 by_cases c:lo<=(ds.length:Int)
 ·rw[if_pos c]
  rw[decide_eq_true c,fe]at hQ
  exact hQ
 ·rw[if_neg c]
  rw[decide_eq_false c,fv]at hQ
  exact hQ
theorem HK:∀(ws seen:List (List Nat)),(seen++ws).Nodup->zT seen ws=ws.length
 |[],_,_=>rfl
 |w::r,seen,h=>by
  have e:seen.any (·== w)=false:=by
   rw[rf]
   intro x hx z
   have:x=w:=by simpa using z
   subst this
   rw[nq]at h
   exact h.2.2 x hx x (by simp) rfl
  show(if seen.any (·== w)=true then 0 else 1)+zT (seen++[w]) r=_
  rw[e,HK r (seen++[w]) (by simpa using h)]
  simp only[ag,if_false,be]
  omega
theorem DB:∀(ws:List (List Nat)),strsOf (ws.map .str)=some ws
 |[]=>rfl
 |w::r=>by
  show(strsOf (r.map .str)).map (w :: ·)=_
  rw[DB r];rfl
theorem TX (h:G.fns il=some (K4 ir iI (.int 2)))(hr:G.fns ir=some lT)(hn:G.fns iI=some (jI (.tup (fS.map .str)) (.str eV) (.int 8))){fs gs:List (List Nat)}(h1:1<=fs.length)(h2:fs.length<=2)(h3:1<=gs.length)(h4:gs.length<=2)(h5:(fs++gs).Nodup)(h6:∀ n∈fs++gs,fI n=true)
  (hQ:∀ aA,Ext st aA->Q (.bl true) aA):aO G (k+2) il [.tup (fs.map .str),.tup (gs.map .str)] st Q E:=by
 have hL:aZ=16777216:=rfl
 rw[aT h]
 simp only[K4,start]
 refine⟨rfl,?_⟩
 walk_at"st"
 refine mN hr ?_
 have e1:(decide ((1:Int)<=((fs.map D.str).length:Int))&&decide (((fs.map D.str).length:Int)<=2))=true:=by simp only[aa,ay,decide_eq_true_eq];omega
 rw[e1]
 walk_at"ex"
 refine mN hr ?_
 have e2:(decide ((1:Int)<=((gs.map D.str).length:Int))&&decide (((gs.map D.str).length:Int)<=2))=true:=by simp only[aa,ay,decide_eq_true_eq];omega
 rw[e2]
 walk_at"ex"
 rw[aF]
 walk_at"st"
 refine⟨by simp only[aa];omega,?_⟩
 rw[<-cx]
 walk_at"st"
 refine comp_map (fun _=>.bl true) _ [] st (fun aA x a ha=>by cases ha) (fun x hx aA K x1 hK=>?_) (by simp only[aa,bh,ba];omega) fun aA x1=>?_
 ·obtain⟨n,hn',rfl⟩:=List.mem_map.mp hx
  refine C7 (w:=n) hn (by have:=GK (h6 n hn');omega) fun aX x2=>?_
  rw[h6 n hn']
  exact hK aX x2
 ·rw[az]
  refine bI (by simp only[aa,bh];omega) fun p aG x2 hp' gU=>?_
  simp only[eE]
  rw[aE gU,nR]
  rw[bD,DB,bD]
  have e3:(oq (fun _=>true) ((fs++gs).map D.str)).all id=true:=by simp
  rw[if_pos e3]
  refine⟨by simp only[bh];omega,?_⟩
  have e4:(((zT [] (fs++gs):Nat):Int)==((((fs++gs).map D.str).length:Nat):Int))=true:=by
   rw[HK (fs++gs) [] (by simpa using h5),aa];simp
  rw[e4]
  exact hQ _ (x1.trans x2)
end
end L3
end
section
namespace L3
open PySem
noncomputable def qW (fG:Nat)(dp:D):Fn:=⟨2,2,[.ret (.call fG [(.v 0),(.v 1),(.c dp)])]⟩
noncomputable def A7 (ir iy:Nat):Fn:=⟨3,3,[.ret (.and_ (.call ir [(.v 1),(.c (.int 0)),(.v 2)]) (.bi .all [(.comp 1 [0] [0] true none [(.v 1)] [] (.call iy [(.v 1),(.v 0)]))]))]⟩
noncomputable def qX (hp:D):Fn:=⟨1,1,[.ret (.and_ (.isi (.v 0) [.int]) (.and_ (.not_ (.isi (.v 0) [.bool])) (.chain .le .le (.c (.int 1)) (.v 0) (.c hp))))]⟩
noncomputable def AH (ir ip iy:Nat):Fn:=⟨2,2,[.ret (.and_ (.call ir [(.v 1),(.c (.int 2)),(.c (.int 2))]) (.and_ (.call ip [(.ix (.v 1) (.c (.int 0)))]) (.call iy [(.v 0),(.ix (.v 1) (.c (.int 1)))])))]⟩
noncomputable def CF (ir iw:Nat)(mw:D):Fn:=⟨2,2,[.ret (.and_ (.call ir [(.v 1),(.c (.int 1)),(.c mw)]) (.bi .all [(.comp 1 [0] [0] true none [(.v 1)] [] (.call iw [(.v 1),(.v 0)]))]))]⟩
section
variable {G:Prog}{k ir iI fG iy ip iw ia:Nat}{st:aB}{Q:VK}{E:XK}{names:List (List Nat)}
theorem G5 (hy:G.fns iy=some (qW fG (.int 8)))(h:G.fns fG=some (nB iI fG (.dA zD BG)))(hn:G.fns iI=some (jI (.tup (fS.map .str)) (.str eV) (.int 8)))(iH:∀ n∈names,fI n=true){s:Sy}(ho:over names s)(hd:aK s<=8)
 (hQ:∀ aA,Ext st aA->Q (.bl true) aA):aO G (k+10) iy [.tup (names.map .str),toD s] st Q E:=by
 rw[aT hy]
 simp only[qW,start]
 refine⟨rfl,?_⟩
 walk_at"st"
 have:=AU h hn iH s (k:=k+(8-aK s)) (st:=st) (Q:=Q) (E:=E) (d:=8) ho (by omega) hQ
 have e:k+(8-aK s)+aK s+1=k+9:=by omega
 rw[e]at this;exact this
theorem DZ (ha:G.fns ia=some (A7 ir iy))(hr:G.fns ir=some lT)(hy:G.fns iy=some (qW fG (.int 8)))(h:G.fns fG=some (nB iI fG (.dA zD BG)))(hn:G.fns iI=some (jI (.tup (fS.map .str)) (.str eV) (.int 8)))(iH:∀ n∈names,fI n=true){ss:List Sy}{m:Int}
  (ho:∀ s∈ss,over names s/\aK s<=8)(hl:(ss.length:Int)<=m)(hl2:ss.length<=1000)(hQ:∀ aA,Ext st aA->Q (.bl true) aA):aO G (k+11) ia [.tup (names.map .str),.tup (ss.map toD),.int m] st Q E:=by
 have hL:aZ=16777216:=rfl
 rw[aT ha]
 simp only[A7,start]
 refine⟨rfl,?_⟩
 walk_at"st"
 refine mN hr ?_
 have e1:(decide ((0:Int)<=((ss.map toD).length:Int))&&decide (((ss.map toD).length:Int)<=m))=true:=by simp only[aa,ay,decide_eq_true_eq];omega
 rw[e1]
 walk_at"ex"
 refine comp_map (fun _=>.bl true) _ [] st (fun aA x a ha=>by cases ha) (fun x hx aA K x1 hK=>?_) (by simp only[aa,ba];omega) fun aA x1=>?_
 ·obtain⟨s,hs,rfl⟩:=List.mem_map.mp hx
  exact G5 hy h hn iH (ho s hs).1 (ho s hs).2 fun aX x2=>hK aX x2
 ·rw[az]
  refine bI (by simp only[aa];omega) fun p aG x2 hp' gU=>?_
  simp only[eE]
  rw[aE gU,nR,bD]
  have e3:(oq (fun _=>true) (ss.map toD)).all id=true:=by simp
  rw[e3]
  exact hQ _ (x1.trans x2)
theorem ME (h:G.fns ip=some (qX (.int 99))){p:Int}(h1:1<=p)(h2:p<=99)(hQ:Q (.bl true) st):aO G (k+1) ip [.int p] st Q E:=by
 rw[aT h]
 simp only[qX,start]
 refine⟨rfl,?_⟩
 walk_at"st"
 rw[if_pos h1,decide_eq_true h2]
 exact hQ
theorem NX (hw:G.fns iw=some (AH ir ip iy))(hr:G.fns ir=some lT)(hp:G.fns ip=some (qX (.int 99)))(hy:G.fns iy=some (qW fG (.int 8)))(h:G.fns fG=some (nB iI fG (.dA zD BG)))(hn:G.fns iI=some (jI (.tup (fS.map .str)) (.str eV) (.int 8)))(iH:∀ n∈names,fI n=true){s:Sy}{p:Int}
 (h1:1<=p)(h2:p<=99)(ho:over names s)(hd:aK s<=8)(hQ:∀ aA,Ext st aA->Q (.bl true) aA):aO G (k+11) iw [.tup (names.map .str),.tup [.int p,toD s]] st Q E:=by
 rw[aT hw]
 simp only[AH,start]
 refine⟨rfl,?_⟩
 walk_at"st"
 refine mN hr ?_
 have e1:(decide ((2:Int)<=(([.int p,toD s]:List D).length:Int))&&decide ((([.int p,toD s]:List D).length:Int)<=2))=true:=rfl
 rw[e1]
 walk_at"ex"
 refine ME hp h1 h2 ?_
 walk_at"ex"
 exact G5 hy h hn iH ho hd fun aX x2=>hQ aX x2
end
end L3
end
section
namespace L3
open PySem
noncomputable def wF (ih ib:Nat):Fn:=⟨2,2,[.iff (.cmp .eq (.ix (.v 1) (.c (.int 0))) (.c (.str (W "before")))) [.ret (.c (.bl false))] [],.iff (.cmp .eq (.ix (.v 1) (.c (.int 0))) (.c (.str (W "lamp")))) [.ret (.cmp .in_ (.ix (.v 1) (.c (.int 1))) (.v 0))] [],.ret (.bi .any [(.comp 1 [0] [0] true none [(.call ih [(.v 1)])] [] (.call ib [(.v 1),(.v 0)]))])]⟩
noncomputable def fW (gs:List (List Nat)):Sy->Bool
 |.cF n=>gs.any (·== n)
 |.one .before _=>false
 |.one _ s=>fW gs s
 |.two _ s t=>fW gs s||fW gs t
 |_=>false
section
variable {G:Prog}{k ih ib ir iI fG iy ip iw ia:Nat}{st:aB}{Q:VK}{E:XK}{names:List (List Nat)}
theorem LY (ha:G.fns ia=some (CF ir iw (.int 5)))(hw:G.fns iw=some (AH ir ip iy))(hr:G.fns ir=some lT)(hp:G.fns ip=some (qX (.int 99)))(hy:G.fns iy=some (qW fG (.int 8)))(h:G.fns fG=some (nB iI fG (.dA zD BG)))(hn:G.fns iI=some (jI (.tup (fS.map .str)) (.str eV) (.int 8)))(iH:∀ n∈names,fI n=true){ws:List (Int×Sy)}
  (ho:∀ w∈ws,1<=w.1/\w.1<=99/\over names w.2/\aK w.2<=8)(h1:1<=ws.length)(h2:ws.length<=5)(hQ:∀ aA,Ext st aA->Q (.bl true) aA):aO G (k+12) ia [.tup (names.map .str),.tup (ws.map fun w=>.tup [.int w.1,toD w.2])] st Q E:=by
 have hL:aZ=16777216:=rfl
 rw[aT ha]
 simp only[CF,start]
 refine⟨rfl,?_⟩
 walk_at"st"
 refine mN hr ?_
 have e1:(decide ((1:Int)<=((ws.map fun w=>D.tup [.int w.1,toD w.2]).length:Int))&&decide (((ws.map fun w=>D.tup [.int w.1,toD w.2]).length:Int)<=5))=true:=by simp only[aa,ay,decide_eq_true_eq];omega
 rw[e1]
 walk_at"ex"
 refine comp_map (fun _=>.bl true) _ [] st (fun aA x a ha=>by cases ha) (fun x hx aA K x1 hK=>?_) (by simp only[aa,ba];omega) fun aA x1=>?_
 ·obtain⟨s,hs,rfl⟩:=List.mem_map.mp hx
  obtain⟨o1,o2,o3,o4⟩:=ho s hs
  exact NX hw hr hp hy h hn iH o1 o2 o3 o4 fun aX x2=>hK aX x2
 ·rw[az]
  refine bI (by simp only[aa];omega) fun p aG x2 hp' gU=>?_
  simp only[eE]
  rw[aE gU,nR,bD]
  have e3:(oq (fun _=>true) (ws.map fun w=>D.tup [.int w.1,toD w.2])).all id=true:=by simp
  rw[e3]
  exact hQ _ (x1.trans x2)
end
end L3
end
section
namespace L3
open PySem
theorem gH {α:Type}{g:aB->Prop}{turn:D->aB->(Option D->aB->Prop)->Prop}{R:List D->aB->Prop}(t f:α->D):∀(xs:List α)(acc:List D)(st:aB),
  (∀ aA,Ext st aA->g aA)->(∀ x∈xs,∀ aA (K:Option D->aB->Prop),Ext st aA->(∀ aX,Ext aA aX->K (some (f x)) aX)->turn (t x) aA K) ->
  acc.length+xs.length<=aZ->(∀ aA,Ext st aA->R (acc++xs.map f) aA)->jQ g turn (xs.map t) acc st R
 |[],acc,st,hg,_,_,hR=>⟨hg st .refl,by simpa using hR st .refl⟩
 |x::xs,acc,st,hg,ht,hl,hR=>by
  simp only[be]at hl
  refine⟨hg st .refl,by omega,ht x (by simp) st _ .refl fun aX h''=>?_⟩
  exact gH t f xs (acc++[f x]) aX (fun aA h=>hg aA (h''.trans h)) (fun y hy aA K h=>ht y (by simp [hy]) aA K (h''.trans h)) (by simp only[bh,be,ba];omega) fun aA h=>by simpa using hR aA (h''.trans h)
theorem wY {α:Type}(b:α->Bool):∀(ps:List α),boolsOf (ps.map fun x=>.bl (b x))=some (ps.map b)
 |[]=>rfl
 |x::r=>by
  show(boolsOf (r.map fun x=>.bl (b x))).map (b x :: ·)=_
  rw[wY b r];rfl
section
variable {G:Prog}{k ih ib:Nat}{Q:VK}{E:XK}{gs:List (List Nat)}
theorem xC (h:G.fns ib=some (wF ih ib))(hh:G.fns ih=some iN){s:Sy}{st:aB}(h1:¬(wd s==W "before")=true)(h2:fK s=false)(h3:¬(wd s==W "lamp")=true)(h4:(subs s).length<=2)
 (hp:∀ x∈subs s,∀(aA:aB)(Q':VK)(E':XK),Ext st aA->(∀ aX,Ext aA aX->Q' (.bl (fW gs x)) aX)->aO G (k+1) ib [.tup (gs.map .str),toD x] aA Q' E')(hQ:∀ aA,Ext st aA->Q (.bl ((subs s).any (fW gs))) aA):aO G (k+2) ib [.tup (gs.map .str),toD s] st Q E:=by
 have hL:aZ=16777216:=rfl
 rw[aT h]
 simp only[wF,start]
 refine⟨rfl,?_⟩
 obtain⟨r,er⟩:=lF s
 rw[er]
 walk_at"st"
 rw[if_neg h1,aF]
 walk_at"st"
 rw[if_neg h3,aF]
 walk_at"st"
 rw[<-er]
 refine sN hh ?_
 walk_at"ex"
 refine gH toD (fun x=>.bl (fW gs x)) _ [] st (fun aA x a ha=>by cases ha) (fun x hx aA K x1 hK=>hp x hx aA _ _ x1 fun aX x2=>hK aX x2) (by simp only[ba];omega) fun aA x1=>?_
 rw[az]
 refine bI (by simp only[aa];omega) fun p aG x2 hp' gU=>?_
 simp only[eE]
 rw[aE gU,wY,bD,kg]
 exact hQ _ (x1.trans x2)
theorem AZ (h:G.fns ib=some (wF ih ib))(hh:G.fns ih=some iN):∀(s:Sy){k:Nat}{st:aB}{Q:VK}{E:XK},(∀ aA,Ext st aA->Q (.bl (fW gs s)) aA)->aO G (k+aK s+1) ib [.tup (gs.map .str),toD s] st Q E
 |.yes,k,st,Q,E,hQ=>xC (k:=k) h hh (by decide) rfl (by decide) (by decide) (fun x hx=>by cases hx) hQ
 |.no,k,st,Q,E,hQ=>xC (k:=k) h hh (by decide) rfl (by decide) (by decide) (fun x hx=>by cases hx) hQ
 |.cF n,k,st,Q,E,hQ=>by
  rw[aT h]
  simp only[wF,start,toD]
  refine⟨rfl,?_⟩
  walk_at"st"
  have n1:¬(W "lamp" == W "before")=true:=by decide
  rw[if_neg n1,aF]
  walk_at"st"
  have n3:(W "lamp" == W "lamp")=true:=by decide
  rw[if_pos n3]
  walk_at"st"
  refine⟨kN st gs,?_⟩
  have e:((gs.map D.str).any fun d=>bT st d (.str n))=fW gs (.cF n):=by rw[kg];rfl
  rw[e]
  exact hQ _ .refl
 |.one w s,k,st,Q,E,hQ=>by
  by_cases hw:w=.before
  ·subst hw
   rw[aT h]
   simp only[wF,start,toD,c1]
   refine⟨rfl,?_⟩
   walk_at"st"
   have n1:(W "before" == W "before")=true:=by decide
   rw[if_pos n1]
   walk_at"st"
   exact hQ _ .refl
  ·have e0:k+aK (.one w s)+1=(k+aK s)+2:=by simp only[aK];omega
   rw[e0]
   refine xC h hh (show ¬(c1 w==W "before")=true by cases w<;>first|decide|exact absurd rfl hw) rfl (show ¬(c1 w==W "lamp")=true by cases w<;>decide) (by simp [subs]) (fun x hx aA Q' E' x1 hQ'=>?_) (fun aA x1=>?_)
   ·simp only[subs,b9,bp,or_false]at hx
    rw[hx]at hQ' ⊢
    exact AZ h hh s (k:=k) (st:=aA) (Q:=Q') (E:=E') hQ'
   ·have e1:(subs (.one w s)).any (fW gs)=fW gs (.one w s):=by
     cases w<;>first|exact absurd rfl hw|simp [subs,fW]
    rw[e1];exact hQ aA x1
 |.two w s t,k,st,Q,E,hQ=>by
  have l1:=vn (aK s) (aK t)
  have l2:=tx (aK s) (aK t)
  have e0:k+aK (.two w s t)+1=(k+max (aK s) (aK t))+2:=by simp only[aK];omega
  rw[e0]
  refine xC h hh (show ¬(c2 w==W "before")=true by cases w<;>decide) rfl (show ¬(c2 w==W "lamp")=true by cases w<;>decide) (by simp [subs]) (fun x hx aA Q' E' x1 hQ'=>?_) (fun aA x1=>by simpa [subs,fW]using hQ aA x1)
  simp only[subs,b9,bp,or_false]at hx
  rcases hx with hx|hx
  ·rw[hx]at hQ' ⊢
   have:=AZ h hh s (k:=k+(max (aK s) (aK t)-aK s)) (st:=aA) (Q:=Q') (E:=E') hQ'
   have e:k+(max (aK s) (aK t)-aK s)+aK s+1=k+max (aK s) (aK t)+1:=by omega
   rw[e]at this;exact this
  ·rw[hx]at hQ' ⊢
   have:=AZ h hh t (k:=k+(max (aK s) (aK t)-aK t)) (st:=aA) (Q:=Q') (E:=E') hQ'
   have e:k+(max (aK s) (aK t)-aK t)+aK t+1=k+max (aK s) (aK t)+1:=by omega
   rw[e]at this;exact this
end
end L3
end
section
namespace L3
open PySem
noncomputable def EW (ia ib:Nat)(mp:D):Fn:=⟨3,3,[.ret (.and_ (.call ia [(.v 0),(.v 2),(.c mp)]) (.not_ (.bi .any [(.comp 1 [1] [0] true none [(.v 2)] [] (.call ib [(.v 1),(.v 0)]))])))]⟩
noncomputable def uQ:Fn:=⟨3,3,[.ret (.bin .add (.bin .add (.bi .list [(.v 0)]) (.bi .list [(.v 1)])) (.comp 1 [] [0] true none [(.v 2)] [] (.ix (.v 0) (.c (.int 1)))))]⟩
section
variable {G:Prog}{k ih ib ir iI fG iy ia iap io:Nat}{st:aB}{Q:VK}{E:XK}{names gs:List (List Nat)}
theorem OW (hp:G.fns iap=some (EW ia ib (.int 3)))(hb:G.fns ib=some (wF ih ib))(hh:G.fns ih=some iN)(ha:G.fns ia=some (A7 ir iy))(hr:G.fns ir=some lT)(hy:G.fns iy=some (qW fG (.int 8)))(h:G.fns fG=some (nB iI fG (.dA zD BG)))(hn:G.fns iI=some (jI (.tup (fS.map .str)) (.str eV) (.int 8)))(iH:∀ n∈names,fI n=true){ss:List Sy}
  (ho:∀ s∈ss,over names s/\aK s<=8)(hl:ss.length<=3)(hbare:∀ s∈ss,fW gs s=false)(hQ:∀ aA,Ext st aA->Q (.bl true) aA):aO G (k+12) iap [.tup (names.map .str),.tup (gs.map .str),.tup (ss.map toD)] st Q E:=by
 have hL:aZ=16777216:=rfl
 rw[aT hp]
 simp only[EW,start]
 refine⟨rfl,?_⟩
 walk_at"st"
 refine DZ ha hr hy h hn iH ho (by omega) (by omega) fun aC y1=>?_
 walk_at"ex"
 refine gH toD (fun _=>.bl false) _ [] aC (fun aA x a ha=>by cases ha) (fun x hx aA K x1 hK=>?_) (by simp only[ba];omega) fun aA x1=>?_
 ·have e:k+11=(k+10-aK x)+aK x+1:=by have:=(ho x hx).2;omega
  rw[e]
  refine AZ hb hh x fun aX x2=>?_
  rw[hbare x hx]
  exact hK aX x2
 ·rw[az]
  refine bI (by simp only[aa];omega) fun p aG x2 hp' gU=>?_
  simp only[eE]
  rw[aE gU,wY (fun _=>false),bD]
  have e3:(ss.map fun _=>false).any id=false:=by simp
  rw[e3]
  exact hQ _ ((y1.trans x1).trans x2)
theorem GV (h:G.fns io=some uQ){ps ms:List Sy}{ws:List (Int×Sy)}(h1:ps.length<=1000)(h2:ms.length<=1000)(h3:ws.length<=1000)
 (hQ:∀ p aA,Ext st aA->aA p=some (.lst ((ps++ms++ws.map (·.2)).map toD))->Q (.ref p) aA):aO G (k+1) io [.tup (ps.map toD),.tup (ms.map toD),.tup (ws.map fun w=>.tup [.int w.1,toD w.2])] st Q E:=by
 have hL:aZ=16777216:=rfl
 rw[aT h]
 simp only[uQ,start]
 refine⟨rfl,?_⟩
 walk_at"st"
 refine bI (by simp only[aa];omega) fun p aC x1 hp hp1=>?_
 walk_at"ex"
 refine bI (by simp only[aa];omega) fun q aG x2 hq hq2=>?_
 walk_at"ex"
 rw[aE (x2 _ _ hp1),aE hq2]
 refine bI (by simp only[aa,bh];omega) fun r aV x3 hr hr3=>?_
 refine gH (fun w:Int×Sy=>D.tup [.int w.1,toD w.2]) (fun w=>toD w.2) _ [] aV (fun aA x a ha=>by cases ha) (fun x hx aA K y1 hK=>hK aA .refl) (by simp only[ba];omega) fun cH x4=>?_
 rw[az]
 refine bI (by simp only[aa];omega) fun u cQ x5 hu hu5=>?_
 show cM cQ r fun xs=>cM cQ u fun ys=>iF (xs++ys) cQ Q
 rw[aE (x5 _ _ (x4 _ _ hr3)),aE hu5]
 refine bI (by simp only[aa,bh];omega) fun v fE x6 hv hv6=>?_
 refine hQ v fE (((((x1.trans x2).trans x3).trans x4).trans x5).trans x6) ?_
 rw[hv6]
 simp only[cx,vb]
 rfl
end
end L3
end
section
namespace L3
open PySem
noncomputable def EJ (ir il iap ia iaw ipi io:Nat)(mm mp:D):Fn:=⟨1,6,[.iff (.or_ (.not_ (.call ir [(.v 0),(.c (.int 5)),(.c (.int 5))])) (.not_ (.call il [(.ix (.v 0) (.c (.int 0))),(.ix (.v 0) (.c (.int 1)))]))) [.ret (.c (.bl false))] [],.asg (.nm 1) (.ix (.v 0) (.c (.int 1))),.asg (.nm 2) (.bin .add (.ix (.v 0) (.c (.int 0))) (.v 1)),.asg (.nm 3) (.ix (.v 0) (.c (.int 2))),.asg (.nm 4) (.ix (.v 0) (.c (.int 3))),.asg (.nm 5) (.ix (.v 0) (.c (.int 4))),.iff (.or_ (.not_ (.call iap [(.v 2),(.v 1),(.v 3)])) (.not_ (.call ia [(.v 2),(.v 4),(.c mm)]))) [.ret (.c (.bl false))] [],.ret (.and_ (.call iaw [(.v 2),(.v 5)]) (.cmp .le (.bi .len [(.call ipi [(.call io [(.v 3),(.v 4),(.v 5)])])]) (.c mp)))]⟩
structure Bk where
 fs:List (List Nat)
 gs:List (List Nat)
 ps:List Sy
 ms:List Sy
 ws:List (Int×Sy)
noncomputable def Bk.d (b:Bk):D:=.tup [.tup (b.fs.map .str),.tup (b.gs.map .str),.tup (b.ps.map toD),.tup (b.ms.map toD),.tup (b.ws.map fun w=>.tup [.int w.1,toD w.2])]
noncomputable def Bk.names (b:Bk):List (List Nat):=b.fs++b.gs
noncomputable def Bk.says (b:Bk):List Sy:=b.ps++b.ms++b.ws.map (·.2)
structure Bk.Ok (b:Bk):Prop where
 f1:1<=b.fs.length
 f2:b.fs.length<=2
 g1:1<=b.gs.length
 g2:b.gs.length<=2
 nd:b.names.Nodup
 nm:∀ n∈b.names,fI n=true
 p1:b.ps.length<=3
 p2:∀ s∈b.ps,over b.names s/\aK s<=8
 p3:∀ s∈b.ps,fW b.gs s=false
 m1:b.ms.length<=3
 m2:∀ s∈b.ms,over b.names s/\aK s<=8
 w1:1<=b.ws.length
 w2:b.ws.length<=5
 w3:∀ w∈b.ws,1<=w.1/\w.1<=99/\over b.names w.2/\aK w.2<=8
section
variable {G:Prog}{k ih ib ir iI fG iy ia iap io il iaw ipi ip iw ibk:Nat}{st:aB}{Q:VK}{E:XK}
theorem MD (h:G.fns ir=some lT){ds:List D}{lo hi:Int}(h1:lo<=(ds.length:Int))(h2:(ds.length:Int)<=hi)(hQ:Q (.bl true) st):aO G (k+1) ir [.tup ds,.int lo,.int hi] st Q E :=
 mN h (by rw[decide_eq_true h1,decide_eq_true h2];exact hQ)
end
end L3
end
section
namespace L3
open PySem
section
variable {G:Prog}{k ir il iap ia iaw ipi io ibk:Nat}{Q:VK}{E:XK}
theorem L6 (hbk:G.fns ibk=some (EJ ir il iap ia iaw ipi io (.int 3) (.int 4)))(hr:G.fns ir=some lT){F J P M V N:D}{st:aB}{Φ:Nat->aB->Prop}
 (h1:∀(st:aB)(Q:VK)(E:XK),(∀ aA,Ext st aA->Q (.bl true) aA)->aO G (k+12) il [F,J] st Q E)(h2:∀(st:aB)(Q:VK),Q N st->iC .add F J st Q)
 (h3:∀(st:aB)(Q:VK)(E:XK),(∀ aA,Ext st aA->Q (.bl true) aA)->aO G (k+12) iap [N,J,P] st Q E)(h4:∀(st:aB)(Q:VK)(E:XK),(∀ aA,Ext st aA->Q (.bl true) aA)->aO G (k+12) ia [N,M,.int 3] st Q E)
 (h5:∀(st:aB)(Q:VK)(E:XK),(∀ aA,Ext st aA->Q (.bl true) aA)->aO G (k+12) iaw [N,V] st Q E)(h6:∀(st:aB)(Q:VK)(E:XK),(∀ l aA,Ext st aA->Φ l aA->Q (.ref l) aA)->aO G (k+12) io [P,M,V] st Q E)
 (h7:∀(l:Nat)(st:aB)(Q:VK)(E:XK),Φ l st->(∀ p aA (xs:List D),Ext st aA->xs.length<=4->aA p=some (.lst xs)->Q (.ref p) aA)->aO G (k+12) ipi [.ref l] st Q E)
 (hQ:∀ aA,Ext st aA->Q (.bl true) aA):aO G (k+13) ibk [.tup [F,J,P,M,V]] st Q E:=by
 rw[aT hbk]
 simp only[EJ,start]
 refine⟨rfl,?_⟩
 walk_at"st"
 refine MD hr (So 5) (So 5) ?_
 walk_at"ex"
 refine h1 _ _ _ fun aC x1=>?_
 walk_at"ex"
 rw[aF]
 try dsimp only
 refine fJ ?_
 rw[vC,CK,FZ]
 simp only[↓EX,↓ID]
 rw[lK,show fZ [F,J,P,M,V] 1=some J from rfl,bD,AS]
 simp only[du,dg]
 refine fJ ?_
 rw[vC,NT,CK,FZ]
 simp only[↓EX,↓ID]
 rw[lK,show fZ [F,J,P,M,V] 0=some F from rfl,bD,FZ]
 simp only[du,dg,↓Ai]
 refine h2 _ _ ?_
 rw[AS]
 simp only[du,dg]
 refine fJ ?_
 rw[vC,CK,FZ]
 simp only[du,dg,↓EX,↓ID]
 rw[lK,show fZ [F,J,P,M,V] 2=some P from rfl,bD,AS]
 simp only[du,dg]
 refine fJ ?_
 rw[vC,CK,FZ]
 simp only[du,dg,↓EX,↓ID]
 rw[lK,show fZ [F,J,P,M,V] 3=some M from rfl,bD,AS]
 simp only[du,dg]
 refine fJ ?_
 rw[vC,CK,FZ]
 simp only[du,dg,↓EX,↓ID]
 rw[lK,show fZ [F,J,P,M,V] 4=some V from rfl,bD,AS]
 simp only[du,dg]
 walk_at"st"
 refine h3 _ _ _ fun aG x2=>?_
 walk_at"ex"
 refine h4 _ _ _ fun aV x3=>?_
 walk_at"ex"
 rw[aF]
 walk_at"st"
 refine h5 _ _ _ fun cH x4=>?_
 walk_at"ex"
 refine h6 _ _ _ fun l cQ x5 hl=>?_
 walk_at"ex"
 refine h7 _ _ _ _ hl fun p fE xs x6 hx hp=>?_
 walk_at"ex"
 unfold eR
 rw[hp]
 show Q (.bl (decide ((xs.length:Int)<=4))) fE
 rw[decide_eq_true (show(xs.length:Int)<=4 by omega)]
 exact hQ _ (((((x1.trans x2).trans x3).trans x4).trans x5).trans x6)
end
end L3
end
section
namespace L3
open PySem
section
variable {G:Prog}{k ih ib ir iI fG iy ia iap io il iaw ipi ip iw ibk:Nat}{st:aB}{Q:VK}{E:XK}
theorem OE (hbk:G.fns ibk=some (EJ ir il iap ia iaw ipi io (.int 3) (.int 4)))(hla:G.fns il=some (K4 ir iI (.int 2)))(hap:G.fns iap=some (EW ia ib (.int 3)))(hb:G.fns ib=some (wF ih ib))(hh:G.fns ih=some iN)(ha:G.fns ia=some (A7 ir iy))(hr:G.fns ir=some lT)(hy:G.fns iy=some (qW fG (.int 8)))(h:G.fns fG=some (nB iI fG (.dA zD BG)))
  (hn:G.fns iI=some (jI (.tup (fS.map .str)) (.str eV) (.int 8)))(haw:G.fns iaw=some (CF ir iw (.int 5)))(hw:G.fns iw=some (AH ir ip iy))(hp:G.fns ip=some (qX (.int 99)))(ho:G.fns io=some uQ)(hpi:G.fns ipi=some (lD ih)){b:Bk}(B:b.Ok)(hs:eH b.says<aZ)(hd:∀ x∈b.says,aK x<=60)(hc:(bX b.says []).length<=4)
  (hQ:∀ aA,Ext st aA->Q (.bl true) aA):aO G (k+13) ibk [b.d] st Q E:=by
 have hL:aZ=16777216:=rfl
 have f2:=B.f2
 have g2:=B.g2
 have p1:=B.p1
 have m1:=B.m1
 have w2:=B.w2
 refine L6 hbk hr (N:=.tup (b.names.map .str)) (Φ:=fun l st=>st l=some (.lst (b.says.map toD))) (fun st Q E q=>TX (k:=k+10) hla hr hn B.f1 B.f2 B.g1 B.g2 B.nd B.nm q) (fun st Q q=>?_) (fun st Q E q=>OW (k:=k) hap hb hh ha hr hy h hn B.nm B.p2 B.p1 B.p3 q)
  (fun st Q E q=>DZ (k:=k+1) ha hr hy h hn B.nm B.m2 (by omega) (by omega) q) (fun st Q E q=>LY (k:=k) haw hw hr hp hy h hn B.nm B.w3 B.w1 B.w2 q) (fun st Q E q=>GV (k:=k+11) ho (by omega) (by omega) (by omega) fun p aA x e=>q p aA x e)
  (fun l st Q E e q=>yV (k:=k+10) hpi hh e hd hs fun p aA x e'=>q p aA _ x (by simpa using hc) e') hQ
 show _/\Q _ st
 refine⟨by simp only[aa];omega,?_⟩
 rw[<-cx]
 exact q
end
end L3
end
section
namespace L3
noncomputable def kE (f g:Nat->Bool):Nat->Bool
 |0=>g 0
 |t+1=>g (t+1)||(f (t+1)&&kE f g t)
noncomputable def HV (names:List (List Nat))(bA:List (List Bool))(n:List Nat)(t:Nat):Bool:=(((bA[t]?).getD [])[names.idxOf n]?).getD false
noncomputable def hv (names:List (List Nat))(bA:List (List Bool)):Sy->Nat->Bool
 |.yes,_=>true
 |.no,_=>false
 |.cF n,t=>HV names bA n t
 |.one .not s,t=>!hv names bA s t
 |.one .before s,t=>decide (0<t)&&hv names bA s (t-1)
 |.one .once s,t=>(a9 (t+1)).any (hv names bA s)
 |.one .sofar s,t=>(a9 (t+1)).all (hv names bA s)
 |.two .and s u,t=>hv names bA s t&&hv names bA u t
 |.two .or s u,t=>hv names bA s t||hv names bA u t
 |.two .bE s u,t=>hv names bA u t || !hv names bA s t
 |.two .same s u,t=>hv names bA s t==hv names bA u t
 |.two .since s u,t=>kE (hv names bA s) (hv names bA u) t
noncomputable def lW:Sy->Sy
 |.one .before s=>s
 |s=>s
noncomputable def eQ:Sy->Bool
 |.one .sofar _=>true
 |_=>false
noncomputable def gF (names:List (List Nat))(bA:List (List Bool))(t:Nat)(p:Sy):Bool:=if t=0 then eQ p else hv names bA (lW p) (t-1)
noncomputable def fT:Sy->Bool->List Bool->Bool
 |.one .before _,m,_=>m
 |.one .once _,m,a::_=>m||a
 |.one .sofar _,m,a::_=>m&&a
 |.two .since _ _,m,a::b::_=>b||(m&&a)
 |_,_,_=>false
noncomputable def pV:Sy->List Bool->Bool
 |.yes,_=>true
 |.one .not _,a::_=>!a
 |.two .and _ _,a::b::_=>a&&b
 |.two .or _ _,a::b::_=>a||b
 |.two .bE _ _,a::b::_=>b || !a
 |.two .same _ _,a::b::_=>a==b
 |_,_=>false
section
variable {names:List (List Nat)}{bA:List (List Bool)}
theorem ET (f:Nat->Bool)(t:Nat):(a9 (t+1)).any f=((a9 t).any f||f t):=by rw[l4];simp
theorem E6 (f:Nat->Bool)(t:Nat):(a9 (t+1)).all f=((a9 t).all f&&f t):=by rw[l4];simp
theorem YU {s:Sy}(h:bN s=true)(t:Nat):hv names bA s t=fT s (gF names bA t s) ((subs s).map fun u=>hv names bA u t):=by
 cases s with
 |one w a =>
  cases w with
  |not=>cases h
  |before =>
   cases t with
   |zero=>simp [hv,fT,gF,eQ]
   |succ t=>simp [hv,fT,gF,lW]
  |once =>
   cases t with
   |zero=>simp [hv,fT,gF,eQ,subs]
   |succ t=>simp only[hv,fT,gF,lW,subs,av];rw[ET];simp
  |sofar =>
   cases t with
   |zero=>simp [hv,fT,gF,eQ,subs]
   |succ t=>simp only[hv,fT,gF,lW,subs,av];rw[E6];simp
 |two w a b =>
  cases w with
  |since =>
   cases t with
   |zero=>simp [hv,fT,gF,eQ,subs,kE]
   |succ t =>
    simp only[hv,fT,gF,lW,subs,av,kE]
    simp [Bool.and_comm]
  |_=>cases h
 |_=>cases h
theorem Bc {s:Sy}(h:bN s=false)(hl:fK s=false)(t:Nat):hv names bA s t=pV s ((subs s).map fun u=>hv names bA u t):=by
 cases s with
 |one w a=>cases w<;>first|rfl|cases h
 |two w a b=>cases w<;>first|rfl|cases h
 |cF n=>cases hl
 |_=>rfl
end
end L3
end
section
namespace L3
open PySem
local macro_rules|`(tactic| walk_at"wd")=>`(tactic| (first|rw[if_pos (by decide +kernel)]|rw[if_neg (by decide +kernel)]))
noncomputable def wQ:Fn:=⟨2,2,[.iff (.cmp .eq (.v 0) (.c (.str (W "not")))) [.ret (.not_ (.ix (.v 1) (.c (.int 0))))] [],.iff (.cmp .eq (.v 0) (.c (.str (W "and")))) [.ret (.and_ (.ix (.v 1) (.c (.int 0))) (.ix (.v 1) (.c (.int 1))))] [],.iff (.cmp .eq (.v 0) (.c (.str (W "or")))) [.ret (.or_ (.ix (.v 1) (.c (.int 0))) (.ix (.v 1) (.c (.int 1))))] [],.iff (.cmp .eq (.v 0) (.c (.str (W "then")))) [.ret (.or_ (.ix (.v 1) (.c (.int 1))) (.not_ (.ix (.v 1) (.c (.int 0)))))] [],.iff (.cmp .eq (.v 0) (.c (.str (W "same")))) [.ret (.cmp .eq (.ix (.v 1) (.c (.int 0))) (.ix (.v 1) (.c (.int 1))))] [],.ret (.cmp .eq (.v 0) (.c (.str (W "yes"))))]⟩
noncomputable def qL:Fn:=⟨3,3,[.iff (.cmp .eq (.v 0) (.c (.str (W "before")))) [.ret (.v 1)] [],.iff (.cmp .eq (.v 0) (.c (.str (W "once")))) [.ret (.or_ (.v 1) (.ix (.v 2) (.c (.int 0))))] [],.iff (.cmp .eq (.v 0) (.c (.str (W "sofar")))) [.ret (.and_ (.v 1) (.ix (.v 2) (.c (.int 0))))] [],.ret (.or_ (.ix (.v 2) (.c (.int 1))) (.and_ (.v 1) (.ix (.v 2) (.c (.int 0)))))]⟩
section
variable {G:Prog}{k i:Nat}{st:aB}{Q:VK}{E:XK}
theorem AO {q:Nat}{bs:List Bool}{j:Nat}{b:Bool}(hq:st q=some (.lst (bs.map .bl)))(hb:bs[j]? = some b):nZ (.ref q) (.int (j:Nat)) st Q=Q (.bl b) st:=by
 have hj:j<bs.length:=by
  by_cases h:j<bs.length
  ·exact h
  ·rw[de (by omega)]at hb;cases hb
 rw[dX hq,dR (by simpa using hj),bc,hb]
 rfl
theorem Ae (h:G.fns i=some wQ){s:Sy}(hp:bN s=false)(hl:fK s=false){q:Nat}{bs:List Bool}(hb:bs.length=(subs s).length)(hq:st q=some (.lst (bs.map .bl)))(hQ:Q (.bl (pV s bs)) st):aO G (k+1) i [.str (wd s),.ref q] st Q E:=by
 rw[aT h]
 simp only[wQ,start]
 refine⟨rfl,?_⟩
 cases s with
 |yes =>
  simp only[wd]
  iterate 5 (walk_at"st"; walk_at"wd"; rw[aF])
  walk_at"st"
  have e:(W "yes" == W "yes")=true:=by decide +kernel
  rw[e]
  exact hQ
 |no =>
  simp only[wd]
  iterate 5 (walk_at"st"; walk_at"wd"; rw[aF])
  walk_at"st"
  have e:(W "no" == W "yes")=false:=by decide +kernel
  rw[e]
  exact hQ
 |cF n=>cases hl
 |one w a =>
  cases w with
  |not =>
   simp only[wd,c1]
   match bs,hb,hq,hQ with
   |[b],_,hq,hQ =>
    have i0:=fun(Q:VK)=>AO (st:=st) (Q:=Q) (j:=0) hq rfl
    simp only[la]at i0
    walk_at"st"; walk_at"wd"
    walk_at"st"
    rw[i0]
    walk_at"ex"
    exact hQ
  |_=>cases hp
 |two w a c =>
  match bs,hb,hq,hQ with
  |[b,b'],_,hq,hQ =>
   have i0:=fun(Q:VK)=>AO (st:=st) (Q:=Q) (j:=0) hq rfl
   have i1:=fun(Q:VK)=>AO (st:=st) (Q:=Q) (j:=1) hq rfl
   simp only[la]at i0
   have e1:((1:Nat):Int)=1:=rfl
   rw[e1]at i1
   cases w with
   |and =>
    simp only[wd,c2]
    iterate 1 (walk_at"st"; walk_at"wd"; rw[aF])
    walk_at"st"; walk_at"wd"
    walk_at"st"
    rw[i0]
    walk_at"ex"
    cases b with
    |false=>simpa [pV]using hQ
    |true=>simp only[if_true];rw[i1];simpa [pV]using hQ
   |or =>
    simp only[wd,c2]
    iterate 2 (walk_at"st"; walk_at"wd"; rw[aF])
    walk_at"st"; walk_at"wd"
    walk_at"st"
    rw[i0]
    walk_at"ex"
    cases b with
    |true=>simpa [pV]using hQ
    |false=>simp only[ag,if_false];rw[i1];simpa [pV]using hQ
   |bE =>
    simp only[wd,c2]
    iterate 3 (walk_at"st"; walk_at"wd"; rw[aF])
    walk_at"st"; walk_at"wd"
    walk_at"st"
    rw[i1]
    walk_at"ex"
    cases b' with
    |true=>simpa [pV]using hQ
    |false=>simp only[ag,if_false];walk_at"ex"; rw[i0];walk_at"ex"; simpa [pV]using hQ
   |same =>
    simp only[wd,c2]
    iterate 4 (walk_at"st"; walk_at"wd"; rw[aF])
    walk_at"st"; walk_at"wd"
    walk_at"st"
    rw[i0]
    rw[i1]
    walk_at"ex"
    exact hQ
   |since=>cases hp
theorem ZK (h:G.fns i=some qL){s:Sy}(hp:bN s=true){q:Nat}{m:Bool}{bs:List Bool}(hb:bs.length=(subs s).length)(hq:st q=some (.lst (bs.map .bl)))(hQ:Q (.bl (fT s m bs)) st):aO G (k+1) i [.str (wd s),.bl m,.ref q] st Q E:=by
 rw[aT h]
 simp only[qL,start]
 refine⟨rfl,?_⟩
 cases s with
 |one w a =>
  match bs,hb,hq,hQ with
  |[b],_,hq,hQ =>
   have i0:=fun(Q:VK)=>AO (st:=st) (Q:=Q) (j:=0) hq rfl
   simp only[la]at i0
   cases w with
   |not=>cases hp
   |before =>
    simp only[wd,c1]
    walk_at"st"; walk_at"wd"
    walk_at"st"
    exact hQ
   |once =>
    simp only[wd,c1]
    iterate 1 (walk_at"st"; walk_at"wd"; rw[aF])
    walk_at"st"; walk_at"wd"
    walk_at"st"
    cases m with
    |true=>simpa [fT]using hQ
    |false=>simp only[ag,if_false];rw[i0];simpa [fT]using hQ
   |sofar =>
    simp only[wd,c1]
    iterate 2 (walk_at"st"; walk_at"wd"; rw[aF])
    walk_at"st"; walk_at"wd"
    walk_at"st"
    cases m with
    |false=>simpa [fT]using hQ
    |true=>simp only[if_true];rw[i0];simpa [fT]using hQ
 |two w a c =>
  match bs,hb,hq,hQ with
  |[b,b'],_,hq,hQ =>
   have i0:=fun(Q:VK)=>AO (st:=st) (Q:=Q) (j:=0) hq rfl
   have i1:=fun(Q:VK)=>AO (st:=st) (Q:=Q) (j:=1) hq rfl
   simp only[la]at i0
   have e1:((1:Nat):Int)=1:=rfl
   rw[e1]at i1
   cases w with
   |since =>
    simp only[wd,c2]
    iterate 3 (walk_at"st"; walk_at"wd"; rw[aF])
    walk_at"st"
    rw[i1]
    walk_at"ex"
    cases b' with
    |true=>simpa [fT]using hQ
    |false =>
     simp only[ag,if_false]
     cases m with
     |false=>simpa [fT]using hQ
     |true=>simp only[if_true];rw[i0];simpa [fT]using hQ
   |_=>cases hp
 |_=>cases hp
end
end L3
end
section
namespace L3
open PySem
mutual
theorem LM {st:aB}:∀(a b:D),bH a=true->bT st a b=bK a b
 |.non,b,_=>by cases b<;>simp only[bT,bK]
 |.bl _,b,_=>by cases b<;>simp only[bT,bK]
 |.int _,b,_=>by cases b<;>simp only[bT,bK]
 |.str _,b,_=>by cases b<;>simp only[bT,bK]
 |.tup as,b,h=>by
  cases b with
  |tup bs=>simp only[bT,bK];exact WB as bs (by simpa [bH]using h)
  |_=>simp only[bT,bK]
 |.ref _,_,h=>by simp [bH]at h
 |.dA _ _,_,h=>by simp [bH]at h
 |.bP _,_,h=>by simp [bH]at h
 |.exc _,_,h=>by simp [bH]at h
theorem WB {st:aB}:∀(as bs:List D),bO as=true->jZ st as bs=fM as bs
 |[],[],_=>rfl
 |[],_::_,_=>rfl
 |_::_,[],_=>rfl
 |a::as,b::bs,h=>by
  simp only[bO,ay]at h
  simp only[jZ,fM]
  rw[LM a b h.1,WB as bs h.2]
end
theorem NA (s t:Sy):bK (toD s) (toD t)=decide (s=t):=by rw[<-LM (st:=fun _=>none) _ _ (mK s)];exact qR s t
theorem IA (x:Sy)(f:List Sy):((f.map toD).any fun d=>bK d (toD x))=f.contains x:=by
 rw[<-EZ (st:=fun _=>none),kg,kg]
 congr 1
 funext y
 simp only[Ri]
 rw[LM _ _ (mK y)]
theorem AL:∀ s:Sy,jC (toD s)=true
 |.yes=>rfl
 |.no=>rfl
 |.cF n=>rfl
 |.one w s=>by simp only[toD,jC,jG,AL s,df]
 |.two w s t=>by simp only[toD,jC,jG,AL s,AL t,df]
theorem pH {s:Sy}(h:aK s<=8):keyed (toD s):=by
 have h1:=AL s
 have h2:=qQ s
 obtain⟨r,e⟩:=lF s
 rw[e]at h1 h2 ⊢
 simp only[jC]at h1
 simp only[cL]at h2
 exact⟨h1,by omega⟩
theorem yM {st:aB}{n:List Nat}:∀{names:List (List Nat)},n∈names->findD st (.str n) (names.map .str)=some (names.idxOf n)
 |[],h=>by cases h
 |m::r,h=>by
  simp only[av,findD,iP]
  by_cases e:m=n
  ·subst e;simp [i7]
  ·rw[if_neg (by simpa using e),yM (by simpa [cz e]using h)]
   rw[i7,beq_eq_false_iff_ne.mpr e];rfl
theorem HC {st:aB}{s:Sy}:∀{ps:List Sy},s∈ps->findD st (toD s) (ps.map toD)=some (ps.idxOf s)
 |[],h=>by cases h
 |m::r,h=>by
  simp only[av,findD,qR]
  by_cases e:m=s
  ·subst e;simp [i7]
  ·rw[if_neg (by simpa using e),HC (by simpa [cz e]using h)]
   rw[i7,beq_eq_false_iff_ne.mpr e];rfl
noncomputable def kH (names:List (List Nat))(aJ:List Sy):Sy->D
 |.cF n=>.int (names.idxOf n:Nat)
 |s=>if bN s then .int (aJ.idxOf s:Nat)else .non
noncomputable def lA (aJ:List Sy):Sy->Prop
 |.one w s=>(p1 w=true->Sy.one w s∈aJ)/\lA aJ s
 |.two w s t=>(p2 w=true->Sy.two w s t∈aJ)/\lA aJ s/\lA aJ t
 |_=>True
structure Good (names:List (List Nat))(aJ:List Sy)(s:Sy):Prop where
 ov:over names s
 dp:aK s<=8
 pp:lA aJ s
theorem Good.subs {names:List (List Nat)}{aJ:List Sy}{s t:Sy}(h:Good names aJ s)(ht:t∈subs s):Good names aJ t:=by
 have hd:=CC ht
 have h0:=h.dp
 cases s with
 |one w a =>
 simp only[L3.subs,ah]at ht;subst ht
 exact⟨h.ov,by omega,h.pp.2⟩
 |two w a b =>
 simp only[L3.subs,b9,bp,or_false]at ht
 rcases ht with rfl|rfl
 ·exact⟨h.ov.1,by omega,h.pp.2.1⟩
 ·exact⟨h.ov.2,by omega,h.pp.2.2⟩
 |_=>cases ht
theorem Good.mem {names:List (List Nat)}{aJ:List Sy}{s:Sy}(h:Good names aJ s)(hp:bN s=true):s∈aJ:=by
 cases s with
 |one w a=>exact h.pp.1 hp
 |two w a b=>exact h.pp.1 hp
 |_=>cases hp
noncomputable def Iw (st:aB)(lr:Nat)(names:List (List Nat))(aJ R:List Sy)(j:Nat)(s:Sy)(d:D):Prop:=∃(q:Nat)(is:List Nat),d=.tup [.str (wd s),kH names aJ s,.ref q]/\q≠lr/\st q=some (.lst (is.map fun i=>.int (i:Nat)))/\is.length=(subs s).length /\
 ∀(m i:Nat)(t:Sy),is[m]? = some i->(subs s)[m]? = some t->i<j/\R[i]? = some t
noncomputable def Fl (st:aB)(lr:Nat)(names:List (List Nat))(aJ R:List Sy)(rows:List D):Prop:=rows.length=R.length/\∀ j s d,R[j]? = some s->rows[j]? = some d->Iw st lr names aJ R j s d
noncomputable def tB (n:Nat):List D:=(a9 n).map fun i=>.int (i:Nat)
noncomputable def pI (names:List (List Nat))(lp lr ld:Nat):List (List Nat×D):=[(W "names", .tup (names.map .str)),(W "pieces", .ref lp),(W "rows", .ref lr),(W "row_of", .ref ld)]
structure iX (st:aB)(p lp lr ld:Nat)(names:List (List Nat))(aJ R:List Sy)(xs:List (List Nat×D)):Prop where
 ins:st p=some (.ins (W "Table") (pI names lp lr ld++xs))
 pc:st lp=some (.lst (aJ.map toD))
 rows:∃ rows,st lr=some (.lst rows)/\Fl st lr names aJ R rows
 tab:st ld=some (.tab (R.map toD) (tB R.length))
 ne:lp≠lr
 nd:R.Nodup
 gd:∀ s∈R,Good names aJ s
 len:R.length<=5000
 pd:∀ s∈aJ,aK s<=60
theorem UQ {names:List (List Nat)}{lp lr ld:Nat}{xs:List (List Nat×D)}:bV (pI names lp lr ld++xs) (W "names")=some (.tup (names.map .str)):=by
 simp only[pI,cw,bV];rw[if_pos cv]
theorem zS {names:List (List Nat)}{lp lr ld:Nat}{xs:List (List Nat×D)}:bV (pI names lp lr ld++xs) (W "pieces")=some (.ref lp):=by
 simp only[pI,cw,bV];rw[if_neg (by decide +kernel),if_pos cv]
theorem FL {names:List (List Nat)}{lp lr ld:Nat}{xs:List (List Nat×D)}:bV (pI names lp lr ld++xs) (W "rows")=some (.ref lr):=by
 simp only[pI,cw,bV];rw[if_neg (by decide +kernel),if_neg (by decide +kernel),if_pos cv]
theorem oH {names:List (List Nat)}{lp lr ld:Nat}{xs:List (List Nat×D)}:bV (pI names lp lr ld++xs) (W "row_of")=some (.ref ld):=by
 simp only[pI,cw,bV];rw[if_neg (by decide +kernel),if_neg (by decide +kernel),if_neg (by decide +kernel),if_pos cv]
theorem lL {names:List (List Nat)}{lp lr ld:Nat}{xs:List (List Nat×D)}{f:List Nat}(h1:W "names" ≠ f)(h2:W "pieces" ≠ f)(h3:W "rows" ≠ f)(h4:W "row_of" ≠ f):bV (pI names lp lr ld++xs) f=bV xs f:=by
 simp only[pI,cw,az,bV];rw[if_neg h1,if_neg h2,if_neg h3,if_neg h4]
theorem iX.keep {st aA:aB}{p lp lr ld:Nat}{names:List (List Nat)}{aJ R:List Sy}{xs:List (List Nat×D)}(T:iX st p lp lr ld names aJ R xs)(h:Ext st aA):iX aA p lp lr ld names aJ R xs:=by
 obtain⟨rows,r1,r2,r3⟩:=T.rows
 refine⟨h _ _ T.ins,h _ _ T.pc,⟨rows,h _ _ r1,r2,fun j s d e1 e2=>?_⟩,h _ _ T.tab,T.ne,T.nd,T.gd,T.len,T.pd⟩
 obtain⟨q,is,a1,a2,a3,a4⟩:=r3 j s d e1 e2
 exact⟨q,is,a1,a2,h _ _ a3,a4⟩
theorem K2 {s:Sy}:∀{R:List Sy}{vs:List D}{j:Nat}{d:D},R.Nodup->R[j]? = some s->vs[j]? = some d->vs.length=R.length->kR (R.map toD) vs (toD s)=some d
 |[],_,_,_,_,h,_,_=>by simp at h
 |x::R,[],_,_,_,_,_,h=>by simp at h
 |x::R,v::vs,0,d,nd,h,hv,hl=>by
  simp at h hv
  subst h hv
  simp only[av,kR,NA,decide_true,if_true]
 |x::R,v::vs,j+1,d,nd,h,hv,hl=>by
  simp at h hv hl
  have hx:x≠s:=fun e=>by subst e;exact(List.nodup_cons.mp nd).1 (bf h)
  simp only[av,kR,NA]
  rw[if_neg (by simpa using hx)]
  exact K2 (List.nodup_cons.mp nd).2 h hv hl
theorem MM (n:Nat):(tB n).length=n:=by simp [tB]
theorem RY {n j:Nat}(h:j<n):(tB n)[j]? = some (.int (j:Nat)):=by simp [tB,h]
theorem iX.look {st:aB}{p lp lr ld:Nat}{names:List (List Nat)}{aJ R:List Sy}{xs:List (List Nat×D)}(T:iX st p lp lr ld names aJ R xs){s:Sy}{j:Nat}(h:R[j]? = some s):kR (R.map toD) (tB R.length) (toD s)=some (.int (j:Nat)):=by
 have hj:j<R.length:=by
  by_cases q:j<R.length
  ·exact q
  ·rw[de (by omega)]at h;cases h
 exact K2 T.nd h (RY hj) (MM _)
end L3
end
section
namespace L3
open PySem
noncomputable def pA:Fn:=⟨2,2,[.iff (.cmp .eq (.ix (.v 1) (.c (.int 0))) (.c (.str (W "lamp")))) [.ret (.cB .index (.fld (W "Table") (W "names") (.v 0)) [(.ix (.v 1) (.c (.int 1)))])] [],.iff (.cmp .in_ (.ix (.v 1) (.c (.int 0))) (.c xD)) [.ret (.cB .index (.fld (W "Table") (W "pieces") (.v 0)) [(.v 1)])] [],.ret (.c .non)]⟩
noncomputable def CB:Fn:=⟨2,2,[.iff (.cmp .eq (.ix (.v 1) (.c (.int 0))) (.c (.str (W "before")))) [.ret (.dix (.fld (W "Table") (W "row_of") (.v 0)) (.ix (.v 1) (.c (.int 1))))] [],.ret (.dix (.fld (W "Table") (W "row_of") (.v 0)) (.v 1))]⟩
noncomputable def tS (iph inh:Nat):Fn:=⟨3,8,[.asg (.nm 3) (.lst []),.gR (.tp [4,5,6]) none [(.fld (W "Table") (W "rows") (.v 0))] [.asg (.nm 7) (.comp 1 [3] [0] true none [(.v 6)] [] (.ix (.v 1) (.v 0))),.iff (.cmp .eq (.v 4) (.c (.str (W "lamp")))) [.ex (.cB .append (.v 3) [(.ix (.v 2) (.v 5))])] [.iff (.cmp .in_ (.v 4) (.c xD)) [.ex (.cB .append (.v 3) [(.call iph [(.v 4),(.ix (.v 1) (.v 5)),(.v 7)])])] [.ex (.cB .append (.v 3) [(.call inh [(.v 4),(.v 7)])])]]],.ret (.v 3)]⟩
noncomputable def B7:Fn:=⟨2,2,[.ret (.bi .tuple [(.comp 1 [1] [0] true none [(.fld (W "Table") (W "remembered_rows") (.v 0))] [] (.ix (.v 1) (.v 0)))])]⟩
theorem gE {α:Type}(t:α->D){g:aB->Prop}{turn:D->(St->aB->Prop)->St->aB->Prop}{N:St->aB->Prop}(I:List α->St->aB->Prop)(hg:∀ xs σ st,I xs σ st->g st)
 (ht:∀ x r σ st (M:St->aB->Prop),I (x::r) σ st->(∀ σ' aA,I r σ' aA->M σ' aA)->turn (t x) M σ st)(hN:∀ σ st,I [] σ st->N σ st):∀(xs:List α)(σ:St)(st:aB),I xs σ st->rV g turn N (xs.map t) σ st
 |[],σ,st,h=>⟨hg _ _ _ h,hN _ _ h⟩
 |x::xs,σ,st,h=>⟨hg _ _ _ h,ht x xs σ st _ h fun σ' aA h'=>gE t I hg ht hN xs σ' aA h'⟩
theorem BL {names:List (List Nat)}{aJ:List Sy}{s:Sy}(hl:fK s=false)(hp:bN s=true):kH names aJ s=.int (aJ.idxOf s:Nat):=by
 unfold kH
 split
 ·simp [fK]at hl
 ·rw[if_pos hp]
theorem OL {names:List (List Nat)}{aJ:List Sy}{s:Sy}(hl:fK s=false)(hp:bN s=false):kH names aJ s=.non:=by
 unfold kH
 split
 ·simp [fK]at hl
 ·rw[hp];rfl
section
variable {G:Prog}{k i iph inh:Nat}{st:aB}{Q:VK}{E:XK}{p lp lr ld:Nat}{names:List (List Nat)}{aJ R:List Sy}{xs:List (List Nat×D)}
theorem P5 (h:G.fns i=some pA)(tins:st p=some (.ins (W "Table") (pI names lp lr ld++xs)))(tpc:st lp=some (.lst (aJ.map toD)))(tpd:∀ s∈aJ,aK s<=60){s:Sy}(g:Good names aJ s)(hQ:Q (kH names aJ s) st):aO G (k+1) i [.ref p,toD s] st Q E:=by
 rw[aT h]
 simp only[pA,start]
 refine⟨rfl,?_⟩
 obtain⟨r,er⟩:=lF s
 cases hl:fK s with
 |true =>
  cases s with
  |cF n =>
   simp only[toD]
   walk_at"st"
   rw[if_pos (by decide +kernel)]
   walk_at"st"
   rw[cT tins UQ]
   walk_at"ex"
   rw[tL,uS,vU,uS]
   refine⟨True.intro,wK,kN st names,?_⟩
   rw[yM g.ov,bD]
   exact hQ
  |_=>cases hl
 |false =>
  have h1:(wd s==W "lamp")=false:=by rw[FD];exact hl
  have eP:∀ st:aB,(Qy (lN.map .str) fun d=>bT st d (.str (wd s)))=bN s:=fun st=>(rT (wd s) lN).trans (AK s)
  rw[er]
  walk_at"st"
  rw[if_neg (by rw[h1];exact dr),aF]
  walk_at"st"
  simp only[xD]
  walk_at"ex"
  refine⟨(lS lN).s,?_⟩
  rw[eP st]
  cases hp:bN s with
  |true =>
   simp only[if_true]
   walk_at"st"
   rw[cT tins zS]
   walk_at"ex"
   rw[tL,vN,aE tpc,vU,vN,aE tpc,<-er]
   refine⟨True.intro,zA (by have:=g.dp;omega),xI tpd,?_⟩
   rw[HC (g.mem hp),bD]
   have e:kH names aJ s=.int (aJ.idxOf s:Nat):=BL hl hp
   rw[e]at hQ
   exact hQ
  |false =>
   simp only[ag,if_false,aF]
   walk_at"st"
   have e:kH names aJ s=.non:=OL hl hp
   rw[e]at hQ
   exact hQ
theorem G1 (s:Sy)(hp:bN s=true):(wd s==W "before")=true/\(∃ a,s=.one .before a)∨(wd s==W "before")=false/\lW s=s:=by
 cases s with
 |one w a=>cases w<;>first|exact .inl ⟨by simp only[wd,c1];decide +kernel,a,rfl⟩|exact .inr ⟨by simp only[wd,c1];decide +kernel,rfl⟩|cases hp
 |two w a b=>cases w<;>first|exact .inr ⟨by simp only[wd,c2];decide +kernel,rfl⟩|cases hp
 |_=>cases hp
theorem Cu (h:G.fns i=some CB)(T:iX st p lp lr ld names aJ R xs){s:Sy}(hp:bN s=true)(hd:aK s<=8){j:Nat}(hj:R[j]? = some (lW s))(hQ:Q (.int (j:Nat)) st):aO G (k+1) i [.ref p,toD s] st Q E:=by
 rw[aT h]
 simp only[CB,start]
 refine⟨rfl,?_⟩
 rcases G1 s hp with⟨e1,a,rfl⟩|⟨e1,e2⟩
 ·simp only[toD,c1]
  walk_at"st"
  rw[if_pos (by decide +kernel)]
  walk_at"st"
  rw[cT T.ins oH]
  walk_at"ex"
  simp only[lW]at hj
  simp only[aK]at hd
  rw[AB T.tab (pH (by omega)) (T.look hj)]
  exact hQ
 ·obtain⟨r,er⟩:=lF s
  rw[er]
  walk_at"st"
  rw[if_neg (by rw[e1];exact dr),aF]
  walk_at"st"
  rw[cT T.ins oH]
  walk_at"ex"
  rw[e2]at hj
  rw[<-er,AB T.tab (pH hd) (T.look hj)]
  exact hQ
theorem X5 (h:G.fns i=some (tS iph inh))(hn:G.fns inh=some wQ)(hpa:G.fns iph=some qL)(T:iX st p lp lr ld names aJ R xs){mem set:List Bool}(V:Sy->Bool)
  (v1:∀ n∈names,set[names.idxOf n]? = some (V (.cF n)))(v2:∀ s∈aJ,bN s=true->∃ m,mem[aJ.idxOf s]? = some m/\V s=fT s m ((subs s).map V))(v3:∀ s,bN s=false->fK s=false->V s=pV s ((subs s).map V))
  (hQ:∀ aA q,st q=none->Ext st aA->aA q=some (.lst (R.map fun s=>.bl (V s)))->Q (.ref q) aA):aO G (k+2) i [.ref p,.tup (mem.map .bl),.tup (set.map .bl)] st Q E:=by
 have hL:aZ=16777216:=rfl
 rw[aT h]
 simp only[tS,start]
 refine⟨rfl,?_⟩
 walk_at"st"
 refine bI (by simp) fun q aC x1 hq hq1=>?_
 obtain⟨rows,r1,r2,r3⟩:=T.rows
 have T1:=T.keep x1
 walk_at"st"
 rw[cT T1.ins FL]
 rw[mF,aE (x1 _ _ r1)]
 have ez:rows=(R.zip rows).map Prod.snd:=by rw[List.map_snd_zip (by omega)]
 rw[ez]
 have qlr:q≠lr:=fun z=>by rw[z,r1]at hq;cases hq
 refine gE Prod.snd (I:=fun r σ aA=>∃ j o4 o5 o6 o7,r=(R.zip rows).drop j/\σ=[some (.ref p),some (.tup (mem.map .bl)),some (.tup (set.map .bl)),some (.ref q),o4,o5,o6,o7]/\bC [q] aC aA/\aA q=some (.lst ((R.take j).map fun s=>.bl (V s)))) (fun r σ aA ⟨j,_,_,_,_,_,_,k1,_⟩=>?_) (fun x r σ aA M ⟨j,o4,o5,o6,o7,e1,e2,k1,k2⟩ hM=>?_) (fun σ aA ⟨j,o4,o5,o6,o7,e1,e2,k1,k2⟩=>?_) _ _ _ ⟨0,none,none,none,none,rfl,rfl,.refl,by simpa using hq1⟩
 ·intro a ha
  simp only[ah]at ha
  subst ha
  rw[x1 _ _ r1]
  exact k1 _ _ (by simpa using qlr.symm) (x1 _ _ r1)
 ·-- a row
  have hz:j<(R.zip rows).length:=by
   by_cases z:j<(R.zip rows).length
   ·exact z
   ·rw[fk (by omega)]at e1;cases e1
  have hjR:j<R.length:=by rw[vp]at hz;omega
  have hjr:j<rows.length:=by rw[vp]at hz;omega
  rw[bw hz]at e1
  injection e1 with e3 e4
  have ex:x=(R[j],rows[j]):=by rw[e3];simp
  obtain⟨s,d⟩:=x
  injection ex with es ed
  have hs:R[j]? = some s:=by rw[aj hjR,es]
  have hd:rows[j]? = some d:=by rw[aj hjr,ed]
  obtain⟨qq,is,f1,f2,f3,f4,f5⟩:=r3 j s d hs hd
  have gs:=T.gd s (bf hs)
  have hlR:=T.len
  subst e2
  have qqq:qq≠q:=fun z=>by rw[z,hq]at f3;cases f3
  have f3':aA qq=some (.lst (is.map fun i=>.int (i:Nat))):=k1 _ _ (by simpa using qqq) (x1 _ _ f3)
  have hsub:(subs s).length<=2:=by cases s<;>simp [subs]
  show kQ false [4,5,6] d _ _
  rw[f1]
  walk_at"ex"
  walk_at"st"
  rw[aE f3']
  have hval:∀ i∈is,∃ t,R[i]? = some t/\i<j:=fun i hi=>by
   obtain⟨m,hm⟩:=List.mem_iff_getElem?.mp hi
   have hml:m<(subs s).length:=by
    have:m<is.length:=by
     by_cases z:m<is.length
     ·exact z
     ·rw[de (by omega)]at hm;cases hm
    omega
   obtain⟨a,b⟩:=f5 m i _ hm (aj hml)
   exact⟨_,b,a⟩
  refine gH (fun i:Nat=>D.int (i:Nat)) (fun i=>.bl (V ((R[i]?).getD .yes))) is [] aA (fun aX y a ha=>?_) (fun i hi aX K y1 hK=>?_) (by simp only[ba];omega) fun aG y2=>?_
  ·simp only[ah]at ha
   subst ha
   rw[f3',y _ _ f3']
  ·obtain⟨t,ht,hij⟩:=hval i hi
   show nZ _ _ aX _
   have hlen:i<((R.take j).map fun s=>D.bl (V s)).length:=by simp;omega
   rw[dX (y1 _ _ k2),dR hlen,bc,List.getElem?_take,if_pos hij,ht]
   have:=hK aX .refl
   rw[ht]at this
   exact this
  rw[az]
  have hparts:(is.map fun i=>D.bl (V ((R[i]?).getD .yes)))=((subs s).map V).map .bl:=by
   apply yz
   intro m
   rw[bc,bc,bc]
   cases hm:is[m]? with
   |none =>
    have:is.length<=m:=by
     by_cases z:m<is.length
     ·rw[aj z]at hm;cases hm
     ·omega
    rw[de (by omega)];rfl
   |some i =>
    have hml:m<(subs s).length:=by
     have:m<is.length:=by
      by_cases z:m<is.length
      ·exact z
      ·rw[de (by omega)]at hm;cases hm
     omega
    obtain⟨_,b⟩:=f5 m i _ hm (aj hml)
    rw[aj hml]
    simp only[gu]
    rw[b];rfl
  rw[hparts]
  refine bI (by simp only[aa];omega) fun pp aV y3 hpp qE=>?_
  walk_at"ex"
  have k3:aV q=some (.lst ((R.take j).map fun s=>.bl (V s))):=y3 _ _ (y2 _ _ k2)
  have kk3:bC [q] aC aV:=fun a o na e=>y3 _ _ (y2 _ _ (k1 a o na e))
  have fin:∀(σ':St),(∃ o4 o5 o6 o7,σ'=[some (.ref p),some (.tup (mem.map .bl)),some (.tup (set.map .bl)),some (.ref q),o4,o5,o6,o7])->∀ b,b=V s->M σ' (put aV q (.lst (((R.take j).map fun s=>.bl (V s))++[.bl b]))):=fun σ' ⟨o4,o5,o6,o7,e⟩ b hb=>by
   refine hM σ' _ ⟨j+1,o4,o5,o6,o7,e4,e,fun a o na e=>by rw[aH (by simpa using na)];exact kk3 a o na e,?_⟩
   rw[aN,List.take_succ,hs,hb]
   simp
  have hlq:((R.take j).map fun s=>D.bl (V s)).length<aZ:=by simp;omega
  cases hl:fK s with
  |true =>
   cases s with
   |cF n =>
    simp only[wd]
    walk_at"st"
    rw[if_pos (by decide +kernel)]
    walk_at"st"
    rw[aE k3]
    refine⟨True.intro,?_⟩
    simp only[kH]
    have hv:=v1 n gs.ov
    have hlen:names.idxOf n<(set.map D.bl).length:=by
     rw[aa]
     by_cases z:names.idxOf n<set.length
     ·exact z
     ·rw[de (by omega)]at hv;cases hv
    rw[lK,dR hlen,bc,hv,gu,bD,aE k3]
    refine⟨hlq,?_⟩
    simp only[aF]
    exact fin _ ⟨_,_,_,_,rfl⟩ _ rfl
   |_=>cases hl
  |false =>
   have h1:(wd s==W "lamp")=false:=by rw[FD];exact hl
   have eP:∀ st:aB,(Qy (lN.map .str) fun d=>bT st d (.str (wd s)))=bN s:=fun st=>(rT (wd s) lN).trans (AK s)
   walk_at"st"
   rw[if_neg (by rw[h1];exact dr)]
   walk_at"st"
   simp only[xD]
   walk_at"ex"
   refine⟨(lS lN).s,?_⟩
   rw[eP aV]
   cases hp:bN s with
   |true =>
    simp only[if_true]
    walk_at"st"
    rw[aE k3]
    refine⟨True.intro,?_⟩
    obtain⟨m,hm,hV⟩:=v2 s (gs.mem hp) hp
    have e:kH names aJ s=.int (aJ.idxOf s:Nat):=BL hl hp
    rw[e]
    have hlen:aJ.idxOf s<(mem.map D.bl).length:=by
     rw[aa]
     by_cases z:aJ.idxOf s<mem.length
     ·exact z
     ·rw[de (by omega)]at hm;cases hm
    walk_at"ex"
    (try rw[lK])
    rw[dR hlen,bc,hm,gu,bD]
    refine ZK hpa hp (by simp) qE ?_
    rw[aE k3]
    refine⟨hlq,?_⟩
    simp only[aF]
    exact fin _ ⟨_,_,_,_,rfl⟩ _ hV.symm
   |false =>
    simp only[ag,if_false]
    walk_at"st"
    rw[aE k3]
    refine⟨True.intro,?_⟩
    refine Ae hn hp hl (by simp) qE ?_
    rw[aE k3]
    refine⟨hlq,?_⟩
    simp only[aF]
    exact fin _ ⟨_,_,_,_,rfl⟩ _ (v3 s hp hl).symm
 ·-- the end
  subst e2
  have hj:R.length<=j:=by
   have:(R.zip rows).length<=j:=by
    by_cases z:j<(R.zip rows).length
    ·rw[bw z]at e1;cases e1
    ·omega
   rw[vp]at this;omega
  rw[List.take_of_length_le hj]at k2
  walk_at"st"
  exact hQ aA q hq (fun a o e=>k1 a o (by intro z;simp only[ah]at z;rw[z,hq]at e;cases e) (x1 a o e)) k2
end
end L3
end
section
namespace L3
open PySem
noncomputable def rL (ie iw ipo:Nat):Fn:=⟨2,4,[.iff (.din false (.v 1) (.fld (W "Table") (W "row_of") (.v 0))) [.ret (.c .non)] [],.gR (.nm 2) none [(.call iw [(.v 1)])] [.ex (.mcl (W "Table") (W "enter") ie (.v 0) [(.v 2)])],.asg (.nm 3) (.comp 1 [0] [0] true none [(.call iw [(.v 1)])] [] (.dix (.fld (W "Table") (W "row_of") (.v 1)) (.v 0))),.asg (.dk (.fld (W "Table") (W "row_of") (.v 0)) (.v 1)) (.bi .len [(.fld (W "Table") (W "rows") (.v 0))]),.ex (.cB .append (.fld (W "Table") (W "rows") (.v 0)) [(.tup [(.ix (.v 1) (.c (.int 0))),(.mcl (W "Table") (W "place_of") ipo (.v 0) [(.v 1)]),(.v 3)])])]⟩
theorem iV {α:Type}{xs:List α}{j:Nat}{x:α}(h:xs[j]? = some x):j<xs.length:=by
 by_cases q:j<xs.length
 ·exact q
 ·rw[de (by omega)]at h;cases h
section
variable {G:Prog}{k i ie iw ipo:Nat}{st:aB}{Q:VK}{E:XK}{p lp lr ld lm:Nat}{names:List (List Nat)}{aJ R:List Sy}{xs fs:List (List Nat×D)}
theorem Fv (h:G.fns i=some B7)(ins:st p=some (.ins (W "Table") fs))(hf:bV fs (W "remembered_rows")=some (.ref lm)){js:List Nat}(hlm:st lm=some (.lst (js.map fun j=>.int (j:Nat)))){q:Nat}{V:Sy->Bool}(hq:st q=some (.lst (R.map fun s=>.bl (V s))))(hl:js.length=aJ.length)(hl2:aJ.length<=5000)
  (hj:∀(m j:Nat)(s:Sy),js[m]? = some j->aJ[m]? = some s->R[j]? = some (lW s))(hQ:∀ aA,Ext st aA->Q (.tup (aJ.map fun s=>.bl (V (lW s)))) aA):aO G (k+1) i [.ref p,.ref q] st Q E:=by
 have hL:aZ=16777216:=rfl
 rw[aT h]
 simp only[B7,start]
 refine⟨rfl,?_⟩
 walk_at"st"
 rw[cT ins hf,mF,aE hlm]
 refine gH (fun j:Nat=>D.int (j:Nat)) (fun j=>.bl (V ((R[j]?).getD .yes))) js [] st (fun aX y a ha=>?_) (fun j hjs aX K y1 hK=>?_) (by simp only[ba];omega) fun aG y2=>?_
 ·simp only[ah]at ha
  subst ha
  rw[hlm,y _ _ hlm]
 ·obtain⟨m,hm⟩:=List.mem_iff_getElem?.mp hjs
  have hml:m<aJ.length:=by have:=iV hm;omega
  have ht:=hj m j _ hm (aj hml)
  show nZ _ _ aX _
  have hlen:j<(R.map fun s=>D.bl (V s)).length:=by simpa using iV ht
  rw[dX (y1 _ _ hq),dR hlen,bc,ht]
  have:=hK aX .refl
  rw[ht]at this
  exact this
 rw[az]
 have e:(js.map fun j=>D.bl (V ((R[j]?).getD .yes)))=aJ.map fun s=>.bl (V (lW s)):=by
  apply yz
  intro m
  rw[bc,bc]
  cases hm:js[m]? with
  |none =>
   have:js.length<=m:=by
    by_cases z:m<js.length
    ·rw[aj z]at hm;cases hm
    ·omega
   rw[de (by omega)];rfl
  |some j =>
   have hml:m<aJ.length:=by have:=iV hm;omega
   have ht:=hj m j _ hm (aj hml)
   rw[aj hml]
   simp only[gu]
   rw[ht];rfl
 rw[e]
 refine bI (by simp only[aa];omega) fun pp aV y3 hpp qE=>?_
 walk_at"ex"
 rw[aE qE]
 refine⟨by simp only[aa];omega,hQ aV (y2.trans y3)⟩
theorem UJ (h:G.fns ie=some (rL ie iw ipo))(hw:G.fns iw=some iN)(hpo:G.fns ipo=some pA)(hxe:bV xs (W "enter")=none)(hxp:bV xs (W "place_of")=none):∀(n:Nat){s:Sy}{k:Nat}{st:aB}{Q:VK}{E:XK}{R:List Sy},aK s<=n->iX st p lp lr ld names aJ R xs->Good names aJ s->R.length+sz s<=5000 ->
  (∀ aA R',bC [lr,ld] st aA->iX aA p lp lr ld names aJ R' xs->(∀ x∈R,x∈R')->s∈R'->(∀ x∈R',x∈R∨sz x<=sz s)->R'.length<=R.length+sz s->Q .non aA) ->
  aO G (k+n+2) ie [.ref p,toD s] st Q E:=by
 have hL:aZ=16777216:=rfl
 intro n
 induction n with
 |zero=>intro s k st Q E R hn;cases s<;>simp [aK]at hn
 |succ n ih =>
  intro s k st Q E R hn T g hlen hQ
  rw[aT h]
  simp only[rL,start]
  refine⟨rfl,?_⟩
  have kd:=pH g.dp
  walk_at"st"
  rw[cT T.ins oH,Q7 T.tab kd,IA]
  (try walk_at"ex")
  cases hc:R.contains s with
  |true =>
   simp only[if_true]
   walk_at"st"
   have hs:s∈R:=by simpa using hc
   exact hQ st R .refl T (fun x hx=>hx) hs (fun x hx=>.inl hx) (by omega)
  |false =>
   have hs:s∉R:=by simpa using hc
   simp only[ag,if_false,aF]
   walk_at"st"
   refine sN (k:=k+n+1) hw ?_
   walk_at"ex"
   have hss:=M4 s
   have hsub:(subs s).length<=2:=by cases s<;>simp [subs]
   have hszL:∀(l:List Sy)(t:Sy),t∈l->sz t<=eH l:=fun l=>by
    induction l with
    |nil=>intro t ht;cases ht
    |cons a l ihl =>
     intro t ht
     rw[iB]
     rcases List.mem_cons.mp ht with rfl|ht
     ·omega
     ·have:=ihl t ht;omega
   refine gE toD (I:=fun r σ aA=>∃ R1 o2 dn,subs s=dn++r/\σ=[some (.ref p),some (toD s),o2,none]/\bC [lr,ld] st aA/\iX aA p lp lr ld names aJ R1 xs/\(∀ x∈R,x∈R1)/\(∀ t∈dn,t∈R1)/\(∀ x∈R1,x∈R∨sz x<sz s)/\R1.length<=R.length+eH dn) (fun r σ aA hI a ha=>by cases ha) (fun x r σ aA M ⟨R1,o2,dn,e1,e2,k1,T1,a1,a2,a3,a4⟩ hM=>?_) (fun σ aA ⟨R1,o2,dn,e1,e2,k1,T1,a1,a2,a3,a4⟩=>?_) _ _ _ ⟨R,none,[],rfl,rfl,.refl,T,fun x hx=>hx,fun t ht=>(by cases ht),fun x hx=>.inl hx,by simp [eH]⟩
   ·-- a part
    subst e2
    have hx:x∈subs s:=by rw[e1];simp
    have hxd:=CC hx
    have hdn:eH dn+sz x<=eH (subs s):=by rw[e1,iU,iB];omega
    walk_at"st"
    rw[kZ T1.ins (by rw[lL (by decide +kernel) (by decide +kernel) (by decide +kernel) (by decide +kernel)];exact hxe)]
    refine⟨True.intro,?_⟩
    refine ih (k:=k) (by omega) T1 (g.subs hx) (by omega) fun aG R2 b1 b2 b3 b4 b5 b6=>?_
    rw[aF]
    refine hM _ aG ⟨R2,_,dn++[x],by simp [e1],rfl,k1.trans b1,b2,fun y hy=>b3 y (a1 y hy),fun t ht=>?_,fun y hy=>?_,?_⟩
    ·rcases List.mem_append.mp ht with ht|ht
     ·exact b3 t (a2 t ht)
     ·simp only[ah]at ht;subst ht;exact b4
    ·rcases b5 y hy with hy|hy
     ·exact a3 y hy
     ·exact .inr (by omega)
    ·rw[iU];simp only[iB];simp only[eH,e9,zc]at *;omega
   ·-- the saying itself
    subst e2
    rw[b7]at e1
    subst e1
    have hs1:s∉R1:=fun z=>by
     rcases a3 s z with z|z
     ·exact hs z
     ·omega
    walk_at"st"
    refine sN (k:=k+n+1) hw ?_
    walk_at"ex"
    have hidx:∀ t∈subs s,R1[R1.idxOf t]? = some t:=fun t ht=>by
     have hm:=a2 t ht
     have:=List.idxOf_lt_length_iff.mpr hm
     rw[aj this]
     simp
    refine gH toD (fun t=>.int (R1.idxOf t:Nat)) _ [] aA (fun aX y a ha=>by cases ha) (fun t ht aX K y1 hK=>?_) (by simp only[ba];omega) fun aG y2=>?_
    ·have T'':=T1.keep y1
     show qC _ _ _ aX _
     rw[cT T''.ins oH]
     have gt:=g.subs ht
     show rE _ _ aX _
     rw[AB T''.tab (pH gt.dp) (T''.look (hidx t ht))]
     exact hK aX .refl
    rw[az]
    refine bI (by simp only[aa];omega) fun q aV y3 hq hq3=>?_
    have T3:=T1.keep (y2.trans y3)
    have kk3:bC [lr,ld] st aV:=k1.trans (y2.trans y3).keep
    obtain⟨rows,r1,r2,r3⟩:=T3.rows
    walk_at"ex"
    walk_at"st"
    rw[cT T3.ins FL]
    rw[FC,cN r1]
    rw[cT T3.ins oH]
    have hnew:(((R1.map toD).any fun d=>bK d (toD s))=false):=by rw[IA];simpa using hs1
    have hl1:R1.length<5000:=by omega
    rw[OQ T3.tab kd hnew (by simp;omega)]
    generalize hst4:put aV ld (.tab (R1.map toD++[toD s]) (tB R1.length++[.int (rows.length:Nat)]))=cH
    have lrld:lr≠ld:=fun z=>by rw[z,T3.tab]at r1;cases r1
    have pld:p≠ld:=fun z=>by have:=T3.ins;rw[z,T3.tab]at this;cases this
    have plr:p≠lr:=fun z=>by have:=T3.ins;rw[z,r1]at this;cases this
    have lpld:lp≠ld:=fun z=>by have:=T3.pc;rw[z,T3.tab]at this;cases this
    have ins4:cH p=some (.ins (W "Table") (pI names lp lr ld++xs)):=by rw[<-hst4,aH pld];exact T3.ins
    have lr4:cH lr=some (.lst rows):=by rw[<-hst4,aH lrld];exact r1
    have q4:cH q=some (.lst ((subs s).map fun t=>.int (R1.idxOf t:Nat))):=by
     rw[<-hst4,aH (fun z=>by rw[z,T3.tab]at hq3;cases hq3)];exact hq3
    have tab4:cH ld=some (.tab ((R1++[s]).map toD) (tB (R1++[s]).length)):=by
     rw[<-hst4,aN,r2]
     simp [tB,l4]
    have qlr:q≠lr:=fun z=>by
     rw[z]at hq
     obtain⟨rows',r1',_⟩:=(T1.keep y2).rows
     rw[r1']at hq;cases hq
    walk_at"st"
    rw[cT ins4 FL,vR,aE lr4]
    refine⟨True.intro,?_⟩
    obtain⟨r,er⟩:=lF s
    rw[er]
    walk_at"ex"
    rw[<-er,kZ ins4 (by rw[lL (by decide +kernel) (by decide +kernel) (by decide +kernel) (by decide +kernel)];exact hxp)]
    refine⟨True.intro,?_⟩
    have T4:iX (put cH lr (.lst (rows++[.tup [.str (wd s),kH names aJ s,.ref q]]))) p lp lr ld names aJ (R1++[s]) xs:=by
     have keep4:∀ a o,a≠lr->a≠ld->aV a=some o->(put cH lr (.lst (rows++[.tup [.str (wd s),kH names aJ s,.ref q]]))) a=some o:=fun a o n1 n2 e=>by
      rw[aH n1,<-hst4,aH n2];exact e
     refine⟨keep4 _ _ plr pld T3.ins,keep4 _ _ T3.ne lpld T3.pc,⟨_,aN,by simp [r2],fun j t d ht hd=>?_⟩,?_,T3.ne,?_,?_,by simp;omega,T3.pd⟩
     ·by_cases hj:j<R1.length
      ·rw[bq hj]at ht
       rw[bq (by omega)]at hd
       obtain⟨q',is,c1,c2,c3,c4,c5⟩:=r3 j t d ht hd
       refine⟨q',is,c1,c2,keep4 _ _ c2 (fun z=>by rw[z,T3.tab]at c3;cases c3) c3,c4,fun m i' t' h1 h2=>?_⟩
       obtain⟨d1,d2⟩:=c5 m i' t' h1 h2
       exact⟨d1,by rw[bq (iV d2)];exact d2⟩
      ·have hj2:j=R1.length:=by have:=iV ht;simp at this;omega
       subst hj2
       rw[di (bb _)]at ht
       rw[di (by omega)]at hd
       simp at ht
       simp [r2]at hd
       subst ht hd
       refine⟨q,(subs s).map fun t=>R1.idxOf t,rfl,qlr,?_,by simp,fun m i' t' h1 h2=>?_⟩
       ·rw[aH qlr,q4,vb];rfl
       ·rw[bc,h2]at h1
        simp at h1
        subst h1
        have ht':=bf h2
        have:=hidx t' ht'
        exact⟨iV this,by rw[bq (iV this)];exact this⟩
     ·rw[aH lrld.symm];exact tab4
     ·rw[nq]
      exact⟨T3.nd,by simp,fun a ha b hb=>by simp only[ah]at hb;subst hb;exact fun z=>hs1 (z▸ha)⟩
     ·intro t ht
      rcases List.mem_append.mp ht with ht|ht
      ·exact T3.gd t ht
      ·simp only[ah]at ht;subst ht;exact g
    refine P5 (k:=k+n+1) hpo ins4 (by rw[<-hst4,aH lpld];exact T3.pc) T3.pd g ?_
    rw[aE lr4]
    refine⟨by omega,?_⟩
    simp only[aF]
    refine hQ _ (R1++[s]) (fun a o na e=>?_) T4 (fun x hx=>by simp [a1 x hx]) (by simp) (fun x hx=>?_) (by simp;omega)
    ·simp only[b9,bp,or_false,not_or]at na
     rw[aH na.1,<-hst4,aH na.2]
     exact kk3 a o (by simp [na]) e
    ·rcases List.mem_append.mp hx with hx|hx
     ·rcases a3 x hx with hx|hx
      ·exact .inl hx
      ·exact .inr (by omega)
     ·simp only[ah]at hx;subst hx;exact .inr (bb _)
end
end L3
end
section
namespace L3
open PySem
noncomputable def oE (iz ie irr:Nat):Fn:=⟨3,4,[.asg (.fl (W "Table") (W "names") (.v 0)) (.v 1),.asg (.fl (W "Table") (W "pieces") (.v 0)) (.call iz [(.v 2)]),.asg (.fl (W "Table") (W "rows") (.v 0)) (.lst []),.asg (.fl (W "Table") (W "row_of") (.v 0)) .dnew,.gR (.nm 3) none [(.v 2)] [.ex (.mcl (W "Table") (W "enter") ie (.v 0) [(.v 3)])],.asg (.fl (W "Table") (W "first_memory") (.v 0)) (.bi .tuple [(.comp 1 [] [0] true none [(.fld (W "Table") (W "pieces") (.v 0))] [] (.cmp .eq (.ix (.v 0) (.c (.int 0))) (.c (.str (W "sofar")))))]),.asg (.fl (W "Table") (W "remembered_rows") (.v 0)) (.comp 1 [0] [0] true none [(.fld (W "Table") (W "pieces") (.v 0))] [] (.mcl (W "Table") (W "remembered_row") irr (.v 1) [(.v 0)]))]⟩
theorem J2 {f:List Sy}{s x:Sy}(h:x∈f):x∈cY f s:=by
 unfold cY;split
 ·exact oj _ h
 ·exact h
theorem JP {f:List Sy}{s:Sy}(h:bN s=true):s∈cY f s:=by
 unfold cY
 rw[h]
 cases hc:f.contains s with
 |true=>simpa using hc
 |false=>simp
theorem mS:∀(s:Sy){f:List Sy}{x:Sy},x∈f->x∈aJ s f
 |.yes,_,_,h=>h
 |.no,_,_,h=>h
 |.cF _,_,_,h=>h
 |.one w s,_,_,h=>mS s (J2 h)
 |.two w s t,_,_,h=>mS t (mS s (J2 h))
theorem qY {f g:List Sy}(h:∀ x∈f,x∈g):∀ s:Sy,lA f s->lA g s
 |.yes,_=>trivial
 |.no,_=>trivial
 |.cF _,_=>trivial
 |.one w s,⟨a,b⟩=>⟨fun q=>h _ (a q),qY h s b⟩
 |.two w s t,⟨a,b,c⟩=>⟨fun q=>h _ (a q),qY h s b,qY h t c⟩
theorem C8:∀(s:Sy)(f:List Sy),lA (aJ s f) s
 |.yes,_=>trivial
 |.no,_=>trivial
 |.cF _,_=>trivial
 |.one w s,f=>⟨fun q=>mS s (JP q),C8 s _⟩
 |.two w s t,f=>⟨fun q=>mS t (mS s (JP q)),qY (fun x hx=>mS t hx) s (C8 s _),C8 t _⟩
theorem KR:∀(l:List Sy){f:List Sy}{x:Sy},x∈f->x∈bX l f
 |[],_,_,h=>h
 |s::l,_,_,h=>KR l (mS s h)
theorem ER:∀(l:List Sy)(f:List Sy)(s:Sy),s∈l->lA (bX l f) s
 |[],_,_,h=>by cases h
 |a::l,f,s,h=>by
  rcases List.mem_cons.mp h with rfl|h
  ·exact qY (fun x hx=>KR l hx) s (C8 s f)
  ·exact ER l _ s h
theorem QG {R f:List Sy}{s:Sy}(hf:∀ x∈f,x∈R)(hs:s∈R):∀ x∈cY f s,x∈R:=by
 unfold cY;split
 ·intro x hx
  rcases List.mem_append.mp hx with hx|hx
  ·exact hf x hx
  ·simp only[ah]at hx;subst hx;exact hs
 ·exact hf
theorem HU {R:List Sy}(cl:∀ s∈R,∀ t∈subs s,t∈R):∀(s:Sy){f:List Sy},s∈R->(∀ x∈f,x∈R)->∀ x∈aJ s f,x∈R
 |.yes,_,hs,hf=>hf
 |.no,_,hs,hf=>hf
 |.cF _,_,hs,hf=>hf
 |.one w s,f,hs,hf=>HU cl s (cl _ hs s (by simp [subs])) (QG hf hs)
 |.two w s t,f,hs,hf=>HU cl t (cl _ hs t (by simp [subs])) (HU cl s (cl _ hs s (by simp [subs])) (QG hf hs))
theorem RF {R:List Sy}(cl:∀ s∈R,∀ t∈subs s,t∈R):∀(l f:List Sy),(∀ s∈l,s∈R)->(∀ x∈f,x∈R)->∀ x∈bX l f,x∈R
 |[],_,_,hf=>hf
 |s::l,f,hl,hf=>RF cl l _ (fun t ht=>hl t (by simp [ht])) (HU cl s (hl s (by simp)) hf)
theorem HM {f:List Sy}{s:Sy}(hf:∀ x∈f,bN x=true):∀ x∈cY f s,bN x=true:=by
 unfold cY
 by_cases h:(bN s && !f.contains s)=true
 ·rw[if_pos h]
  simp only[ay]at h
  intro x hx
  rcases List.mem_append.mp hx with hx|hx
  ·exact hf x hx
  ·simp only[ah]at hx;subst hx;exact h.1
 ·rw[if_neg h];exact hf
theorem xA:∀(s:Sy){f:List Sy},(∀ x∈f,bN x=true)->∀ x∈aJ s f,bN x=true
 |.yes,_,hf=>hf
 |.no,_,hf=>hf
 |.cF _,_,hf=>hf
 |.one w s,f,hf=>xA s (HM hf)
 |.two w s t,f,hf=>xA t (xA s (HM hf))
theorem zE:∀(l f:List Sy),(∀ x∈f,bN x=true)->∀ x∈bX l f,bN x=true
 |[],_,hf=>hf
 |s::l,f,hf=>zE l _ (xA s hf)
theorem wI:∀(l:List Sy){f:List Sy}{n:Nat},(∀ x∈f,aK x<=n)->(∀ x∈l,aK x<=n)->∀ x∈bX l f,aK x<=n
 |[],_,_,hf,_=>hf
 |s::l,f,n,hf,hl=>wI l (qO s hf (hl s (by simp))) fun x hx=>hl x (by simp [hx])
theorem J4 (s:Sy):(wd s==W "sofar")=eQ s:=by
 cases s with
 |one w s=>cases w<;>(simp only[wd,eQ,c1];decide +kernel)
 |two w s t=>cases w<;>(simp only[wd,eQ,c2];decide +kernel)
 |_=>(simp only[wd,eQ];decide +kernel)
theorem gL {f:List Nat}{d:D}:∀{fs:List (List Nat×D)},bV fs f=none->rY f d fs=fs++[(f,d)]
 |[],_=>rfl
 |(g,x)::r,h=>by
  simp only[bV]at h
  by_cases q:g=f
  ·rw[if_pos q]at h;cases h
  ·rw[if_neg q]at h
   simp only[rY,if_neg q,gL h,cw]
theorem iX.closed {st:aB}{p lp lr ld:Nat}{names:List (List Nat)}{aJ R:List Sy}{xs:List (List Nat×D)}(T:iX st p lp lr ld names aJ R xs):∀ s∈R,∀ t∈subs s,t∈R:=by
 intro s hs t ht
 obtain⟨rows,_,r2,r3⟩:=T.rows
 obtain⟨j,hj⟩:=List.mem_iff_getElem?.mp hs
 have hjr:j<rows.length:=by have:=iV hj;omega
 obtain⟨q,is,_,_,_,c4,c5⟩:=r3 j s _ hj (aj hjr)
 obtain⟨m,hm⟩:=List.mem_iff_getElem?.mp ht
 have hmi:m<is.length:=by have:=iV hm;omega
 exact bf (c5 m _ t (aj hmi) hm).2
noncomputable def QZ (aJ:List Sy)(lm:Nat):List (List Nat×D):=[(W "first_memory", .tup (aJ.map fun s=>.bl (eQ s))),(W "remembered_rows", .ref lm)]
section
variable {G:Prog}{k i ie iw ipo iz irr iti:Nat}{st:aB}{Q:VK}{E:XK}{p l:Nat}{names:List (List Nat)}{ss:List Sy}
structure Table (st:aB)(p:Nat)(names:List (List Nat))(aJ R:List Sy):Prop where
 h:∃(lp lr ld lm:Nat)(js:List Nat),iX st p lp lr ld names aJ R (QZ aJ lm)/\st lm=some (.lst (js.map fun(j:Nat)=>.int (j:Nat)))/\js.length=aJ.length/\(∀(m j:Nat)(s:Sy),js[m]? = some j->aJ[m]? = some s->R[j]? = some (lW s))/\(∀ s∈aJ,bN s=true)
theorem L9 (h:G.fns iti=some (oE iz ie irr))(hz:G.fns iz=some (lD iw))(he:G.fns ie=some (rL ie iw ipo))(hw:G.fns iw=some iN)(hpo:G.fns ipo=some pA)(hrr:G.fns irr=some CB)(hp:st p=some (.ins (W "Table") []))(hl:st l=some (.lst (ss.map toD)))
  (ho:∀ s∈ss,over names s/\aK s<=8)(hs:eH ss<=5000)(kK:(bX ss []).length<=5000)(hQ:∀ aA R,bC [p] st aA->Table aA p names (bX ss []) R->(∀ s∈ss,s∈R)->Q .non aA):aO G (k+12) iti [.ref p,.tup (names.map .str),.ref l] st Q E:=by
 have hL:aZ=16777216:=rfl
 rw[aT h]
 simp only[oE,start]
 refine⟨rfl,?_⟩
 have pl:p≠l:=fun z=>by rw[z,hl]at hp;cases hp
 walk_at"st"
 rw[lZ hp (by simp)]
 have e1:rY (W "names") (.tup (names.map .str)) []=[(W "names", .tup (names.map .str))]:=rfl
 rw[e1]
 generalize hst1:put st p (.ins (W "Table") [(W "names", .tup (names.map .str))])=aC
 have p1:aC p=some (.ins (W "Table") [(W "names", .tup (names.map .str))]):=by rw[<-hst1,aN]
 have k1:bC [p] st aC:=by rw[<-hst1];exact bC.put (by simp)
 have l1:aC l=some (.lst (ss.map toD)):=k1 _ _ (by simpa using pl.symm) hl
 walk_at"st"
 refine yV (k:=k+9) hz hw l1 (fun x hx=>by have:=(ho x hx).2;omega) (by omega) fun lp aG x2 lp2=>?_
 walk_at"ex"
 rw[lZ (x2 _ _ p1) (by simp),gL (by simp only[bV];rw[if_neg (by decide +kernel)])]
 generalize hst3:put aG p _=aV
 have p3:aV p=some (.ins (W "Table") ([(W "names", .tup (names.map .str))]++[(W "pieces", .ref lp)])):=by rw[<-hst3,aN]
 have k3:bC [p] st aV:=k1.trans (x2.keep.trans (by rw[<-hst3];exact bC.put (by simp)))
 have plp:p≠lp:=fun z=>by rw[<-z,x2 _ _ p1]at lp2;cases lp2
 have lp3:aV lp=some (.lst ((bX ss []).map toD)):=by rw[<-hst3,aH plp.symm];exact lp2
 walk_at"st"
 refine bI (by decide) fun lr cH x4 hlr lr4=>?_
 walk_at"ex"
 rw[lZ (x4 _ _ p3) (by simp),gL (by simp only[cw,az,bV];rw[if_neg (by decide +kernel),if_neg (by decide +kernel)])]
 generalize hst5:put cH p _=cQ
 have plr:p≠lr:=fun z=>by rw[<-z,p3]at hlr;cases hlr
 have lplr:lp≠lr:=fun z=>by rw[<-z,lp3]at hlr;cases hlr
 have llr:l≠lr:=fun z=>by rw[<-z,k3 _ _ (by simpa using pl.symm) hl]at hlr;cases hlr
 have p5:cQ p=some (.ins (W "Table") ([(W "names", .tup (names.map .str))]++[(W "pieces", .ref lp)]++[(W "rows", .ref lr)])):=by rw[<-hst5,aN]
 have k5:bC [p] st cQ:=k3.trans (x4.keep.trans (by rw[<-hst5];exact bC.put (by simp)))
 have lp5:cQ lp=some (.lst ((bX ss []).map toD)):=by rw[<-hst5,aH plp.symm];exact x4 _ _ lp3
 have lr5:cQ lr=some (.lst []):=by rw[<-hst5,aH plr.symm];exact lr4
 walk_at"st"
 intro ld hld
 generalize hst6:put cQ ld (.tab [] [])=fE
 have x6:Ext cQ fE:=by rw[<-hst6];exact Ext.new hld
 have ld6:fE ld=some (.tab [] []):=by rw[<-hst6,aN]
 rw[lZ (x6 _ _ p5) (by simp),gL (by simp only[cw,az,bV];rw[if_neg (by decide +kernel),if_neg (by decide +kernel),if_neg (by decide +kernel)])]
 generalize hst7:put fE p _=qJ
 have pld:p≠ld:=fun z=>by rw[<-z,p5]at hld;cases hld
 have lld:l≠ld:=fun z=>by rw[<-z,k5 _ _ (by simpa using pl.symm) hl]at hld;cases hld
 have p7:qJ p=some (.ins (W "Table") (pI names lp lr ld++[])):=by rw[<-hst7,aN];rfl
 have k7:bC [p] st qJ:=k5.trans (x6.keep.trans (by rw[<-hst7];exact bC.put (by simp)))
 have o7:∀ a o,a≠p->cQ a=some o->qJ a=some o:=fun a o na e=>by rw[<-hst7,aH na];exact x6 _ _ e
 have pd:∀ s∈bX ss [],aK s<=60:=fun s iG=>wI ss (n:=60) (by simp) (fun x hx=>by have:=(ho x hx).2;omega) s iG
 have T7:iX qJ p lp lr ld names (bX ss []) [] []:=⟨p7,o7 _ _ plp.symm lp5,⟨[],o7 _ _ plr.symm lr5,rfl,fun j s d e=>by simp at e⟩,by rw[<-hst7,aH pld.symm];exact ld6,lplr,wy,fun s iG=>(by cases iG),by simp,pd⟩
 have l7:qJ l=some (.lst (ss.map toD)):=k7 _ _ (by simpa using pl.symm) hl
 have hszL:∀(l:List Sy)(t:Sy),t∈l->sz t<=eH l:=fun l=>by
  induction l with
  |nil=>intro t ht;cases ht
  |cons a l ihl =>
   intro t ht
   rw[iB]
   rcases List.mem_cons.mp ht with rfl|ht
   ·omega
   ·have:=ihl t ht;omega
 walk_at"st"
 rw[aE l7]
 refine gE toD (I:=fun r σ aA=>∃ R1 o3 dn,ss=dn++r/\σ=[some (.ref p),some (.tup (names.map .str)),some (.ref l),o3]/\bC [lr,ld] qJ aA/\iX aA p lp lr ld names (bX ss []) R1 []/\(∀ t∈dn,t∈R1)/\R1.length<=eH dn) (fun r σ aA ⟨R1,o3,dn,e1,e2,k1,T1,a2,a4⟩=>?_) (fun x r σ aA M ⟨R1,o3,dn,e1,e2,k1,T1,a2,a4⟩ hM=>?_) (fun σ aA ⟨R1,o3,dn,e1,e2,k1,T1,a2,a4⟩=>?_) _ _ _ ⟨[],none,[],rfl,rfl,.refl,T7,fun t ht=>(by cases ht),by simp [eH]⟩
 ·intro a ha
  simp only[ah]at ha
  subst ha
  rw[l7,k1 _ _ (by simp [llr,lld]) l7]
 ·-- a saying
  subst e2
  have hx:x∈ss:=by rw[e1];simp
  have hdn:eH dn+sz x<=eH ss:=by rw[e1,iU,iB];omega
  walk_at"st"
  rw[kZ T1.ins (by rw[lL (by decide +kernel) (by decide +kernel) (by decide +kernel) (by decide +kernel)];rfl)]
  refine⟨True.intro,?_⟩
  refine UJ (k:=k+1) he hw hpo rfl rfl 8 (ho x hx).2 T1 ⟨(ho x hx).1,(ho x hx).2,ER ss [] x hx⟩ (by omega) fun aG R2 b1 b2 b3 b4 b5 b6=>?_
  rw[aF]
  refine hM _ aG ⟨R2,_,dn++[x],by simp [e1],rfl,k1.trans b1,b2,fun t ht=>?_,?_⟩
  ·rcases List.mem_append.mp ht with ht|ht
   ·exact b3 t (a2 t ht)
   ·simp only[ah]at ht;subst ht;exact b4
  ·rw[iU];simp only[iB];simp only[eH,e9,zc]at *;omega
 ·-- behind them
  subst e2
  rw[b7]at e1
  have qD:∀ s∈ss,s∈R1:=fun s iG=>a2 s (by rw[<-e1];exact iG)
  have kk:bC [p,lr,ld] st aA:=(k7.mono (by simp)).trans (k1.mono (by simp))
  walk_at"st"
  rw[cT T1.ins zS,mF,aE T1.pc]
  refine gH toD (fun s=>.bl (eQ s)) (bX ss []) [] aA (fun aX y a ha=>?_) (fun t ht aX K y1 hK=>?_) (by simp only[ba];omega) fun aG y2=>?_
  ·simp only[ah]at ha
   subst ha
   rw[T1.pc,y _ _ T1.pc]
  ·obtain⟨r,er⟩:=lF t
   rw[er]
   walk_at"ex"
   rw[J4]
   exact hK aX .refl
  rw[az]
  refine bI (by simp only[aa];omega) fun pp aV y3 hpp qE=>?_
  walk_at"ex"
  rw[aE qE]
  refine⟨by simp only[aa];omega,?_⟩
  have T3:=T1.keep (y2.trans y3)
  rw[lZ T3.ins (by simp [pI]),gL (by rw[lL (by decide +kernel) (by decide +kernel) (by decide +kernel) (by decide +kernel)];rfl)]
  generalize hst8:put aV p _=fD
  have nep:∀ a o,a≠p->aV a=some o->fD a=some o:=fun a o na e=>by rw[<-hst8,aH na];exact e
  have lpp:lp≠p:=plp.symm
  have T8:iX fD p lp lr ld names (bX ss []) R1 [(W "first_memory", .tup ((bX ss []).map fun s=>.bl (eQ s)))]:=by
   obtain⟨rows,r1,r2,r3⟩:=T3.rows
   refine⟨by rw[<-hst8,aN,ni];rfl,nep _ _ lpp T3.pc,⟨rows,nep _ _ plr.symm r1,r2,fun j s d h1 h2=>?_⟩,nep _ _ pld.symm T3.tab,T3.ne,T3.nd,T3.gd,T3.len,T3.pd⟩
   obtain⟨q,is,c1,c2,c3,c4⟩:=r3 j s d h1 h2
   exact⟨q,is,c1,c2,nep _ _ (fun z=>by rw[z,T3.ins]at c3;cases c3) c3,c4⟩
  have cl:=T8.closed
  have hin:∀ s∈bX ss [],lW s∈R1:=fun s iG=>by
   have h1:=RF cl ss [] qD (fun x hx=>by cases hx) s iG
   cases s with
   |one w a =>
    cases w with
    |before=>exact cl _ h1 a (by simp [subs])
    |_=>exact h1
   |_=>exact h1
  have hpast:=zE ss [] (fun x hx=>by cases hx)
  walk_at"st"
  rw[cT T8.ins zS,mF,aE T8.pc]
  refine gH toD (fun s=>.int (R1.idxOf (lW s):Nat)) (bX ss []) [] fD (fun aX y a ha=>?_) (fun t ht aX K y1 hK=>?_) (by simp only[ba];omega) fun kT y9=>?_
  ·simp only[ah]at ha
   subst ha
   rw[T8.pc,y _ _ T8.pc]
  ·have T'':=T8.keep y1
   walk_at"ex"
   rw[kZ T''.ins (by rw[lL (by decide +kernel) (by decide +kernel) (by decide +kernel) (by decide +kernel)];simp only[bV];rw[if_neg (by decide +kernel)])]
   refine⟨True.intro,?_⟩
   have dP:=List.idxOf_lt_length_iff.mpr (hin t ht)
   have hd8:aK t<=8:=wI ss (n:=8) (by simp) (fun x hx=>(ho x hx).2) t ht
   refine Cu (k:=k+10) hrr T'' (hpast t ht) hd8 (j:=R1.idxOf (lW t)) (by rw[aj dP];simp) ?_
   exact hK aX .refl
  rw[az]
  refine bI (by simp only[aa];omega) fun lm LR y10 hlm hlm10=>?_
  walk_at"ex"
  have T10:=T8.keep (y9.trans y10)
  rw[lZ T10.ins (by simp [pI]),gL (by rw[lL (by decide +kernel) (by decide +kernel) (by decide +kernel) (by decide +kernel)];simp only[bV];rw[if_neg (by decide +kernel)])]
  simp only[aF]
  generalize hst11:put LR p _=FO
  have nep2:∀ a o,a≠p->LR a=some o->FO a=some o:=fun a o na e=>by rw[<-hst11,aH na];exact e
  refine hQ FO R1 (fun a o na e=>?_) ⟨lp,lr,ld,lm,(bX ss []).map fun s=>R1.idxOf (lW s),?_,?_,by simp,fun m j s h1 h2=>?_,hpast⟩ qD
  ·simp only[ah]at na
   have h7:=k7 a o (by simpa using na) e
   have alr:a≠lr:=fun z=>by rw[<-z,k3 a o (by simpa using na) e]at hlr;cases hlr
   have ald:a≠ld:=fun z=>by rw[<-z,k5 a o (by simpa using na) e]at hld;cases hld
   exact nep2 a o na ((y9.trans y10) _ _ (nep a o na ((y2.trans y3) _ _ (k1 a o (by simp [alr,ald]) h7))))
  ·obtain⟨rows,r1,r2,r3⟩:=T10.rows
   refine⟨by rw[<-hst11,aN,ni];rfl,nep2 _ _ lpp T10.pc,⟨rows,nep2 _ _ plr.symm r1,r2,fun j s d h1 h2=>?_⟩,nep2 _ _ pld.symm T10.tab,T10.ne,T10.nd,T10.gd,T10.len,T10.pd⟩
   obtain⟨q,is,c1,c2,c3,c4⟩:=r3 j s d h1 h2
   exact⟨q,is,c1,c2,nep2 _ _ (fun z=>by rw[z,T10.ins]at c3;cases c3) c3,c4⟩
  ·rw[nep2 _ _ (fun z=>by rw[z,(T8.keep y9).ins]at hlm;cases hlm) hlm10,vb];rfl
  ·rw[bc,h2]at h1
   simp at h1
   subst h1
   have dP:=List.idxOf_lt_length_iff.mpr (hin s (bf h2))
   rw[aj dP];simp
end
end L3
end
section
namespace L3
open PySem
noncomputable def yT (iti io:Nat):Fn:=⟨2,2,[.asg (.fl (W "Rules") (W "table") (.v 0)) (.mk (W "Table") iti [(.bin .add (.ix (.v 1) (.c (.int 0))) (.ix (.v 1) (.c (.int 1)))),(.call io [(.ix (.v 1) (.c (.int 2))),(.ix (.v 1) (.c (.int 3))),(.ix (.v 1) (.c (.int 4)))])]),.asg (.fl (W "Rules") (W "promise_rows") (.v 0)) (.comp 1 [0] [0] true none [(.ix (.v 1) (.c (.int 2)))] [] (.dix (.fld (W "Table") (W "row_of") (.fld (W "Rules") (W "table") (.v 1))) (.v 0))),.asg (.fl (W "Rules") (W "must_rows") (.v 0)) (.comp 1 [0] [0] true none [(.ix (.v 1) (.c (.int 3)))] [] (.dix (.fld (W "Table") (W "row_of") (.fld (W "Rules") (W "table") (.v 1))) (.v 0))),.asg (.fl (W "Rules") (W "priced_rows") (.v 0)) (.comp 1 [0] [0] true none [(.ix (.v 1) (.c (.int 4)))] [] (.tup [(.ix (.v 0) (.c (.int 0))),(.dix (.fld (W "Table") (W "row_of") (.fld (W "Rules") (W "table") (.v 1))) (.ix (.v 0) (.c (.int 1))))]))]⟩
noncomputable def rQ (ibk:Nat):Fn:=⟨1,1,[.iff (.not_ (.call ibk [(.v 0)])) [.rais 2 [(.c (.str (W "no book")))]] [],.ret (.v 0)]⟩
theorem Table.keep {st aA:aB}{p:Nat}{names:List (List Nat)}{aJ R:List Sy}(T:Table st p names aJ R)(h:Ext st aA):Table aA p names aJ R:=by
 obtain⟨lp,lr,ld,lm,js,a,b,c⟩:=T.h
 exact⟨lp,lr,ld,lm,js,a.keep h,h _ _ b,c⟩
theorem Table.set {st:aB}{p r:Nat}{names:List (List Nat)}{aJ R:List Sy}{fs:List (List Nat×D)}{o:MO}(T:Table st p names aJ R)(hr:st r=some (.ins (W "Rules") fs)):Table (put st r o) p names aJ R:=by
 obtain⟨lp,lr,ld,lm,js,a,b',c⟩:=T.h
 have nr:∀ a u,st a=some u->u≠.ins (W "Rules") fs->put st r o a=some u:=fun a u e n=>by rw[aH (fun z=>n (by rw[z,hr]at e;cases e;rfl))];exact e
 have hc:W "Table" ≠ W "Rules":=by decide +kernel
 obtain⟨rows,r1,r2',r3⟩:=a.rows
 refine⟨lp,lr,ld,lm,js,⟨nr _ _ a.ins (fun z=>by injection z with z1;exact hc z1),nr _ _ a.pc (fun z=>nomatch z),⟨rows,nr _ _ r1 (fun z=>nomatch z),r2',fun j s d h1 h2=>?_⟩,nr _ _ a.tab (fun z=>nomatch z),a.ne,a.nd,a.gd,a.len,a.pd⟩,nr _ _ b' (fun z=>nomatch z),c⟩
 obtain⟨q,is,c1,c2,c3,c4⟩:=r3 j s d h1 h2
 exact⟨q,is,c1,c2,nr _ _ c3 (fun z=>nomatch z),c4⟩
theorem Table.row {st:aB}{p:Nat}{names:List (List Nat)}{aJ R:List Sy}(T:Table st p names aJ R):∃ ld fs,st p=some (.ins (W "Table") fs)/\bV fs (W "row_of")=some (.ref ld)/\st ld=some (.tab (R.map toD) (tB R.length))/\∀ s∈R,aK s<=8/\kR (R.map toD) (tB R.length) (toD s)=some (.int (R.idxOf s:Nat)):=by
 obtain⟨lp,lr,ld,lm,js,a,b,c⟩:=T.h
 refine⟨ld,_,a.ins,oH,a.tab,fun s hs=>⟨(a.gd s hs).dp,?_⟩⟩
 have dP:=List.idxOf_lt_length_iff.mpr hs
 exact a.look (by rw[aj dP];simp)
noncomputable def sR (p l1 l2 l3:Nat):List (List Nat×D):=[(W "table", .ref p),(W "promise_rows", .ref l1),(W "must_rows", .ref l2),(W "priced_rows", .ref l3)]
structure iO (st:aB)(r p l1 l2 l3:Nat)(b:Bk)(R:List Sy):Prop where
 ins:st r=some (.ins (W "Rules") (sR p l1 l2 l3))
 tab:Table st p b.names (bX b.says []) R
 pr:st l1=some (.lst (b.ps.map fun s=>.int (R.idxOf s:Nat)))
 mu:st l2=some (.lst (b.ms.map fun s=>.int (R.idxOf s:Nat)))
 wi:st l3=some (.lst (b.ws.map fun w=>.tup [.int w.1,.int (R.idxOf w.2:Nat)]))
 all:∀ s∈b.says,s∈R
theorem iO.keep {st aA:aB}{r p l1 l2 l3:Nat}{b:Bk}{R:List Sy}(T:iO st r p l1 l2 l3 b R)(h:Ext st aA):iO aA r p l1 l2 l3 b R:=⟨h _ _ T.ins,T.tab.keep h,h _ _ T.pr,h _ _ T.mu,h _ _ T.wi,T.all⟩
section
variable {G:Prog}{k i ie iw ipo iz irr iti io r:Nat}{st:aB}{Q:VK}{E:XK}{b:Bk}
theorem qP (B:b.Ok):∀ s∈b.says,over b.names s/\aK s<=8:=by
 intro s hs
 simp only[Bk.says,l5,p9]at hs
 rcases hs with(hs|hs)|⟨w,hw,rfl⟩
 ·exact B.p2 s hs
 ·exact B.m2 s hs
 ·exact⟨(B.w3 w hw).2.2.1,(B.w3 w hw).2.2.2⟩
theorem VE (h:G.fns i=some (yT iti io))(ht:G.fns iti=some (oE iz ie irr))(hz:G.fns iz=some (lD iw))(he:G.fns ie=some (rL ie iw ipo))(hw:G.fns iw=some iN)(hpo:G.fns ipo=some pA)(hrr:G.fns irr=some CB)(hio:G.fns io=some uQ)
  (B:b.Ok)(hs:eH b.says<=5000)(kK:(bX b.says []).length<=5000)(hr:st r=some (.ins (W "Rules") []))(hQ:∀ aA p l1 l2 l3 R,bC [r] st aA->iO aA r p l1 l2 l3 b R->Q .non aA):aO G (k+13) i [.ref r,b.d] st Q E:=by
 have hL:aZ=16777216:=rfl
 have f2:=B.f2
 have g2:=B.g2
 have p1:=B.p1
 have m1:=B.m1
 have w2:=B.w2
 have e2:bV (sR 0 0 0 0) (W "table")=some (.ref 0):=by simp only[sR,bV];rw[if_pos cv]
 rw[aT h]
 simp only[yT,start]
 refine⟨rfl,?_⟩
 have hd:b.d=.tup [.tup (b.fs.map .str),.tup (b.gs.map .str),.tup (b.ps.map toD),.tup (b.ms.map toD),.tup (b.ws.map fun w=>.tup [.int w.1,toD w.2])]:=rfl
 rw[hd]
 walk_at"st"
 refine⟨by simp only[aa];omega,?_⟩
 refine GV (k:=k+11) hio (by omega) (by omega) (by omega) fun l aC x1 l1=>?_
 intro p hp
 have l1':aC l=some (.lst (b.says.map toD)):=by rw[l1];simp [Bk.says]
 have lp:l≠p:=fun z=>by rw[z,hp]at l1;cases l1
 have rp:r≠p:=fun z=>by rw[<-z,x1 _ _ hr]at hp;cases hp
 have en:(b.fs.map D.str++b.gs.map D.str)=b.names.map .str:=by simp [Bk.names]
 rw[en]
 refine L9 (k:=k) ht hz he hw hpo hrr aN (by rw[aH lp];exact l1') (qP B) hs kK fun aG R k2 T2 qD=>⟨rfl,?_⟩
 have kk2:Ext aC aG:=fun a o e=>k2 a o (by intro z;simp only[ah]at z;rw[z,hp]at e;cases e) (AX hp e)
 have r2:aG r=some (.ins (W "Rules") []):=kk2 _ _ (x1 _ _ hr)
 walk_at"ex"
 rw[lZ r2 (by simp),gL rfl]
 generalize hst3:put aG r _=aV
 have T2':=T2
 have ne3:∀ a o,a≠r->aG a=some o->aV a=some o:=fun a o na e=>by rw[<-hst3,aH na];exact e
 have T3:Table aV p b.names (bX b.says []) R:=by rw[<-hst3];exact T2.set r2
 have r3:aV r=some (.ins (W "Rules") ([]++[(W "table", .ref p)])):=by rw[<-hst3,aN]
 have kk3:bC [r] st aV:=x1.keep.trans (kk2.keep.trans (by rw[<-hst3];exact bC.put (by simp)))
 have look:∀{cH:aB}{fs:List (List Nat×D)}{s:Sy}{Q':VK},Table cH p b.names (bX b.says []) R->cH r=some (.ins (W "Rules") fs)->bV fs (W "table")=some (.ref p)->s∈R->Q' (.int (R.idxOf s:Nat)) cH ->
   qC (W "Rules") (W "table") (.ref r) cH fun x aC=>qC (W "Table") (W "row_of") x aC fun y aG=>rE (toD s) y aG Q':=by
  intro cH fs s Q' T4 r4 hf hsR hq
  obtain⟨ld,fs',a1,a2,a3,a4⟩:=T4.row
  rw[cT r4 hf,cT a1 a2,AB a3 (pH (a4 s hsR).1) (a4 s hsR).2]
  exact hq
 walk_at"st"
 refine gH toD (fun s=>.int (R.idxOf s:Nat)) b.ps [] aV (fun aX y a ha=>by cases ha) (fun t ht aX K y1 hK=>?_) (by simp only[ba];omega) fun cH y4=>?_
 ·exact look (T3.keep y1) (y1 _ _ r3) (by simp only[az,bV];rw[if_pos cv]) (qD t (by simp [Bk.says,ht])) (hK aX .refl)
 rw[az]
 refine bI (by simp only[aa];omega) fun l1 cQ y5 hl1 l15=>?_
 walk_at"ex"
 have y35:=y4.trans y5
 rw[lZ (y35 _ _ r3) (by simp),gL (by simp only[az,bV];rw[if_neg (by decide +kernel)])]
 generalize hst6:put cQ r _=fE
 have T6:Table fE p b.names (bX b.says []) R:=by rw[<-hst6];exact(T3.keep y35).set (y35 _ _ r3)
 have r6:fE r=some (.ins (W "Rules") ([]++[(W "table", .ref p)]++[(W "promise_rows", .ref l1)])):=by rw[<-hst6,aN]
 have n6:∀ a o,a≠r->cQ a=some o->fE a=some o:=fun a o na e=>by rw[<-hst6,aH na];exact e
 have l1r:l1≠r:=fun z=>by rw[z,y4 _ _ r3]at hl1;cases hl1
 have l16:=n6 _ _ l1r l15
 have kk6:bC [r] st fE:=kk3.trans (y35.keep.trans (by rw[<-hst6];exact bC.put (by simp)))
 walk_at"st"
 refine gH toD (fun s=>.int (R.idxOf s:Nat)) b.ms [] fE (fun aX y a ha=>by cases ha) (fun t ht aX K y1 hK=>?_) (by simp only[ba];omega) fun qJ y7=>?_
 ·exact look (T6.keep y1) (y1 _ _ r6) (by simp only[az,cw,bV];rw[if_pos cv]) (qD t (by simp [Bk.says,ht])) (hK aX .refl)
 rw[az]
 refine bI (by simp only[aa];omega) fun l2 fD y8 hl2 l28=>?_
 walk_at"ex"
 have y68:=y7.trans y8
 rw[lZ (y68 _ _ r6) (by simp),gL (by simp only[az,cw,bV];rw[if_neg (by decide +kernel),if_neg (by decide +kernel)])]
 generalize hst9:put fD r _=kT
 have T9:Table kT p b.names (bX b.says []) R:=by rw[<-hst9];exact(T6.keep y68).set (y68 _ _ r6)
 have r9:kT r=some (.ins (W "Rules") ([]++[(W "table", .ref p)]++[(W "promise_rows", .ref l1)]++[(W "must_rows", .ref l2)])):=by rw[<-hst9,aN]
 have n9:∀ a o,a≠r->fD a=some o->kT a=some o:=fun a o na e=>by rw[<-hst9,aH na];exact e
 have l2r:l2≠r:=fun z=>by rw[z,y7 _ _ r6]at hl2;cases hl2
 have l29:=n9 _ _ l2r l28
 have l19:=n9 _ _ l1r (y68 _ _ l16)
 have kk9:bC [r] st kT:=kk6.trans (y68.keep.trans (by rw[<-hst9];exact bC.put (by simp)))
 walk_at"st"
 refine gH (fun w:Int×Sy=>D.tup [.int w.1,toD w.2]) (fun w=>.tup [.int w.1,.int (R.idxOf w.2:Nat)]) b.ws [] kT (fun aX y a ha=>by cases ha) (fun t ht aX K y1 hK=>?_) (by simp only[ba];omega) fun LR y10=>?_
 ·refine look (s:=t.2) (T9.keep y1) (y1 _ _ r9) (by simp only[az,cw,bV];rw[if_pos cv]) (qD t.2 (by simp only[Bk.says,l5,p9];exact .inr ⟨t,ht,rfl⟩)) ?_
  exact hK aX .refl
 rw[az]
 refine bI (by simp only[aa];omega) fun l3 FO y11 hl3 l311=>?_
 walk_at"ex"
 have y911:=y10.trans y11
 rw[lZ (y911 _ _ r9) (by simp),gL (by simp only[az,cw,bV];rw[if_neg (by decide +kernel),if_neg (by decide +kernel),if_neg (by decide +kernel)])]
 simp only[aF]
 generalize hst12:put FO r _=PB
 have n12:∀ a o,a≠r->FO a=some o->PB a=some o:=fun a o na e=>by rw[<-hst12,aH na];exact e
 have l3r:l3≠r:=fun z=>by rw[z,y10 _ _ r9]at hl3;cases hl3
 refine hQ PB p l1 l2 l3 R (kk9.trans (y911.keep.trans (by rw[<-hst12];exact bC.put (by simp)))) ⟨by rw[<-hst12,aN];rfl,by rw[<-hst12];exact(T9.keep y911).set (y911 _ _ r9),n12 _ _ l1r (y911 _ _ l19),n12 _ _ l2r (y911 _ _ l29),n12 _ _ l3r l311,qD⟩
end
end L3
end
section
namespace L3
open PySem
noncomputable def aM (bs:List Bool):D:=.tup (bs.map .bl)
noncomputable def NM (G:Prog)(ibk kb:Nat)(b:Bk):Prop:=∀(k:Nat)(st:aB)(Q:VK)(E:XK),(∀ aA,Ext st aA->Q (.bl true) aA)->aO G (k+kb) ibk [b.d] st Q E
section
variable {G:Prog}{k i ibk kb ich icp ist ie iw ipo iz irr iti io iri ima kU iph inh:Nat}{st:aB}{Q:VK}{E:XK}{b:Bk}
theorem O5 (h:G.fns ich=some (rQ ibk))(hb:NM G ibk kb b)(hQ:∀ aA,Ext st aA->Q b.d aA):aO G (k+kb+1) ich [b.d] st Q E:=by
 rw[aT h]
 simp only[rQ,start]
 refine⟨rfl,?_⟩
 walk_at"st"
 refine hb k _ _ _ fun aC x1=>?_
 walk_at"ex"
 simp only[aF]
 walk_at"st"
 exact hQ aC x1
end
end L3
end
section
namespace L3
open PySem
local macro_rules|`(tactic| walk_at"wd")=>`(tactic| (first|rw[if_pos (by decide +kernel)]|rw[if_neg (by decide +kernel)]))
noncomputable def nQ (ih:Nat):Fn:=⟨4,8,[.asg (.nm 4) (.ix (.v 1) (.c (.int 0))),.iff (.cmp .eq (.v 4) (.c (.str (W "lamp")))) [.ret (.ix (.ix (.v 2) (.v 3)) (.cB .index (.v 0) [(.ix (.v 1) (.c (.int 1)))]))] [],.iff (.or_ (.cmp .eq (.v 4) (.c (.str (W "yes")))) (.cmp .eq (.v 4) (.c (.str (W "no"))))) [.ret (.cmp .eq (.v 4) (.c (.str (W "yes"))))] [],.iff (.cmp .eq (.v 4) (.c (.str (W "before")))) [.ret (.and_ (.cmp .gt (.v 3) (.c (.int 0))) (.call ih [(.v 0),(.ix (.v 1) (.c (.int 1))),(.v 2),(.bin .sub (.v 3) (.c (.int 1)))]))] [],.iff (.cmp .eq (.v 4) (.c (.str (W "once")))) [.ret (.cmp .ne (.comp 1 [0,1,2] [0] true (some .range) [(.bin .add (.v 3) (.c (.int 1)))] [(.call ih [(.v 1),(.ix (.v 2) (.c (.int 1))),(.v 3),(.v 0)])] (.v 0)) (.lst []))] [],.iff (.cmp .eq (.v 4) (.c (.str (W "sofar")))) [.ret (.cmp .eq (.comp 1 [0,1,2] [0] true (some .range) [(.bin .add (.v 3) (.c (.int 1)))] [(.not_ (.call ih [(.v 1),(.ix (.v 2) (.c (.int 1))),(.v 3),(.v 0)]))] (.v 0)) (.lst []))] [],.iff (.cmp .eq (.v 4) (.c (.str (W "since")))) [.gR (.nm 5) (some .range) [(.v 3),(.neg (.c (.int 1))),(.neg (.c (.int 1)))] [.iff (.call ih [(.v 0),(.ix (.v 1) (.c (.int 2))),(.v 2),(.v 5)]) [.ret (.c (.bl true))] [],.iff (.not_ (.call ih [(.v 0),(.ix (.v 1) (.c (.int 1))),(.v 2),(.v 5)])) [.ret (.c (.bl false))] []],.ret (.c (.bl false))] [],.asg (.nm 6) (.call ih [(.v 0),(.ix (.v 1) (.c (.int 1))),(.v 2),(.v 3)]),.iff (.cmp .eq (.v 4) (.c (.str (W "not")))) [.ret (.not_ (.v 6))] [],.asg (.nm 7) (.call ih [(.v 0),(.ix (.v 1) (.c (.int 2))),(.v 2),(.v 3)]),.iff (.cmp .eq (.v 4) (.c (.str (W "and")))) [.ret (.and_ (.v 6) (.v 7))] [],.iff (.cmp .eq (.v 4) (.c (.str (W "or")))) [.ret (.or_ (.v 6) (.v 7))] [],.iff (.cmp .eq (.v 4) (.c (.str (W "then")))) [.ret (.or_ (.v 7) (.not_ (.v 6)))] [],.ret (.cmp .eq (.v 6) (.v 7))]⟩
theorem jT {α:Type}{g:aB->Prop}{turn:D->aB->(Option D->aB->Prop)->Prop}{R:List D->aB->Prop}(t:α->D)(f:α->Option D):∀(xs:List α)(acc:List D)(st:aB),
  (∀ aA,Ext st aA->g aA)->(∀ x∈xs,∀ aA (K:Option D->aB->Prop),Ext st aA->(∀ aX,Ext aA aX->K (f x) aX)->turn (t x) aA K) ->
  acc.length+xs.length<=aZ->(∀ aA,Ext st aA->R (acc++xs.filterMap f) aA)->jQ g turn (xs.map t) acc st R
 |[],acc,st,hg,_,_,hR=>⟨hg st .refl,by simpa using hR st .refl⟩
 |x::xs,acc,st,hg,ht,hl,hR=>by
  simp only[be]at hl
  refine⟨hg st .refl,by omega,ht x (by simp) st _ .refl fun aX h''=>?_⟩
  cases hf:f x with
  |none =>
   exact jT t f xs acc aX (fun aA h=>hg aA (h''.trans h)) (fun y hy aA K h=>ht y (by simp [hy]) aA K (h''.trans h)) (by omega) fun aA h=>by simpa [hf]using hR aA (h''.trans h)
  |some d =>
   exact jT t f xs (acc++[d]) aX (fun aA h=>hg aA (h''.trans h)) (fun y hy aA K h=>ht y (by simp [hy]) aA K (h''.trans h)) (by simp only[bh,be,ba];omega) fun aA h=>by simpa [hf]using hR aA (h''.trans h)
theorem D2:∀ is:List Int,bO (is.map .int)=true
 |[]=>rfl
 |i::is=>by simp only[av,bO,bH,D2 is,df]
theorem HD:∀ is:List Int,cI (is.map .int)=0
 |[]=>rfl
 |i::is=>by simp only[av,cI,cL,HD is];rfl
theorem iT {st:aB}{p:Nat}{is:List Int}(h:st p=some (.lst (is.map .int))):plainS st (.ref p):=by
 refine⟨?_,cu _⟩
 simp only[fH,h,JK,D2,HD];rfl
theorem eq_nil {st:aB}{p q:Nat}{xs:List D}(h:st p=some (.lst xs))(h':st q=some (.lst [])):bT st (.ref p) (.ref q)=xs.isEmpty:=by
 simp only[bT,h,h',DI]
 cases xs<;>rfl
theorem K8 (f:Nat->Bool)(n:Nat):((a9 n).filterMap fun k=>if f k=true then some (D.int (k:Nat))else none)=(((a9 n).filter f).map fun(k:Nat)=>(k:Int)).map .int:=by
 generalize a9 n=l
 induction l with
 |nil=>rfl
 |cons a l ih =>
 by_cases h:f a=true
 ·simp only[eh,h,if_true,gb,av,ih]
 ·simp only[eh,h,gb,ih];simp [h]
theorem HB (f:Nat->Bool)(l:List Nat):((((l.filter f).map fun(k:Nat)=>(k:Int)).map D.int).isEmpty) = !l.any f:=by
 induction l with
 |nil=>rfl
 |cons a l ih =>
 by_cases h:f a=true
 ·simp [h]
 ·simp only[gb,h,jk];simp [h]at ih ⊢;exact ih
theorem pK (n:Nat):iY 0 n=(a9 n).map fun k=>D.int (k:Nat):=by
 unfold iY;congr 1;funext k;simp
section
variable {G:Prog}{ih l:Nat}{names:List (List Nat)}{bA:List (List Bool)}
theorem wJ (h:G.fns ih=some (nQ ih))(hp:∀ bs∈bA,bs.length=names.length)(dB:bA.length<=1000):∀(n:Nat){s:Sy}{k t:Nat}{st:aB}{Q:VK}{E:XK},aK s<=n->over names s->t<bA.length->st l=some (.lst (bA.map aM)) ->
  (∀ aA,Ext st aA->Q (.bl (hv names bA s t)) aA)->aO G (k+n) ih [.tup (names.map .str),toD s,.ref l,.int t] st Q E:=by
 have hL:aZ=16777216:=rfl
 intro n
 induction n with
 |zero=>intro s k t st Q E hn;cases s<;>simp [aK]at hn
 |succ n ih' =>
  intro s k t st Q E hn ho ht hl hQ
  rw[show k+(n+1)=(k+n)+1 from rfl,aT h]
  simp only[nQ,start]
  refine⟨rfl,?_⟩
  cases s with
  |yes =>
   simp only[toD]
   walk_at"st"
   walk_at"st"; walk_at"wd"; rw[aF]
   walk_at"st"; walk_at"wd"
   have e:(W "yes" == W "yes")=true:=by decide +kernel
   simp only[e,if_true]
   walk_at"st"
   rw[e]
   exact hQ st .refl
  |no =>
   simp only[toD]
   walk_at"st"
   walk_at"st"; walk_at"wd"; rw[aF]
   walk_at"st"; walk_at"wd"
   have e:(W "no" == W "no")=true:=by decide +kernel
   simp only[e,if_true]
   walk_at"st"
   have e:(W "no" == W "yes")=false:=by decide +kernel
   rw[e]
   exact hQ st .refl
  |cF m =>
   simp only[toD]
   walk_at"st"
   walk_at"st"; walk_at"wd"
   walk_at"st"
   have hx:=aj ht
   rw[dX hl,dR (by simpa using ht),bc,hx,gu,bD]
   walk_at"ex"
   rw[tL,uS,vU,uS]
   refine⟨True.intro,wK,kN st names,?_⟩
   rw[yM ho,bD]
   have hlen:=hp _ (bf hx)
   have dP:names.idxOf m<(bA[t]).length:=by rw[hlen];exact List.idxOf_lt_length_iff.mpr ho
   simp only[aM]
   rw[lK,dR (by simpa using dP),bc,aj dP,gu,bD]
   have:=hQ st .refl
   simp only[hv,HV,hx,j7]at this
   rw[aj dP]at this
   exact this
  |one w a =>
   simp only[aK]at hn
   have ho':over names a:=ho
   cases w with
   |not =>
    simp only[toD,c1]
    walk_at"st"
    walk_at"st"; walk_at"wd"; rw[aF]
    walk_at"st"; walk_at"wd"; walk_at"wd"; rw[aF]
    iterate 4 (walk_at"st"; walk_at"wd"; rw[aF])
    walk_at"st"
    refine ih' (s:=a) (by omega) ho' ht hl fun aC x1=>?_
    walk_at"st"; walk_at"wd"
    walk_at"st"
    exact hQ aC x1
   |before =>
    simp only[toD,c1]
    walk_at"st"
    walk_at"st"; walk_at"wd"; rw[aF]
    walk_at"st"; walk_at"wd"; walk_at"wd"; rw[aF]
    walk_at"st"; walk_at"wd"
    walk_at"st"
    by_cases h0:t=0
    ·subst h0
     rw[if_neg (by simp)]
     exact hQ st .refl
    ·rw[if_pos (by simp;omega),show(t:Int)-1=((t-1:Nat):Int)by omega]
     refine ih' (s:=a) (by omega) ho' (by omega) hl fun aC x1=>?_
     have:=hQ aC x1
     simp only[hv]at this
     rw[decide_eq_true (by omega),fe]at this
     exact this
   |once =>
    simp only[toD,c1]
    walk_at"st"
    walk_at"st"; walk_at"wd"; rw[aF]
    walk_at"st"; walk_at"wd"; walk_at"wd"; rw[aF]
    walk_at"st"; walk_at"wd"; rw[aF]
    walk_at"st"; walk_at"wd"
    walk_at"st"
    refine⟨by unfold dU;omega,?_⟩
    rw[show((t:Int)+1).toNat=t+1 by omega,pK]
    refine jT (fun k:Nat=>D.int (k:Nat)) (fun k=>if hv names bA a k=true then some (D.int (k:Nat))else none) (a9 (t+1)) [] st (fun aA y a ha=>by cases ha) (fun j hj aA K y1 hK=>?_) (by simp;omega) fun aC y1=>?_
    ·refine ih' (s:=a) (by omega) ho' (by have:=List.mem_range.mp hj;omega) (y1 _ _ hl) fun aG x2=>?_
     have:=hK aG x2
     walk_at"ex"
     cases hb:hv names bA a j with
     |true=>simpa [hb]using this
     |false=>simpa [hb]using this
    rw[az,K8]
    refine bI (by simp only[aa];have:=fu (hv names bA a) (a9 (t+1));simp at this;omega) fun p aG x2 hp' gU=>?_
    walk_at"ex"
    refine bI (by simp) fun q aV x3 hq hq3=>?_
    walk_at"ex"
    refine⟨iT (x3 _ _ gU),iT (is:=[]) hq3,?_⟩
    rw[eq_nil (x3 _ _ gU) hq3,HB,Bool.not_not]
    exact hQ aV ((y1.trans x2).trans x3)
   |sofar =>
    simp only[toD,c1]
    walk_at"st"
    walk_at"st"; walk_at"wd"; rw[aF]
    walk_at"st"; walk_at"wd"; walk_at"wd"; rw[aF]
    iterate 2 (walk_at"st"; walk_at"wd"; rw[aF])
    walk_at"st"; walk_at"wd"
    walk_at"st"
    refine⟨by unfold dU;omega,?_⟩
    rw[show((t:Int)+1).toNat=t+1 by omega,pK]
    refine jT (fun k:Nat=>D.int (k:Nat)) (fun k=>if(!hv names bA a k)=true then some (D.int (k:Nat))else none) (a9 (t+1)) [] st (fun aA y a ha=>by cases ha) (fun j hj aA K y1 hK=>?_) (by simp;omega) fun aC y1=>?_
    ·refine ih' (s:=a) (by omega) ho' (by have:=List.mem_range.mp hj;omega) (y1 _ _ hl) fun aG x2=>?_
     have:=hK aG x2
     walk_at"ex"
     cases hb:hv names bA a j with
     |true=>simpa [hb]using this
     |false=>simpa [hb]using this
    rw[az,K8 (fun k=>!hv names bA a k)]
    refine bI (by simp only[aa];have:=fu (fun k=>!hv names bA a k) (a9 (t+1));simp at this ⊢;omega) fun p aG x2 hp' gU=>?_
    walk_at"ex"
    refine bI (by simp) fun q aV x3 hq hq3=>?_
    walk_at"ex"
    refine⟨iT (x3 _ _ gU),iT (is:=[]) hq3,?_⟩
    rw[eq_nil (x3 _ _ gU) hq3,HB]
    have:=hQ aV ((y1.trans x2).trans x3)
    simp only[hv]at this
    have e:(!(a9 (t+1)).any fun k=>!hv names bA a k)=(a9 (t+1)).all (hv names bA a):=by
     rw[List.not_any_eq_all_not];simp
    rw[e]
    exact this
  |two w a b =>
   simp only[aK]at hn
   have ho1:over names a:=ho.1
   have ho2:over names b:=ho.2
   cases w with
   |since =>
    simp only[toD,c2]
    walk_at"st"
    walk_at"st"; walk_at"wd"; rw[aF]
    walk_at"st"; walk_at"wd"; walk_at"wd"; rw[aF]
    iterate 3 (walk_at"st"; walk_at"wd"; rw[aF])
    walk_at"st"; walk_at"wd"
    walk_at"st"
    rw[DM]
    refine⟨rfl,by unfold dU;omega,by unfold dU;omega,?_⟩
    rw[show((t:Int) - -1).toNat=t+1 by omega]
    have er:oG (t:Int) (t+1)=(a9 (t+1)).map fun k=>D.int ((t:Int)-(k:Nat)):=rfl
    rw[er]
    have hsf:∀ u,kE (hv names bA a) (hv names bA b) u=(hv names bA b u||(hv names bA a u&&(decide (0<u)&&kE (hv names bA a) (hv names bA b) (u-1)))):=fun u=>by
     cases u with
     |zero=>simp [kE]
     |succ u=>simp [kE]
    refine gE (fun k:Nat=>D.int ((t:Int)-(k:Nat))) (I:=fun rest σ aA=>∃ m o5,m<=t+1/\rest=(a9 (t+1)).drop m/\σ=[some (.tup (names.map .str)),some (.tup [.str (W "since"),toD a,toD b]),some (.ref l),some (.int (t:Nat)),some (.str (W "since")),o5,none,none]/\Ext st aA/\hv names bA (Sy.two .since a b) t=(decide (m<=t)&&kE (hv names bA a) (hv names bA b) (t-m))) (fun rest σ aA _ x hx=>?_) (fun x rest σ aA M ⟨m,o5,e0,e1,e2,x4,e5⟩ hM=>?_) (fun σ aA ⟨m,o5,e0,e1,e2,x4,e5⟩=>?_) _ _ _ ⟨0,none,cu _,rfl,rfl,.refl,by simp [hv]⟩
    ·cases hx
    ·subst e2
     have hm:m<(a9 (t+1)).length:=by
      by_cases z:m<(a9 (t+1)).length
      ·exact z
      ·rw[fk (by omega)]at e1;cases e1
     rw[bw hm]at e1
     injection e1 with e3 e4
     simp only[List.getElem_range]at e3
     subst e3
     simp only[ij]at hm
     have eu:(t:Int)-(x:Nat)=((t-x:Nat):Int):=by omega
     rw[eu]
     rw[decide_eq_true (by omega),fe,hsf]at e5
     walk_at"st"
     refine ih' (s:=b) (by omega) ho2 (by omega) (x4 _ _ hl) fun aC x1=>?_
     walk_at"ex"
     cases hb:hv names bA b (t-x)with
     |true =>
      simp only[if_true]
      walk_at"st"
      rw[hb,Bool.true_or]at e5
      have:=hQ aC (x4.trans x1)
      rw[e5]at this
      exact this
     |false =>
      simp only[ag,if_false,aF]
      walk_at"st"
      refine ih' (s:=a) (by omega) ho1 (by omega) (x1 _ _ (x4 _ _ hl)) fun aG x2=>?_
      walk_at"ex"
      cases ha:hv names bA a (t-x)with
      |false =>
       simp only[d5,if_true]
       walk_at"st"
       rw[hb,ha]at e5
       have:=hQ aG ((x4.trans x1).trans x2)
       rw[e5]at this
       exact this
      |true =>
       simp only[d7,ag,if_false,aF]
       rw[hb,ha,Bool.false_or,fe]at e5
       refine hM _ aG ⟨x+1,_,by omega,e4,rfl,(x4.trans x1).trans x2,?_⟩
       rw[e5]
       have e7:t-x-1=t-(x+1):=by omega
       rw[e7]
       congr 1
       rw[decide_eq_decide]
       omega
    ·subst e2
     have hm:t+1<=m:=by
      by_cases z:m<(a9 (t+1)).length
      ·rw[bw z]at e1;cases e1
      ·simpa using z
     rw[decide_eq_false (by omega),fv]at e5
     walk_at"st"
     have:=hQ aA x4
     rw[e5]at this
     exact this
   |and =>
    simp only[toD,c2]
    walk_at"st"
    walk_at"st"; walk_at"wd"; rw[aF]
    walk_at"st"; walk_at"wd"; walk_at"wd"; rw[aF]
    iterate 4 (walk_at"st"; walk_at"wd"; rw[aF])
    walk_at"st"
    refine ih' (s:=a) (by omega) ho1 ht hl fun aC x1=>?_
    walk_at"st"; walk_at"wd"; rw[aF]
    walk_at"st"
    refine ih' (s:=b) (by omega) ho2 ht (x1 _ _ hl) fun aG x2=>?_
    walk_at"st"; walk_at"wd"
    walk_at"st"
    have:=hQ aG (x1.trans x2)
    simp only[hv]at this
    cases ha:hv names bA a t with
    |false=>simpa [ha]using this
    |true=>simpa [ha]using this
   |or =>
    simp only[toD,c2]
    walk_at"st"
    walk_at"st"; walk_at"wd"; rw[aF]
    walk_at"st"; walk_at"wd"; walk_at"wd"; rw[aF]
    iterate 4 (walk_at"st"; walk_at"wd"; rw[aF])
    walk_at"st"
    refine ih' (s:=a) (by omega) ho1 ht hl fun aC x1=>?_
    walk_at"st"; walk_at"wd"; rw[aF]
    walk_at"st"
    refine ih' (s:=b) (by omega) ho2 ht (x1 _ _ hl) fun aG x2=>?_
    walk_at"st"; walk_at"wd"; rw[aF]
    walk_at"st"; walk_at"wd"
    walk_at"st"
    have:=hQ aG (x1.trans x2)
    simp only[hv]at this
    cases ha:hv names bA a t with
    |false=>simpa [ha]using this
    |true=>simpa [ha]using this
   |bE =>
    simp only[toD,c2]
    walk_at"st"
    walk_at"st"; walk_at"wd"; rw[aF]
    walk_at"st"; walk_at"wd"; walk_at"wd"; rw[aF]
    iterate 4 (walk_at"st"; walk_at"wd"; rw[aF])
    walk_at"st"
    refine ih' (s:=a) (by omega) ho1 ht hl fun aC x1=>?_
    walk_at"st"; walk_at"wd"; rw[aF]
    walk_at"st"
    refine ih' (s:=b) (by omega) ho2 ht (x1 _ _ hl) fun aG x2=>?_
    iterate 2 (walk_at"st"; walk_at"wd"; rw[aF])
    walk_at"st"; walk_at"wd"
    walk_at"st"
    have:=hQ aG (x1.trans x2)
    simp only[hv]at this
    cases hb:hv names bA b t with
    |false=>simpa [hb]using this
    |true=>simpa [hb]using this
   |same =>
    simp only[toD,c2]
    walk_at"st"
    walk_at"st"; walk_at"wd"; rw[aF]
    walk_at"st"; walk_at"wd"; walk_at"wd"; rw[aF]
    iterate 4 (walk_at"st"; walk_at"wd"; rw[aF])
    walk_at"st"
    refine ih' (s:=a) (by omega) ho1 ht hl fun aC x1=>?_
    walk_at"st"; walk_at"wd"; rw[aF]
    walk_at"st"
    refine ih' (s:=b) (by omega) ho2 ht (x1 _ _ hl) fun aG x2=>?_
    iterate 3 (walk_at"st"; walk_at"wd"; rw[aF])
    walk_at"st"
    exact hQ aG (x1.trans x2)
end
end L3
end
section
namespace L3
open PySem
noncomputable def mO (ip:Nat):Fn:=⟨1,3,[.asg (.nm 1) (.lst []),.gR (.nm 2) none [(.bin .add (.bin .add (.ix (.v 0) (.c (.int 2))) (.ix (.v 0) (.c (.int 3)))) (.bi .tuple [(.comp 1 [] [0] true none [(.ix (.v 0) (.c (.int 4)))] [] (.ix (.v 0) (.c (.int 1))))]))] [.ex (.call ip [(.v 2),(.v 1)])],.ret (.v 1)]⟩
noncomputable def uZ (ibp ih:Nat):Fn:=⟨2,5,[.asg (.nm 2) (.bin .add (.ix (.v 0) (.c (.int 0))) (.ix (.v 0) (.c (.int 1)))),.asg (.nm 3) (.lst []),.gR (.nm 4) none [(.call ibp [(.v 0)])] [.iff (.cmp .eq (.v 1) (.lst [])) [.ex (.cB .append (.v 3) [(.cmp .eq (.ix (.v 4) (.c (.int 0))) (.c (.str (W "sofar"))))])] [.iff (.cmp .eq (.ix (.v 4) (.c (.int 0))) (.c (.str (W "before")))) [.ex (.cB .append (.v 3) [(.call ih [(.v 2),(.ix (.v 4) (.c (.int 1))),(.v 1),(.bin .sub (.bi .len [(.v 1)]) (.c (.int 1)))])])] [.ex (.cB .append (.v 3) [(.call ih [(.v 2),(.v 4),(.v 1),(.bin .sub (.bi .len [(.v 1)]) (.c (.int 1)))])])]]],.ret (.bi .tuple [(.v 3)])]⟩
theorem mE (bs:List Bool):bH (aM bs)=true:=by
 simp only[aM,bH]
 induction bs with
 |nil=>rfl
 |cons a l ih=>simp only[av,bO,bH,ih,df]
theorem uK (bs:List Bool):cL (aM bs)<=1:=by
 simp only[aM,cL]
 have:cI (bs.map D.bl)=0:=by
  induction bs with
  |nil=>rfl
  |cons a l ih=>simp only[av,cI,cL,ih];rfl
 omega
theorem wG (bA:List (List Bool)):bO (bA.map aM)=true/\cI (bA.map aM)<=1:=by
 induction bA with
 |nil=>exact⟨rfl,by simp [cI]⟩
 |cons a l ih =>
 have:=uK a
 simp only[av,bO,mE,ih.1,df,cI,true_and]
 omega
theorem NR {st:aB}{p:Nat}{bA:List (List Bool)}(h:st p=some (.lst (bA.map aM))):plainS st (.ref p):=by
 refine⟨?_,cu _⟩
 have q:=wG bA
 simp only[fH,h,JK,q.1,fe,decide_eq_true_eq]
 have:(1:Nat)<=mH:=by decide
 omega
section
variable {G:Prog}{k i ip ibp ih:Nat}{st:aB}{Q:VK}{E:XK}{b:Bk}
theorem JZ (h:G.fns ibp=some (mO ip))(hp:G.fns ip=some (kM ip))(B:b.Ok)(hs:eH b.says<=5000)(hQ:∀ p aA,st p=none->Ext st aA->aA p=some (.lst ((bX b.says []).map toD))->Q (.ref p) aA):aO G (k+9) ibp [b.d] st Q E:=by
 have hL:aZ=16777216:=rfl
 have p1:=B.p1
 have m1:=B.m1
 have w2:=B.w2
 rw[aT h]
 simp only[mO,start]
 refine⟨rfl,?_⟩
 have hd:b.d=.tup [.tup (b.fs.map .str),.tup (b.gs.map .str),.tup (b.ps.map toD),.tup (b.ms.map toD),.tup (b.ws.map fun w=>.tup [.int w.1,toD w.2])]:=rfl
 rw[hd]
 walk_at"st"
 refine bI (by simp) fun p aC x1 hp' hp1=>?_
 walk_at"st"
 refine⟨by simp only[aa];omega,?_⟩
 refine gH (fun w:Int×Sy=>D.tup [.int w.1,toD w.2]) (fun w=>toD w.2) b.ws [] aC (fun aA x a ha=>by cases ha) (fun x hx aA K y1 hK=>hK aA .refl) (by simp only[ba];omega) fun aG x2=>?_
 rw[az]
 refine bI (by simp only[aa];omega) fun u aV x3 hu hu3=>?_
 walk_at"ex"
 rw[aE hu3]
 refine⟨by simp only[aa];omega,?_⟩
 have e:((b.ps.map toD++b.ms.map toD)++b.ws.map fun w=>toD w.2)=b.says.map toD:=by simp [Bk.says,vb,Ri]
 show _/\_
 refine⟨by simp only[aa,bh];omega,?_⟩
 rw[e]
 have p3:aV p=some (.lst []):=x3 _ _ (x2 _ _ hp1)
 have hs60:∀ x∈b.says,aK x<=60:=fun x hx=>by have:=(qP B x hx).2;omega
 refine gE toD (I:=fun rest σ aA=>∃ dn o2,b.says=dn++rest/\σ=[some (.tup [.tup (b.fs.map .str),.tup (b.gs.map .str),.tup (b.ps.map toD),.tup (b.ms.map toD),.tup (b.ws.map fun w=>.tup [.int w.1,toD w.2])]),some (.ref p),o2]/\bC [p] aV aA/\aA p=some (.lst ((bX dn []).map toD))/\(∀ x∈bX dn [],aK x<=60)/\(bX dn []).length<=eH dn) (fun rest σ aA _ x hx=>?_) (fun x rest σ aA M ⟨dn,o2,e1,e2,x4,e5,e6,e7⟩ hM=>?_) (fun σ aA ⟨dn,o2,e1,e2,x4,e5,e6,e7⟩=>?_) _ _ _ ⟨[],none,rfl,rfl,.refl,p3,by simp [bX],by simp [bX]⟩
 ·cases hx
 ·subst e2
  have hx:x∈b.says:=by rw[e1];simp
  have iZ:eH dn+sz x<=eH b.says:=by rw[e1,iU,iB];omega
  have hd8:=(qP B x hx).2
  walk_at"st"
  refine Q2 (k:=k) hp x 8 (by omega) (by omega) e6 (by omega) e5 fun cQ k5 e8=>?_
  simp only[aF]
  have ea:bX (dn++[x]) []=aJ x (bX dn []):=by rw[BD];rfl
  refine hM _ cQ ⟨dn++[x],_,by simp [e1],rfl,x4.trans k5,by rw[ea];exact e8,by rw[ea];exact qO x e6 (by omega),?_⟩
  rw[ea,iU]
  have:=uU x (bX dn [])
  simp only[iB];simp only[eH,e9,zc]at *;omega
 ·subst e2
  rw[b7]at e1
  walk_at"st"
  refine hQ p aA hp' (fun a o e=>x4 a o (fun z=>?_) (x3 _ _ (x2 _ _ (x1 _ _ e)))) (by rw[e1];exact e5)
  simp only[ah]at z
  rw[z,hp']at e;cases e
theorem DN (h:G.fns i=some (uZ ibp ih))(hbp:G.fns ibp=some (mO ip))(hp:G.fns ip=some (kM ip))(hh:G.fns ih=some (nQ ih))(B:b.Ok)(hs:eH b.says<=5000)(kK:(bX b.says []).length<=5000){l:Nat}{bA:List (List Bool)}(hl:st l=some (.lst (bA.map aM)))(dB:∀ bs∈bA,bs.length=b.names.length)(hpn:bA.length<=1000)
  (hov:∀ s∈bX b.says [],over b.names s/\aK s<=8)(hQ:∀ aA,Ext st aA->Q (.tup ((bX b.says []).map fun s=>.bl (gF b.names bA bA.length s))) aA):aO G (k+10) i [b.d,.ref l] st Q E:=by
 have hL:aZ=16777216:=rfl
 have f2:=B.f2
 have g2:=B.g2
 rw[aT h]
 simp only[uZ,start]
 refine⟨rfl,?_⟩
 have hd:b.d=.tup [.tup (b.fs.map .str),.tup (b.gs.map .str),.tup (b.ps.map toD),.tup (b.ms.map toD),.tup (b.ws.map fun w=>.tup [.int w.1,toD w.2])]:=rfl
 have en:(b.fs.map D.str++b.gs.map D.str)=b.names.map .str:=by simp [Bk.names]
 rw[hd]
 walk_at"st"
 refine⟨by simp only[aa];omega,?_⟩
 rw[en]
 walk_at"st"
 refine bI (by simp) fun q aC x1 hq hq1=>?_
 walk_at"st"
 rw[<-hd]
 refine JZ (k:=k) hbp hp B hs fun lp aG LS x2 lp2=>?_
 walk_at"ex"
 rw[aE lp2]
 have hl2:=x2 _ _ (x1 _ _ hl)
 have q2:=x2 _ _ hq1
 have qlp:q≠lp:=fun z=>by rw[<-z,hq1]at LS;cases LS
 have ql:q≠l:=fun z=>by rw[z,hl]at hq;cases hq
 have hq0:∀ a o,st a=some o->a≠q:=fun a o e z=>by rw[z,hq]at e;cases e
 refine gE toD (I:=fun rest σ aA=>∃ dn o4,bX b.says []=dn++rest/\σ=[some b.d,some (.ref l),some (.tup (b.names.map .str)),some (.ref q),o4]/\bC [q] aG aA/\aA q=some (.lst (dn.map fun s=>.bl (gF b.names bA bA.length s)))) (fun rest σ aA ⟨dn,o4,e1,e2,x4,e5⟩=>?_) (fun x rest σ aA M ⟨dn,o4,e1,e2,x4,e5⟩ hM=>?_) (fun σ aA ⟨dn,o4,e1,e2,x4,e5⟩=>?_) _ _ _ ⟨[],none,rfl,rfl,.refl,q2⟩
 ·intro a ha
  simp only[ah]at ha
  subst ha
  rw[lp2,x4 _ _ (by simpa using qlp.symm) lp2]
 ·subst e2
  have hx:x∈bX b.says []:=by rw[e1];simp
  have hlen:dn.length<=5000:=by rw[e1]at kK;simp at kK;omega
  have hl4:aA l=some (.lst (bA.map aM)):=x4 _ _ (by simpa using ql.symm) hl2
  have fin:∀(cQ:aB)(σ':St)(v:Bool),(∃ o4,σ'=[some b.d,some (.ref l),some (.tup (b.names.map .str)),some (.ref q),o4])->Ext aA cQ->v=gF b.names bA bA.length x->(dn.map fun s=>D.bl (gF b.names bA bA.length s)).length<aZ/\M σ' (put cQ q (.lst ((dn.map fun s=>.bl (gF b.names bA bA.length s))++[.bl v]))):=fun cQ σ' v ⟨o4,eσ⟩ x5 hv'=>by
   refine⟨by simp only[aa];omega,hM σ' _ ⟨dn++[x],o4,by simp [e1],eσ,fun a o na e=>by rw[aH (by simpa using na)];exact x5 _ _ (x4 a o na e),?_⟩⟩
   rw[aN,hv'];simp
  walk_at"st"
  refine bI (by simp) fun u cQ x5 hu hu5=>?_
  walk_at"ex"
  refine⟨NR (x5 _ _ hl4),iT (is:=[]) hu5,?_⟩
  rw[eq_nil (x5 _ _ hl4) hu5]
  have q5:=x5 _ _ e5
  cases hpe:bA with
  |nil =>
   simp only[e9,n4,if_true]
   walk_at"st"
   rw[aE q5]
   refine⟨True.intro,?_⟩
   obtain⟨r,er⟩:=lF x
   rw[er]
   walk_at"ex"
   rw[J4,aE q5]
   simp only[aF]
   exact fin cQ _ _ ⟨_,rfl⟩ x5 (by rw[hpe];simp [gF])
  |cons p0 pr =>
   have hpl1:0<bA.length:=by rw[hpe];simp
   have hm:gF b.names bA bA.length x=hv b.names bA (lW x) (bA.length-1):=by unfold gF;rw[if_neg (by omega)]
   have elen:((bA.map aM).length:Int)-1=((bA.length-1:Nat):Int):=by simp;omega
   rw[<-hpe]
   have hne:(bA.map aM).isEmpty=false:=by rw[hpe];rfl
   rw[hne]
   simp only[ag,if_false]
   obtain⟨r,er⟩:=lF x
   have hpx:=zE b.says [] (fun x hx=>by cases hx) x hx
   have hox:=hov x hx
   rcases G1 x hpx with⟨w1,a,rfl⟩|⟨w1,w2⟩
   ·simp only[toD,c1]
    walk_at"st"
    rw[if_pos (by decide +kernel)]
    walk_at"st"
    rw[aE q5]
    refine⟨True.intro,?_⟩
    rw[cN (x5 _ _ hl4),elen]
    refine wJ (k:=k+1) hh dB hpn 8 (s:=a) (by have:=hox.2;simp only[aK]at this;omega) hox.1 (by omega) (x5 _ _ hl4) fun fE x6=>?_
    rw[aE (x6 _ _ q5)]
    simp only[aF]
    exact fin fE _ _ ⟨_,rfl⟩ (x5.trans x6) (by rw[hm];rfl)
   ·rw[er]
    walk_at"st"
    rw[if_neg (by rw[w1];exact dr)]
    walk_at"st"
    rw[aE q5]
    refine⟨True.intro,?_⟩
    rw[cN (x5 _ _ hl4),elen,<-er]
    refine wJ (k:=k+1) hh dB hpn 8 (s:=x) hox.2 hox.1 (by omega) (x5 _ _ hl4) fun fE x6=>?_
    rw[aE (x6 _ _ q5)]
    simp only[aF]
    exact fin fE _ _ ⟨_,rfl⟩ (x5.trans x6) (by rw[hm,w2])
 ·subst e2
  rw[b7]at e1
  walk_at"st"
  rw[aE e5]
  rw[<-e1]
  refine⟨by simp only[aa];omega,hQ aA fun a o e=>x4 a o (by simpa using hq0 a o e) (x2 _ _ (x1 _ _ e))⟩
end
end L3
end
section
namespace L3
open PySem
noncomputable def AN (is dM:Nat):Fn:=⟨5,7,[.asg (.nm 5) (.call is [(.v 0),(.v 1),(.v 2),(.c (.int 1)),(.lst [(.c (.int 0))])]),.iff (.and_ (.cmp .gt (.ix (.v 4) (.c (.int 0))) (.c (.int 0))) (.cmp .eq (.call dM [(.v 0),(.v 1),(.c (.int 2))]) (.c (.int 1)))) [.asg (.ix (.v 4) (.c (.int 0))) (.bin .sub (.ix (.v 4) (.c (.int 0))) (.c (.int 1))),.asg (.nm 6) (.call is [(.v 0),(.v 1),(.v 3),(.c (.int 1)),(.lst [(.c (.int 0))])]),.ret (.tup [(.ix (.lst [(.c (.str (W "then"))),(.c (.str (W "or"))),(.c (.str (W "same")))]) (.call dM [(.v 0),(.v 1),(.c (.int 3))])),(.tup [(.c (.str (W "before"))),(.v 6)]),(.v 5)])] [],.ret (.v 5)]⟩
noncomputable def AM (inm dM is ipr:Nat):Fn:=⟨4,14,[.asg (.nm 4) (.lst [(.v 1)]),.asg (.tp [5,6]) (.call inm [(.v 0),(.v 4)]),.asg (.nm 7) (.bin .add (.v 5) (.v 6)),.asg (.nm 8) (.lst [(.call dM [(.v 0),(.v 4),(.bin .add (.v 2) (.c (.int 1)))])]),.asg (.nm 9) (.lst []),.gR (.nm 10) (some .range) [(.bin .add (.c (.int 1)) (.call dM [(.v 0),(.v 4),(.c (.int 3))]))] [.asg (.nm 11) (.bin .add (.c (.int 1)) (.call dM [(.v 0),(.v 4),(.ix (.lst [(.c (.int 3)),(.c (.int 9)),(.c (.int 99))]) (.call dM [(.v 0),(.v 4),(.c (.int 3))]))])),.ex (.cB .append (.v 9) [(.tup [(.v 11),(.call is [(.v 0),(.v 4),(.v 7),(.c (.int 2)),(.v 8)])])])],.asg (.nm 12) (.comp 1 [0,4,7,8] [0] true (some .range) [(.call dM [(.v 0),(.v 4),(.bin .add (.v 3) (.c (.int 1)))])] [] (.call is [(.v 1),(.v 2),(.v 3),(.c (.int 2)),(.v 4)])),.asg (.nm 13) (.comp 1 [0,4,5,7,8] [0] true (some .range) [(.call dM [(.v 0),(.v 4),(.c (.int 2))])] [] (.call ipr [(.v 1),(.v 2),(.v 3),(.v 4),(.v 5)])),.ret (.tup [(.v 5),(.v 6),(.bi .tuple [(.v 13)]),(.bi .tuple [(.v 12)]),(.bi .tuple [(.v 9)])])]⟩
end L3
end
section
namespace L3
open PySem
theorem pB {f g:List (List Nat)}(h:∀ n∈f,n∈g):∀ s:Sy,over f s->over g s
 |.yes,_=>trivial
 |.no,_=>trivial
 |.cF _,q=>h _ q
 |.one w s,q=>pB h s q
 |.two w s t,q=>⟨pB h s q.1,pB h t q.2⟩
theorem oZ {fs gs:List (List Nat)}(h:∀ n∈fs,n∉gs):∀ s:Sy,over fs s->fW gs s=false
 |.yes,_=>rfl
 |.no,_=>rfl
 |.cF n,q=>by
  simp only[fW,rf]
  intro x hx e
  have:=h n q
  rw[<-eq_of_beq e]at this
  exact this hx
 |.one w s,q=>by cases w<;>first|rfl|exact oZ h s q
 |.two w s t,q=>by simp only[fW,oZ h s q.1,oZ h t q.2,Ru]
section
variable {G:Prog}{k ic im dM is ipr:Nat}{st:aB}{Q:VK}{E:XK}{ns:List Int}
theorem WK (h:G.fns ipr=some (AN is dM))(hs:G.fns is=some (oF dM is))(hn:G.fns dM=some (sO im))(hm:G.fns im=some (nK ic))(hc:G.fns ic=some oR){fs gs:List (List Nat)}(hf:0<fs.length)(hdis:∀ n∈fs,n∉gs){a b:Nat}(dY:a≠b){i l:Int}
  (ha:st a=some (.lst [.int i]))(hb:st b=some (.lst [.int l]))(hi:0<=i)(hl:0<=l)
  (hQ:∀ s aA i',over (fs++gs) s->fW gs s=false->aK s<=4->(cnt s:Int)<=l->bC [a,b] st aA->0<=i'->aA a=some (.lst [.int i'])->aA b=some (.lst [.int (l-cnt s)])->Q (toD s) aA):
  aO G (k+6) ipr [.bP (ns.map .int),.ref a,.tup (fs.map .str),.tup ((fs++gs).map .str),.ref b] st Q E:=by
 rw[aT h]
 simp only[AN,start]
 refine⟨rfl,?_⟩
 have hfm:∀ n∈fs,n∈fs++gs:=fun n hn=>by simp [hn]
 walk_at"st"
 refine bI (by decide) fun z aC x1 hz hz1=>?_
 have za:a≠z:=fun e=>by rw[<-e,ha]at hz;cases hz
 have zb:b≠z:=fun e=>by rw[<-e,hb]at hz;cases hz
 have zz:∀ c o,st c=some o->c≠z:=fun c o e q=>by rw[q,hz]at e;cases e
 refine tK (k:=k) hs hn hm hc hf za 1 (x1 _ _ ha) hz1 hi (by omega) fun s aG i2 o1 d1 c1' k2 hi2 a2 z2=>?_
 have cs:cnt s=0:=by omega
 have b2:aG b=some (.lst [.int l]):=k2 b _ (by simp [dY.symm,zb]) (x1 _ _ hb)
 have kk2:bC [a,b] st aG:=fun c o nc e=>k2 c o (by simp only[b9,bp,or_false,not_or]at nc ⊢;exact⟨nc.1,zz c o e⟩) (x1 _ _ e)
 have base:∀ aV i3,bC [a,b] aG aV->0<=i3->aV a=some (.lst [.int i3])->aV b=some (.lst [.int l])->Q (toD s) aV:=fun aV i3 k3 h3 a3 b3 =>
  hQ s aV i3 (pB hfm s o1) (oZ hdis s o1) (by omega) (by omega) (kk2.trans k3) h3 a3 (by rw[cs];simpa using b3)
 walk_at"st"
 rw[dX b2,EU,bD]
 walk_at"ex"
 by_cases hl0:0<l
 ·rw[if_pos hl0]
  refine fO (k:=k+2) hn hm hc a2 hi2 (by omega) fun aV k3 a3=>?_
  have b3:aV b=some (.lst [.int l]):=k3 b _ (by simpa using dY.symm) b2
  walk_at"ex"
  generalize hv:kW ns (i2+1) 2=v
  cases hv1:(v==1)with
  |true =>
   simp only[if_true]
   walk_at"st"
   rw[dX b3,EU,bD]
   walk_at"ex"
   rw[aE b3,WD,bD]
   generalize hst4:put aV b _=cH
   have b4:cH b=some (.lst [.int (l-1)]):=by rw[<-hst4,aN];rfl
   have a4:cH a=some (.lst [.int (i2+1)]):=by rw[<-hst4,aH dY];exact a3
   have k4:bC [a,b] aV cH:=by rw[<-hst4];exact bC.put (by simp)
   walk_at"st"
   refine bI (by decide) fun y cQ x5 hy hy5=>?_
   have ya:a≠y:=fun e=>by rw[<-e,a4]at hy;cases hy
   have yb:b≠y:=fun e=>by rw[<-e,b4]at hy;cases hy
   have yy:∀ c o,cH c=some o->c≠y:=fun c o e q=>by rw[q,hy]at e;cases e
   refine tK (k:=k) hs hn hm hc (by simp;omega) ya 1 (x5 _ _ a4) hy5 (by omega) (by omega) fun s2 fE i6 o6 d6 c6 k6 hi6 a6 y6=>?_
   have cs2:cnt s2=0:=by omega
   have b6:fE b=some (.lst [.int (l-1)]):=k6 b _ (by simp [dY.symm,yb]) (x5 _ _ b4)
   have kk6:bC [a,b] cH fE:=fun c o nc e=>k6 c o (by simp only[b9,bp,or_false,not_or]at nc ⊢;exact⟨nc.1,yy c o e⟩) (x5 _ _ e)
   walk_at"st"
   refine bI (by decide) fun u qJ x7 hu hu7=>?_
   walk_at"ex"
   refine fO (k:=k+2) hn hm hc (x7 _ _ a6) hi6 (by omega) fun fD k8 a8=>?_
   have u8:fD u=some (.lst [.str (W "then"),.str (W "or"),.str (W "same")]):=k8 u _ (by
    intro z'
    simp only[ah]at z'
    rw[z',a6]at hu;cases hu) hu7
   have w0:=gW (ns:=ns) (k:=i6+1) (many:=3) (by omega)
   have w1:=gY (ns:=ns) (k:=i6+1) (many:=3) (by omega)
   generalize kW ns (i6+1) 3=w at w0 w1
   have b8:fD b=some (.lst [.int (l-1)]):=k8 b _ (by simpa using dY.symm) (x7 _ _ b6)
   have kk8:bC [a,b] st fD:=((((kk2.trans (k3.mono (by simp))).trans k4).trans kk6).trans x7.keep).trans (k8.mono (by simp))
   have fin:∀ W2',p2 W2'=false->aK (Sy.two W2' (.one .before s2) s)<=4->Q (toD (Sy.two W2' (.one .before s2) s)) fD:=fun W2' gU hdp=>by
    have hcn:cnt (Sy.two W2' (.one .before s2) s)=1:=by simp [cnt,gU,p1,cs,cs2]
    refine hQ _ fD (i6+1) ⟨o6,pB hfm s o1⟩ ?_ hdp (by rw[hcn];omega) kk8 (by omega) a8 (by rw[hcn];exact b8)
    simp only[fW,oZ hdis s o1,Ru]
   walk_at"ex"
   have hdp:∀ W2',aK (Sy.two W2' (.one .before s2) s)<=4:=fun W2'=>by simp only[aK];omega
   have hw:w=0∨w=1∨w=2:=by omega
   rcases hw with rfl|rfl|rfl
   ·rw[dX u8,EU,bD];exact fin .bE rfl (hdp _)
   ·rw[dX u8,UH,bD];exact fin .or rfl (hdp _)
   ·rw[dX u8,UR,bD];exact fin .same rfl (hdp _)
  |false =>
   simp only[ag,if_false,aF]
   walk_at"st"
   exact base aV (i2+1) (k3.mono (by simp)) (by omega) a3 b3
 ·rw[if_neg hl0]
  (try rw[if_neg hl0])
  (try simp only[decide_eq_false hl0,ag,if_false])
  rw[aF]
  walk_at"st"
  exact base aG i2 .refl hi2 a2 b2
end
end L3
end
section
namespace L3
open PySem
theorem SQ {fs gs:List (List Nat)}(h:uV fs gs=true):1<=fs.length/\fs.length<=2/\1<=gs.length/\gs.length<=2/\(fs++gs).Nodup/\∀ n∈fs++gs,n∈oQ:=by
 simp only[uV,ay,decide_eq_true_eq,List.all_eq_true]at h
 obtain⟨⟨⟨⟨⟨a,b⟩,c⟩,d⟩,e⟩,f⟩:=h
 exact⟨a,b,c,d,e,fun n hn=>by simpa using f n hn⟩
theorem OB:∀ n∈oQ,fI n=true:=by decide +kernel
noncomputable def eU (l:List Sy):Nat:=(l.map cnt).sum
theorem tX (a b:List Sy):eU (a++b)=eU a+eU b:=by simp [eU]
theorem KL (f:List Sy)(s:Sy):(cY f s).length<=f.length+(if bN s=true then 1 else 0):=by
 unfold cY
 cases h:bN s with
 |true=>simp only[fe,if_true];split<;>simp
 |false=>simp
theorem AV:∀(s:Sy)(f:List Sy),(aJ s f).length<=f.length+cnt s
 |.yes,f=>by simp [aJ]
 |.no,f=>by simp [aJ]
 |.cF _,f=>by simp [aJ]
 |.one w s,f=>by
  have h1:=AV s (cY f (.one w s))
  have h2:=KL f (.one w s)
  simp only[bN]at h2
  simp only[aJ,cnt]
  cases h:p1 w<;>simp [h]at h2 ⊢<;>omega
 |.two w s t,f=>by
  have h1:=AV s (cY f (.two w s t))
  have h2:=KL f (.two w s t)
  have h3:=AV t (aJ s (cY f (.two w s t)))
  simp only[bN]at h2
  simp only[aJ,cnt]
  cases h:p2 w<;>simp [h]at h2 ⊢<;>omega
theorem IP:∀(l f:List Sy),(bX l f).length<=f.length+eU l
 |[],f=>by simp [bX,eU]
 |s::l,f=>by
  have h1:=IP l (aJ s f)
  have h2:=AV s f
  have:eU (s::l)=cnt s+eU l:=by simp [eU]
  simp only[bX];omega
structure Lh (b:Bk)(pieces fY:Int):Prop where
 ok:b.Ok
 d4:∀ s∈b.says,aK s<=4
 ms:(b.ms.length:Int)<=fY
 cn:(eU b.says:Int)<=pieces
 n8:∀ n∈b.names,n∈oQ
noncomputable abbrev bσ (at_ pieces fY:Int)(ns:List Int)(fs gs:List (List Nat))(m lf wl:Nat)(jK jP WJ Qa:Option D):St:=[some (.bP (ns.map .int)),some (.int at_),some (.int pieces),some (.int fY),some (.ref m),some (.tup (fs.map .str)),some (.tup (gs.map .str)),some (.tup ((fs++gs).map .str)),some (.ref lf),some (.ref wl),jK,jP,WJ,Qa]
inductive WI (σ0:Option D->Option D->St)(names:List (List Nat))(m lf wl:Nat)(fE:aB)(lv v:Int)(rest:List Nat)(σ:St)(aA:aB):Prop
 |mk (j:Nat)(jK jP:Option D)(i':Int)(ws:List (Int×Sy))(e1:rest=(a9 (1+v).toNat).drop j)(e2:σ=σ0 jK jP)(q1:bC [m,lf,wl] fE aA)(q2:0<=i')(q3:aA m=some (.lst [.int i']))(q4:aA lf=some (.lst [.int (lv-eU (ws.map (·.2)))]))(q5:(eU (ws.map (·.2)):Int)<=lv)(q6:aA wl=some (.lst (ws.map fun w:Int×Sy=>.tup [.int w.1,toD w.2])))(q7:ws.length=j)(q7':j<=(1+v).toNat)(q8:∀ w∈ws,1<=w.1/\w.1<=99/\over names w.2/\aK w.2<=3)
theorem Pu {a b c:Nat}{x:Int}(h:(a:Int)<=x)(h':(b:Int)<=x-a):((a+b:Nat):Int)<=x:=by omega
theorem Pq {a b:Nat}{x:Int}:x-(a:Int)-(b:Int)=x-((a+b:Nat):Int):=by omega
theorem VJ {b:Nat}{x:Int}(h:(b:Int)<=x):0<=x-(b:Int):=by omega
theorem draws {turn:D->aB->(Option D->aB->Prop)->Prop}{R:List D->aB->Prop}{m lf:Nat}{ok:Sy->Prop}{sI:aB}
 (ht:∀(x:D)(st:aB)(K:Option D->aB->Prop)(i c:Int),0<=i->0<=c->st m=some (.lst [.int i])->st lf=some (.lst [.int c])->(∀ s aA i',ok s->(cnt s:Int)<=c->bC [m,lf] st aA->0<=i'->aA m=some (.lst [.int i'])->aA lf=some (.lst [.int (c-cnt s)])->K (some (toD s)) aA)->turn x st K):
 ∀(xs:List D)(ss:List Sy){st:aB}{i c:Int},0<=i->0<=c->st m=some (.lst [.int i])->st lf=some (.lst [.int c])->ss.length+xs.length<aZ ->
  (∀ ss' aA i',(∀ s∈ss',ok s)->ss'.length=xs.length->(eU ss':Int)<=c->bC [m,lf] st aA->0<=i'->aA m=some (.lst [.int i'])->aA lf=some (.lst [.int (c-eU ss')])->R ((ss++ss').map toD) aA) ->
  jQ (same [] sI) turn xs (ss.map toD) st R
 |[],ss,st,i,c,hi,hc,hm,hl,hn,h=>⟨jU,by have q:=h [] st i (fun _ h=>nomatch h) rfl (by simpa [eU]using hc) .refl hi hm (by simpa [eU]using hl);rw[b7]at q;exact q⟩
 |x::xs,ss,st,i,c,hi,hc,hm,hl,hn,h=>⟨jU,by rw[aa];simp only[be]at hn;omega,ht x st _ i c hi hc hm hl fun s aA i' o1 o2 k1 hi' m1 l1=>by
 have q:=draws (sI:=sI) ht xs (ss++[s]) hi' (VJ o2) m1 l1 (by simp only[bh,be,ba]at hn ⊢;omega) (fun ss' aX i'' p1 p2 p3 p4 p5 p6 p7=>by
  have e:eU (s::ss')=cnt s+eU ss':=by simp [eU]
  have z:=h (s::ss') aX i'' (fun s' iG=>by
  rcases List.mem_cons.mp iG with rfl|iG
  ·exact o1
  ·exact p1 s' iG) (by simp [p2]) (by rw[e];exact Pu (c:=0) o2 p3) (k1.trans p4) p5 p6 (by rw[e,<-Pq];exact p7)
  rw[ni]
  exact z)
 rw[cx]at q
 exact q⟩
section
variable {G:Prog}{k i inm ic im dM is ipr:Nat}{st:aB}{Q:VK}{E:XK}{ns:List Int}
theorem Eo {v:Int}{n:Int}(h0:0<=v)(h1:v<n)(hn:n<=4):dU v:=by unfold dU;omega
theorem VO {v:Int}{n:Int}{a:Nat}(e:a=v.toNat)(h1:v<n)(hn:n<=4):a<=3:=by omega
theorem Pc {v n:Int}{a:Nat}(e:a=v.toNat)(h0:0<=v)(h1:v<n+1):(a:Int)<=n:=by omega
theorem Pf {a b c:Nat}{x y:Int}(h:(a:Int)<=x-c-b)(h':x<y+1):((a+b+c:Nat):Int)<=y:=by omega
theorem RW {a:Nat}(h:a<=3):a<=aZ:=bz h (by decide)
theorem RU (hp:G.fns ipr=some (AN is dM))(hs:G.fns is=some (oF dM is))(hn:G.fns dM=some (sO im))(hm:G.fns im=some (nK ic))(hc:G.fns ic=some oR){fs gs:List (List Nat)}(f1:0<fs.length)(fpos:0<(fs++gs).length)(hdis:∀ n∈fs,n∉gs){m lf wl:Nat}(mlf:m≠lf)(mwl:m≠wl)(lfwl:lf≠wl){at_ pieces fY i' c:Int}(hmu:0<=fY)(hmu3:fY<=3){ws:List (Int×Sy)}{jK jP:Option D}(q2:0<=i')(q3:st m=some (.lst [.int i']))(q4:st lf=some (.lst [.int c]))(hc0:0<=c)(q6:st wl=some (.lst (ws.map fun w:Int×Sy=>.tup [.int w.1,toD w.2])))(hws:ws.length<=3)
 (hQ:∀ ps ms aA,(∀ s∈ms,over (fs++gs) s/\aK s<=3)->(ms.length:Int)<=fY->ms.length<=3->(∀ s∈ps,over (fs++gs) s/\aK s<=4/\fW gs s=false)->ps.length<=3->(eU ms:Int)<=c->(eU ps:Int)<=c-eU ms->bC [m,lf] st aA->Q (Bk.d ⟨fs,gs,ps,ms,ws⟩) aA):
 cR (aO G (k+6)) G.sub ((AM inm dM is ipr).body.drop 6) ⟨fun _ aA=>Q .non aA,Q,fun _ _=>False,fun _ _=>False,fun c _ aA=>E c aA⟩ (bσ at_ pieces fY ns fs gs m lf wl jK jP none none) st:=by
 simp only[AM,xf,qp,bσ]
 walk_at"st"
 refine fO (k:=k+3) hn hm hc q3 q2 (by omega) fun qJ k7 m7=>?_
 have V2:=gW (ns:=ns) (k:=i'+1) (many:=fY+1) (by omega)
 have V3:=gY (ns:=ns) (k:=i'+1) (many:=fY+1) (by omega)
 generalize kW ns (i'+1) (fY+1)=v2 at V2 V3
 walk_at"ex"
 have h4:fY+1<=4:=by omega
 refine⟨Eo V2 V3 h4,?_⟩
 have lf7:=k7 lf _ (by simpa using mlf.symm) q4
 have wl7:=k7 wl _ (by simpa using mwl.symm) q6
 refine draws (m:=m) (lf:=lf) (ok:=fun s=>over (fs++gs) s/\aK s<=3) (fun x aA K i c hi hc' h1 h2 hK=>?_) _ [] (by omega) hc0 m7 lf7 ?_ fun ms fD i8 z8 z7 z6 z2 z3 z4 z5=>?_
 ·exact tK (k:=k) hs hn hm hc fpos mlf 2 h1 h2 hi hc' fun s fD i8 o8 d8 c8 k8 hi8 m8 lf8=>hK s fD i8 ⟨o8,d8⟩ c8 k8 hi8 m8 lf8
 ·simp only[ba,iY,aa,ij];exact qm (by rw[yw];exact VO rfl V3 h4) (by decide)
 simp only[iY,aa,ij]at z7
 have m3:=VO z7 V3 h4
 refine bI (by rw[az,aa];exact RW m3) fun ml kT x9 hml ml9=>?_
 walk_at"ex"
 have wl9:=x9 _ _ (z2 wl _ (by simp [mwl.symm,lfwl.symm]) wl7)
 walk_at"st"
 refine fO (k:=k+3) hn hm hc (x9 _ _ z4) z3 (by decide) fun sta ka ma=>?_
 have V4:=gW (ns:=ns) (k:=i8+1) (many:=2) (by decide)
 have V5:=gY (ns:=ns) (k:=i8+1) (many:=2) (by decide)
 generalize kW ns (i8+1) 2=v3 at V4 V5
 walk_at"ex"
 refine⟨Eo V4 V5 (by decide),?_⟩
 have mml:m≠ml:=fun z=>by rw[<-z,z4]at hml;cases hml
 have lfml:lf≠ml:=fun z=>by rw[<-z,z5]at hml;cases hml
 have lfa:=ka lf _ (by simpa using mlf.symm) (x9 _ _ z5)
 have wla:=ka wl _ (by simpa using mwl.symm) wl9
 have mla:=ka ml _ (by simpa using mml.symm) ml9
 refine draws (m:=m) (lf:=lf) (ok:=fun s=>over (fs++gs) s/\aK s<=4/\fW gs s=false) (fun x aA K i c hi hc' h1 h2 hK=>?_) _ [] (by omega) (VJ z6) ma lfa ?_ fun ps stb ib y8 y7 y6 y2 y3 y4 y5=>?_
 ·exact WK (k:=k) hp hs hn hm hc f1 hdis mlf h1 h2 hi hc' fun s fD i8 o8 b8 d8 c8 k8 hi8 m8 lf8=>hK s fD i8 ⟨o8,d8,b8⟩ c8 k8 hi8 m8 lf8
 ·simp only[ba,iY,aa,ij];exact qm (by rw[yw];exact VO rfl V5 (by decide)) (by decide)
 simp only[iY,aa,ij]at y7
 have p3:=VO y7 V5 (by decide)
 refine bI (by rw[az,aa];exact RW p3) fun pl stc xc dB plc=>?_
 walk_at"ex"
 have wlc:=xc _ _ (y2 wl _ (by simp [mwl.symm,lfwl.symm]) wla)
 have mlc:=xc _ _ (y2 ml _ (by simp [mml.symm,lfml.symm]) mla)
 simp only[az]at plc mlc
 walk_at"st"
 rw[aE plc]
 refine⟨by rw[aa];exact RW p3,?_⟩
 rw[aE mlc]
 refine⟨by rw[aa];exact RW m3,?_⟩
 rw[aE wlc]
 refine⟨by rw[aa];exact RW hws,?_⟩
 refine hQ ps ms stc z8 (Pc z7 V2 V3) m3 y8 p3 z6 y6 fun a o ha e=>?_
 have ha':=ha
 simp only[b9,bp,or_false,not_or]at ha'
 have t7:=k7 a o (by simpa using ha'.1) e
 have t9:=ka a o (by simpa using ha'.1) (x9 _ _ (z2 a o ha t7))
 exact xc _ _ (y2 a o ha t9)
theorem WX (h:G.fns i=some (AM inm dM is ipr))(iH:G.fns inm=some (DA dM))(hp:G.fns ipr=some (AN is dM))(hs:G.fns is=some (oF dM is))(hn:G.fns dM=some (sO im))(hm:G.fns im=some (nK ic))(hc:G.fns ic=some oR){at_ pieces fY:Int}(ha:0<=at_)(hpi:0<=pieces)(hmu:0<=fY)(hmu3:fY<=3)
  (hQ:∀ b aA,Lh b pieces fY->Ext st aA->Q b.d aA):aO G (k+7) i [.bP (ns.map .int),.int at_,.int pieces,.int fY] st Q E:=by
 have hL:aZ=16777216:=rfl
 rw[aT h]
 simp only[AM,start]
 refine⟨rfl,?_⟩
 walk_at"st"
 refine bI (by show 1<=aZ;decide) fun m aC x1 hm0 m1=>?_
 walk_at"st"
 refine UT (k:=k+2) iH hn hm hc m1 ha fun fs gs aG i2 cG k2 hi2 m2=>?_
 obtain⟨f1,f2,g1,g2,nd,n8⟩:=SQ cG
 walk_at"ex"
 walk_at"st"
 refine⟨by simp only[aa];omega,?_⟩
 have en:(fs.map D.str++gs.map D.str)=(fs++gs).map .str:=by simp
 rw[en]
 walk_at"st"
 refine fO (k:=k+3) hn hm hc m2 hi2 (by omega) fun aV k3 m3=>?_
 have L0:=gW (ns:=ns) (k:=i2+1) (many:=pieces+1) (by omega)
 have L1:=gY (ns:=ns) (k:=i2+1) (many:=pieces+1) (by omega)
 generalize kW ns (i2+1) (pieces+1)=lv at L0 L1
 refine bI (by show 1<=aZ;decide) fun lf cH x4 hlf lf4=>?_
 have m4:=x4 _ _ m3
 have mlf:m≠lf:=fun z=>by rw[<-z,m3]at hlf;cases hlf
 have old3:∀ a o,st a=some o->aV a=some o:=fun a o e=>by
  have hma:a≠m:=fun z=>by rw[z,hm0]at e;cases e
  exact k3 a o (by simpa using hma) (k2 a o (by simpa using hma) (x1 _ _ e))
 have old4:∀ a o,st a=some o->cH a=some o/\a≠m/\a≠lf:=fun a o e=>⟨x4 _ _ (old3 a o e),fun z=>(by rw[z,hm0]at e;cases e),fun z=>(by rw[<-z,old3 a o e]at hlf;cases hlf)⟩
 walk_at"ex"
 walk_at"st"
 refine bI (by simp) fun wl cQ x5 hwl wl5=>?_
 have m5:=x5 _ _ m4
 have lf5:=x5 _ _ lf4
 have mwl:m≠wl:=fun z=>by rw[<-z,m4]at hwl;cases hwl
 have lfwl:lf≠wl:=fun z=>by rw[<-z,lf4]at hwl;cases hwl
 have old5:∀ a o,st a=some o->cQ a=some o/\a≠m/\a≠lf/\a≠wl:=fun a o e=>by
  obtain⟨q1,q2,q3⟩:=old4 a o e
  exact⟨x5 _ _ q1,q2,q3,fun z=>by rw[<-z,q1]at hwl;cases hwl⟩
 walk_at"ex"
 walk_at"st"
 refine fO (k:=k+3) hn hm hc m5 (by omega) (by omega) fun fE k6 m6=>?_
 have V0:=gW (ns:=ns) (k:=i2+1+1) (many:=3) (by omega)
 have V1:=gY (ns:=ns) (k:=i2+1+1) (many:=3) (by omega)
 generalize kW ns (i2+1+1) 3=v at V0 V1
 have lf6:=k6 lf _ (by simpa using mlf.symm) lf5
 have wl6:=k6 wl _ (by simpa using mwl.symm) wl5
 walk_at"ex"
 refine⟨by unfold dU;omega,?_⟩
 rw[pK]
 have hname:∀ n∈fs++gs,fI n=true:=fun n hn'=>OB n (n8 n hn')
 have fpos:0<(fs++gs).length:=by simp;omega
 have hdis:∀ n∈fs,n∉gs:=fun n h1 h2=>by
  rw[nq]at nd
  exact nd.2.2 n h1 n h2 rfl
 refine gE (fun j:Nat=>D.int (j:Nat)) (I:=WI (fun jK jP=>bσ at_ pieces fY ns fs gs m lf wl jK jP none none) (fs++gs) m lf wl fE lv v) (fun rest σ aA _ a ha=>?_) (fun x rest σ aA M ⟨j,jK,jP,i',ws,e1,e2,q1,q2,q3,q4,q5,q6,q7,q7',q8⟩ hM=>?_) (fun σ aA ⟨j,jK,jP,i',ws,e1,e2,q1,q2,q3,q4,q5,q6,q7,q7',q8⟩=>?_) _ _ _ ⟨0,none,none,i2+1+1,[],rfl,rfl,.refl,by omega,m6,by simpa [eU]using lf6,by simp [eU];omega,wl6,rfl,cu _,by simp⟩
 ·cases ha
 ·subst e2
  have hj:j<(a9 (1+v).toNat).length:=by
   by_cases z:j<(a9 (1+v).toNat).length
   ·exact z
   ·rw[fk (by omega)]at e1;cases e1
  rw[bw hj]at e1
  injection e1 with e3 e4
  simp only[ij]at hj
  simp only[bσ]
  walk_at"st"
  refine bI (by decide) fun u qJ x7 hu hu7=>?_
  walk_at"ex"
  refine fO (k:=k+3) hn hm hc (x7 _ _ q3) q2 (by omega) fun fD k8 m8=>?_
  have um:u≠m:=fun z=>by rw[z,q3]at hu;cases hu
  have u8:=k8 u _ (by simpa using um) hu7
  have w0:=gW (ns:=ns) (k:=i'+1) (many:=3) (by omega)
  have w1:=gY (ns:=ns) (k:=i'+1) (many:=3) (by omega)
  generalize kW ns (i'+1) 3=w at w0 w1
  have hpr:∃ c:Int,0<c/\c<=99/\fZ [D.int 3,D.int 9,D.int 99] w=some (.int c):=by
   have hw:w=0∨w=1∨w=2:=by omega
   rcases hw with rfl|rfl|rfl
   ·exact⟨3,by decide,by decide,EU⟩
   ·exact⟨9,by decide,by decide,UH⟩
   ·exact⟨99,by decide,by decide,UR⟩
  obtain⟨c,VJ,c99,hc'⟩:=hpr
  rw[dX u8,hc',bD]
  refine fO (k:=k+3) hn hm hc m8 (by omega) VJ fun kT k9 m9=>?_
  have y0:=gW (ns:=ns) (k:=i'+1+1) (many:=c) (by omega)
  have y1:=gY (ns:=ns) (k:=i'+1+1) (many:=c) (by omega)
  generalize kW ns (i'+1+1) c=y at y0 y1
  walk_at"ex"
  have kk9:bC [m,lf,wl] aA kT:=(x7.keep.trans (k8.mono (by simp))).trans (k9.mono (by simp))
  have lf9:kT lf=some (.lst [.int (lv-eU (ws.map (·.2)))]):=k9 lf _ (by simpa using mlf.symm) (k8 lf _ (by simpa using mlf.symm) (x7 _ _ q4))
  have wl9:kT wl=some (.lst (ws.map fun w:Int×Sy=>.tup [.int w.1,toD w.2])):=k9 wl _ (by simpa using mwl.symm) (k8 wl _ (by simpa using mwl.symm) (x7 _ _ q6))
  walk_at"st"
  rw[aE wl9]
  refine⟨True.intro,?_⟩
  refine tK (k:=k) hs hn hm hc fpos mlf 2 m9 lf9 (by omega) (by omega) fun s LR i10 o10' d10 c10 k10 hi10 m10 lf10=>?_
  have wl10:=k10 wl _ (by simp [mwl.symm,lfwl.symm]) wl9
  walk_at"ex"
  rw[aE wl10]
  refine⟨by simp only[aa];omega,?_⟩
  simp only[aF]
  have ec:eU ((ws++[(1+y,s)]).map (·.2))=eU (ws.map (·.2))+cnt s:=by rw[cx,tX];simp [eU]
  refine hM _ _ ⟨j+1,_,_,i10,ws++[(1+y,s)],e4,rfl,?_,hi10,?_,?_,?_,?_,by simp [q7],by omega,fun w' hw'=>?_⟩
  ·intro a o na e
   simp only[b9,bp,or_false,not_or]at na
   rw[aH na.2.2]
   exact k10 a o (by simp [na]) (kk9 a o (by simp [na]) (q1 a o (by simp [na]) e))
  ·rw[aH mwl];exact m10
  ·rw[aH lfwl,lf10,ec];simp;omega
  ·rw[ec];simp;omega
  ·rw[aN];simp
  ·rcases List.mem_append.mp hw' with hw'|hw'
   ·exact q8 w' hw'
   ·simp only[ah]at hw';subst hw'
    exact⟨by show 1<=1+y;omega,by show 1+y<=99;omega,o10',d10⟩
 ·-- fY
  subst e2
  have hj:(1+v).toNat<=j:=by
   by_cases z:j<(a9 (1+v).toNat).length
   ·rw[bw z]at e1;cases e1
   ·simpa using z
  have hws:ws.length<=3:=by omega
  refine RU (k:=k) (inm:=inm) hp hs hn hm hc (by omega) fpos hdis mlf mwl lfwl hmu hmu3 q2 q3 q4 (by omega) q6 hws fun ps ms fD z8 z7 m3 y8 p3 z6 y6 z2=>?_
  have w1:1<=ws.length:=by omega
  refine hQ ⟨fs,gs,ps,ms,ws⟩ fD ⟨⟨f1,f2,g1,g2,nd,hname,p3,fun s iG=>⟨(y8 s iG).1,bz (y8 s iG).2.1 (by decide)⟩,fun s iG=>(y8 s iG).2.2,m3,fun s iG=>⟨(z8 s iG).1,bz (z8 s iG).2 (by decide)⟩,w1,bz hws (by decide),fun w hw=>⟨(q8 w hw).1,(q8 w hw).2.1,(q8 w hw).2.2.1,bz (q8 w hw).2.2.2 (by decide)⟩⟩,fun s iG=>?_,z7,?_,n8⟩ fun a o e=>?_
  ·simp only[Bk.says,l5,p9]at iG
   rcases iG with(iG|iG)|⟨w,hw,rfl⟩
   ·exact(y8 s iG).2.1
   ·exact bz (z8 s iG).2 (by decide)
   ·exact bz (q8 w hw).2.2.2 (by decide)
  ·show((eU (ps++ms++ws.map (·.2)):Nat):Int)<=pieces
   rw[tX,tX]
   exact Pf y6 L1
  ·obtain⟨s1,s2,s3,s4⟩:=old5 a o e
   have t6:=k6 a o (by simpa using s2) s1
   exact z2 a o (by simp [s2,s3]) (q1 a o (by simp [s2,s3,s4]) t6)
end
end L3
end
section
namespace L3
open PySem
theorem QR {n:Nat}:∀(l:List Sy),(∀ s∈l,aK s<=4)->eH l<=l.length*15
 |[],_=>by simp [eH]
 |s::l,h=>by
  have h1:=HZ s
  have h2:=h s (by simp)
  have h3:=QR (n:=n) l fun x hx=>h x (by simp [hx])
  have h4:2 ^ aK s<=2 ^ 4:=cy (by decide) h2
  rw[iB]
  simp only[be]
  omega
theorem FR {names:List (List Nat)}{f:List Sy}{s:Sy}(hf:∀ x∈f,over names x)(hs:over names s):∀ x∈cY f s,over names x:=by
 unfold cY;split
 ·intro x hx
  rcases List.mem_append.mp hx with hx|hx
  ·exact hf x hx
  ·simp only[ah]at hx;subst hx;exact hs
 ·exact hf
theorem vQ {names:List (List Nat)}:∀(s:Sy){f:List Sy},(∀ x∈f,over names x)->over names s->∀ x∈aJ s f,over names x
 |.yes,_,hf,_=>hf
 |.no,_,hf,_=>hf
 |.cF _,_,hf,_=>hf
 |.one w s,_,hf,hs=>vQ s (FR hf hs) hs
 |.two w s t,_,hf,hs=>vQ t (vQ s (FR hf hs) hs.1) hs.2
theorem G3 {names:List (List Nat)}:∀(l:List Sy){f:List Sy},(∀ x∈f,over names x)->(∀ s∈l,over names s)->∀ x∈bX l f,over names x
 |[],_,hf,_=>hf
 |s::l,_,hf,hl=>G3 l (vQ s hf (hl s (by simp))) fun x hx=>hl x (by simp [hx])
section
variable {G:Prog}{k il ibo ipl imb ilm inm ic im dM is ipr ibk ich icp ist ie iw ipo iz irr iti io iri ima kU iph inh ibp ip ih:Nat}{st:aB}{E:XK}{ns:List Int}
theorem Q8 {b:Bk}{pieces fY:Int}(DR:Lh b pieces fY)(hp:pieces<=4):eH b.says<=200/\(∀ x∈b.says,aK x<=60)/\(bX b.says []).length<=4/\∀ s∈bX b.says [],over b.names s/\aK s<=8:=by
 have p1:=DR.ok.p1
 have m1:=DR.ok.m1
 have w2:=DR.ok.w2
 have hl:b.says.length<=11:=by simp [Bk.says];omega
 refine⟨?_,fun x hx=>by have:=DR.d4 x hx;omega,?_,fun s hs=>⟨G3 b.says (by simp) (fun s hs=>(qP DR.ok s hs).1) s hs,wI b.says (n:=8) (by simp) (fun x hx=>by have:=DR.d4 x hx;omega) s hs⟩⟩
 ·have:=QR (n:=0) b.says DR.d4;omega
 ·have:=IP b.says []
  have h2:=DR.cn
  simp at this;omega
end
end L3
end
section
namespace L3
open PySem
noncomputable def vZ:Fn:=⟨1,5,[.asg (.nm 1) (.lst [(.tup [])]),.gR (.nm 2) (some .range) [(.bi .len [(.v 0)])] [.asg (.nm 3) (.lst []),.gR (.nm 4) none [(.v 1)] [.ex (.cB .append (.v 3) [(.bin .add (.v 4) (.tup [(.c (.bl false))]))]),.ex (.cB .append (.v 3) [(.bin .add (.v 4) (.tup [(.c (.bl true))]))])],.asg (.nm 1) (.v 3)],.ret (.v 1)]⟩
noncomputable def C5:Fn:=⟨2,2,[.ret (.bi .all [(.comp 1 [1] [0] true none [(.fld (W "Rules") (W "promise_rows") (.v 0))] [] (.ix (.v 1) (.v 0)))])]⟩
noncomputable def CZ:Fn:=⟨2,2,[.ret (.bi .all [(.comp 1 [1] [0] true none [(.fld (W "Rules") (W "must_rows") (.v 0))] [] (.ix (.v 1) (.v 0)))])]⟩
noncomputable def AI:Fn:=⟨2,2,[.ret (.bi .sum [(.comp 2 [1] [0,1] false none [(.fld (W "Rules") (W "priced_rows") (.v 0))] [(.not_ (.ix (.v 2) (.v 1)))] (.v 0))])]⟩
noncomputable def DV:Fn:=⟨2,2,[.asg (.fl (W "Numbering") (W "met") (.v 0)) (.lst [(.v 1)]),.asg (.fl (W "Numbering") (W "numbers_met") (.v 0)) (.d1 (.v 1) (.c (.int 0)))]⟩
noncomputable def AJ:Fn:=⟨2,2,[.iff (.din true (.v 1) (.fld (W "Numbering") (W "numbers_met") (.v 0))) [.asg (.dk (.fld (W "Numbering") (W "numbers_met") (.v 0)) (.v 1)) (.bi .len [(.fld (W "Numbering") (W "met") (.v 0))]),.ex (.cB .append (.fld (W "Numbering") (W "met") (.v 0)) [(.v 1)])] [],.ret (.dix (.fld (W "Numbering") (W "numbers_met") (.v 0)) (.v 1))]⟩
noncomputable def cK:Nat->List (List Bool)
 |0=>[[]]
 |n+1=>(cK n).flatMap fun r=>[r++[false],r++[true]]
noncomputable def vm (names:List (List Nat))(aJ:List Sy)(m set:List Bool):Sy->Bool
 |.yes=>true
 |.no=>false
 |.cF n=>(set[names.idxOf n]?).getD false
 |.one w s=>if p1 w=true then fT (.one w s) ((m[aJ.idxOf (.one w s)]?).getD false) [vm names aJ m set s]else pV (.one w s) [vm names aJ m set s]
 |.two w s t=>if p2 w=true then fT (.two w s t) ((m[aJ.idxOf (.two w s t)]?).getD false) [vm names aJ m set s,vm names aJ m set t]else pV (.two w s t) [vm names aJ m set s,vm names aJ m set t]
theorem MJ {names:List (List Nat)}{aJ:List Sy}{m set:List Bool}{s:Sy}(h:bN s=true):vm names aJ m set s=fT s ((m[aJ.idxOf s]?).getD false) ((subs s).map (vm names aJ m set)):=by
 cases s with
 |one w a=>simp only[bN]at h;simp only[vm,h,if_true,subs,av,e9]
 |two w a b=>simp only[bN]at h;simp only[vm,h,if_true,subs,av,e9]
 |_=>cases h
theorem RL {names:List (List Nat)}{aJ:List Sy}{m set:List Bool}{s:Sy}(h:bN s=false)(hl:fK s=false):vm names aJ m set s=pV s ((subs s).map (vm names aJ m set)):=by
 cases s with
 |one w a=>simp only[bN]at h;simp only[vm,h,ag,if_false,subs,av,e9]
 |two w a b=>simp only[bN]at h;simp only[vm,h,ag,if_false,subs,av,e9]
 |cF n=>cases hl
 |_=>rfl
theorem jR:∀(n:Nat)(r:List Bool),r∈cK n->r.length=n
 |0,r,h=>by simp [cK]at h;subst h;rfl
 |n+1,r,h=>by
  simp only[cK,zt,b9,bp,or_false]at h
  obtain⟨q,hq,h|h⟩:=h<;>(subst h;simp [jR n q hq])
theorem IY:∀(n:Nat)(r:List Bool),r.length=n->r∈cK n
 |0,r,h=>by simp at h;subst h;simp [cK]
 |n+1,r,h=>by
  simp only[cK,zt,b9,bp,or_false]
  have hr:r≠[]:=by intro z;rw[z]at h;cases h
  refine⟨r.dropLast,IY n _ (by simp [h]),?_⟩
  have:=List.dropLast_concat_getLast hr
  cases hb:r.getLast hr with
  |false=>rw[hb]at this;exact .inl this.symm
  |true=>rw[hb]at this;exact .inr this.symm
theorem gT:∀ n:Nat,(cK n).length=2 ^ n
 |0=>rfl
 |n+1=>by
  have h:=gT n
  simp only[cK]
  have:∀ l:List (List Bool),(l.flatMap fun r=>[r++[false],r++[true]]).length=2*l.length:=fun l=>by
   induction l with
   |nil=>rfl
   |cons a l ih=>simp only[nt,bh,ih,be,ba];omega
  rw[this,h,yx];omega
theorem GG:∀ n:Nat,∃ r,cK n=ai n false::r
 |0=>⟨[],rfl⟩
 |n+1=>by
  obtain⟨r,e⟩:=GG n
  refine⟨(ai n false++[true])::r.flatMap (fun r=>[r++[false],r++[true]]),?_⟩
  simp only[cK,e,nt,cw,az]
  rw[List.replicate_succ']
theorem QM {α:Type}[DecidableEq α]:∀(l u:List α),l.Nodup->(∀ x∈l,x∈u)->l.length<=u.length
 |[],u,_,_=>cu _
 |x::l,u,nd,h=>by
  have hx:=h x (by simp)
  have nd':=List.nodup_cons.mp nd
  have ih:=QM l (u.erase x) nd'.2 fun y hy=>by
   have hne:y≠x:=fun e=>nd'.1 (e▸hy)
   exact(List.mem_erase_of_ne hne).mpr (h y (by simp [hy]))
  rw[List.length_erase_of_mem hx]at ih
  have:0<u.length:=List.length_pos_of_mem hx
  simp only[be];omega
inductive Mt (N:Nat)(hd:Option D)(st:aB)(rest:List Nat)(σ:St)(aA:aB):Prop
 |mk (t q:Nat)(o2 o3 o4:Option D)(e0:t<=N)(e1:rest=(a9 N).drop t)(e2:σ=[hd,some (.ref q),o2,o3,o4])(hq:st q=none)(x3:Ext st aA)(e5:aA q=some (.lst ((cK t).map aM)))
inductive Na (t:Nat)(hd:Option D)(q x u:Nat)(cH:aB)(xO:List (List Bool))(σ:St)(cQ:aB):Prop
 |mk (dn:List (List Bool))(o4:Option D)(f1:cK t=dn++xO)(f2:σ=[hd,some (.ref q),some (.int (x:Nat)),some (.ref u),o4])(f3:bC [u] cH cQ)(f4:cQ u=some (.lst ((dn.flatMap fun r=>[r++[false],r++[true]]).map aM)))
theorem Kt (l:List (List Bool)):(l.flatMap fun r=>[r++[false],r++[true]]).length=2*l.length:=by
 induction l with
 |nil=>rfl
 |cons a l ih=>simp only[nt,bh,ih,be,ba];omega
theorem YB {t:Nat}(h:t<=4):(cK t).length<=16:=by
 rw[gT];exact cy (n:=2) (by decide) h
theorem drop_cons {N t x:Nat}{rest:List Nat}(h:x::rest=(a9 N).drop t):t<N/\rest=(a9 N).drop (t+1):=by
 have ht:t<(a9 N).length:=by
  by_cases z:t<(a9 N).length
  ·exact z
  ·rw[fk (by omega)]at h;cases h
 rw[bw ht]at h
 injection h with _ h
 exact⟨by simpa using ht,h⟩
theorem drop_nil {N t:Nat}(h:[]=(a9 N).drop t):N<=t:=by
 by_cases z:t<(a9 N).length
 ·rw[bw z]at h;cases h
 ·simpa using z
theorem Y2 {l dn r:List (List Bool)}{n:Nat}(e:l=dn++r)(h:l.length<=n):dn.length<=n:=by
 rw[e,bh]at h;omega
section
variable {G:Prog}{k i:Nat}{st:aB}{Q:VK}{E:XK}
theorem EY (h:G.fns i=some vZ){ds:List D}(hd:ds.length<=4)(hQ:∀ p aA,st p=none->Ext st aA->aA p=some (.lst ((cK ds.length).map aM))->Q (.ref p) aA):aO G (k+1) i [.tup ds] st Q E:=by
 have hL:aZ=16777216:=rfl
 rw[aT h]
 simp only[vZ,start]
 refine⟨rfl,?_⟩
 walk_at"st"
 refine bI (by show 1<=aZ;decide) fun p aC x1 hp hp1=>?_
 walk_at"st"
 refine⟨by unfold dU;omega,?_⟩
 rw[show((ds.length:Int)).toNat=ds.length by omega,pK]
 have p1:aC p=some (.lst ((cK 0).map aM)):=hp1
 refine gE (fun j:Nat=>D.int (j:Nat)) (I:=Mt ds.length (some (.tup ds)) st) (fun rest σ aA _ a ha=>?_) (fun x rest σ aA M I hM=>?_) (fun σ aA I=>?_) _ _ _ ⟨0,p,none,none,none,cu _,rfl,rfl,hp,x1,p1⟩
 ·cases ha
 ·obtain⟨t,q,o2,o3,o4,e0,e1,e2,hq,x3,e5⟩:=I
  subst e2
  obtain⟨ht,e4⟩:=drop_cons e1
  have iZ:(cK t).length<=16:=YB (by omega)
  clear e1
  walk_at"st"
  refine bI (by simp) fun u cH x4 hu hu4=>?_
  have qu:q≠u:=fun z=>by rw[<-z,e5]at hu;cases hu
  walk_at"st"
  rw[aE (x4 _ _ e5)]
  refine gE aM (I:=Na t (some (.tup ds)) q x u cH) (fun xO σ cQ J=>?_) (fun y xO σ cQ M2 J hM2=>?_) (fun σ cQ J=>?_) _ _ _ ⟨[],o4,rfl,rfl,.refl,hu4⟩
  ·obtain⟨dn,o4,f1,f2,f3,f4⟩:=J
   intro a ha
   simp only[ah]at ha
   subst ha
   rw[x4 _ _ e5,f3 _ _ (by simpa using qu) (x4 _ _ e5)]
  ·obtain⟨dn,o4,f1,f2,f3,f4⟩:=J
   subst f2
   have hl:(dn.flatMap fun r=>[r++[false],r++[true]]).length<=40:=by have:=Y2 f1 iZ;rw[Kt];omega
   have hyl:y.length=t:=jR t y (by rw[f1];simp)
   simp only[aM]
   walk_at"st"
   rw[aE f4]
   refine⟨True.intro,by simp only[aa];omega,?_⟩
   rw[aE f4]
   refine⟨by simp only[aa];omega,?_⟩
   walk_at"st"
   rw[aE aN]
   refine⟨True.intro,by simp only[aa];omega,?_⟩
   rw[aE aN]
   refine⟨by simp only[aa,bh,be,ba];omega,?_⟩
   simp only[aF]
   rw[WQ]
   refine hM2 _ _ ⟨dn++[y],_,by simp [f1],rfl,fun a o na e=>by rw[aH (by simpa using na)];exact f3 a o na e,?_⟩
   rw[aN]
   simp [aM,xj]
  ·obtain⟨dn,o4,f1,f2,f3,f4⟩:=J
   subst f2
   rw[b7]at f1
   walk_at"st"
   simp only[aF]
   refine hM _ cQ ⟨t+1,u,_,_,_,by omega,e4,rfl,?_,fun a o e=>f3 a o (fun z=>?_) (x4 _ _ (x3 _ _ e)),?_⟩
   ·cases hz:st u with
    |none=>rfl
    |some o=>rw[x3 _ _ hz]at hu;cases hu
   ·simp only[ah]at z
    rw[z]at e
    rw[x3 _ _ e]at hu;cases hu
   ·rw[f4,<-f1];rfl
 ·obtain⟨t,q,o2,o3,o4,e0,e1,e2,hq,x3,e5⟩:=I
  subst e2
  have ht:=drop_nil e1
  have et:t=ds.length:=by omega
  subst et
  walk_at"st"
  exact hQ q aA hq x3 e5
end
end L3
end
section
namespace L3
open PySem
noncomputable def eZ (ss:List Sy)(V:Sy->Bool):Bool:=ss.all V
noncomputable def oS (ws:List (Int×Sy))(V:Sy->Bool):Int:=((ws.filter fun w=>!V w.2).map (·.1)).sum
noncomputable def KN (l d:Nat):List (List Nat×D):=[(W "met", .ref l),(W "numbers_met", .ref d)]
structure mC (st:aB)(n l d:Nat)(met:List (List Bool)):Prop where
 ins:st n=some (.ins (W "Numbering") (KN l d))
 dic:st d=some (.tab (met.map aM) (tB met.length))
 met:st l=some (.lst (met.map aM))
theorem sZ {p l1 l2 l3:Nat}:bV (sR p l1 l2 l3) (W "table")=some (.ref p):=by simp only[sR,bV];rw[if_pos cv]
theorem Dy {p l1 l2 l3:Nat}:bV (sR p l1 l2 l3) (W "promise_rows")=some (.ref l1):=by simp only[sR,bV];rw[if_neg (by decide +kernel),if_pos cv]
theorem El {p l1 l2 l3:Nat}:bV (sR p l1 l2 l3) (W "must_rows")=some (.ref l2):=by simp only[sR,bV];rw[if_neg (by decide +kernel),if_neg (by decide +kernel),if_pos cv]
theorem Dn {p l1 l2 l3:Nat}:bV (sR p l1 l2 l3) (W "priced_rows")=some (.ref l3):=by simp only[sR,bV];rw[if_neg (by decide +kernel),if_neg (by decide +kernel),if_neg (by decide +kernel),if_pos cv]
theorem KH {p l1 l2 l3:Nat}{f:List Nat}(h1:W "table" ≠ f)(h2:W "promise_rows" ≠ f)(h3:W "must_rows" ≠ f)(h4:W "priced_rows" ≠ f):bV (sR p l1 l2 l3) f=none:=by
 simp only[sR,bV];rw[if_neg h1,if_neg h2,if_neg h3,if_neg h4]
theorem A2 {l d:Nat}:bV (KN l d) (W "met")=some (.ref l):=by simp only[KN,bV];rw[if_pos cv]
theorem FE {l d:Nat}:bV (KN l d) (W "numbers_met")=some (.ref d):=by simp only[KN,bV];rw[if_neg (by decide +kernel),if_pos cv]
theorem Fu {l d:Nat}{f:List Nat}(h1:W "met" ≠ f)(h2:W "numbers_met" ≠ f):bV (KN l d) f=none:=by simp only[KN,bV];rw[if_neg h1,if_neg h2]
theorem FN {st:aB}(a b:List Bool):bT st (aM a) (aM b)=decide (a=b):=by
 rw[LM _ _ (mE a)]
 simp only[aM,bK]
 induction a generalizing b with
 |nil=>cases b<;>simp [fM]
 |cons x a ih =>
 cases b with
 |nil=>simp [fM]
 |cons y b =>
  simp only[av,fM,bK,ih,pe]
  by_cases h1:x=y<;>by_cases h2:a=b<;>simp [h1,h2]
theorem GO {st:aB}(a:List Bool):plainS st (aM a):=⟨xB _ (mE a),bz (uK a) (by decide)⟩
theorem B1 {st:aB}(l:List (List Bool)):dW st (l.map aM):=⟨pL _ (wG l).1,bz (wG l).2 (by decide)⟩
theorem YY {st:aB}(m:List Bool)(met:List (List Bool)):((met.map aM).any fun d=>bT st d (aM m))=met.contains m:=by
 induction met with
 |nil=>rfl
 |cons x met ih =>
 simp only[av,jk,FN,ih,l8]
 congr 1
 by_cases h:x=m
 ·subst h;simp
 ·rw[decide_eq_false h];exact(beq_eq_false_iff_ne.mpr fun z=>h z.symm).symm
theorem GN {st:aB}{m:List Bool}:∀{met:List (List Bool)},m∈met->findD st (aM m) (met.map aM)=some (met.idxOf m)
 |[],h=>by cases h
 |x::r,h=>by
  simp only[av,findD,FN]
  by_cases e:x=m
  ·subst e;simp [i7]
  ·rw[if_neg (by simpa using e),GN (by simpa [cz e]using h)]
   rw[i7,beq_eq_false_iff_ne.mpr e];rfl
theorem NI (a b:List Bool):bK (aM a) (aM b)=decide (a=b):=(LM (st:=fun _=>none) _ _ (mE a)).symm.trans (FN a b)
theorem KE (m:List Bool)(met:List (List Bool)):((met.map aM).any fun k=>bK k (aM m))=met.contains m:=by
 induction met with
 |nil=>rfl
 |cons x met ih =>
 simp only[av,jk,NI,ih,l8]
 congr 1
 by_cases h:x=m
 ·subst h;simp
 ·rw[decide_eq_false h];exact(beq_eq_false_iff_ne.mpr fun z=>h z.symm).symm
theorem tJ (m:List Bool):keyed (aM m):=by
 refine⟨?_,?_⟩
 ·induction m with
  |nil=>rfl
  |cons a l ih=>simp only[av,jG,jC,fe];exact ih
 ·have:cI (m.map D.bl)=0:=by
   induction m with
   |nil=>rfl
   |cons a l ih=>simp only[av,cI,cL,ih];rfl
  omega
theorem KP {m:List Bool}:∀{met:List (List Bool)}{vs:List D}{d:D},m∈met->vs.length=met.length->vs[met.idxOf m]? = some d->kR (met.map aM) vs (aM m)=some d
 |[],_,_,h,_,_=>by cases h
 |x::r,[],_,_,h,_=>by simp at h
 |x::r,v::vs,d,h,hl,hv=>by
  simp only[av,kR,NI]
  by_cases e:x=m
  ·subst e
   simp [i7]at hv
   simp [hv]
  ·rw[if_neg (by simpa using e)]
   rw[i7,beq_eq_false_iff_ne.mpr e]at hv
   exact KP (by simpa [cz e]using h) (by simpa using hl) (by simpa using hv)
noncomputable def gC (met:List (List Bool))(m:List Bool):List (List Bool):=if met.contains m then met else met++[m]
set_option tactic.hygienic true in
theorem CM (met:List (List Bool))(m:List Bool):m∈gC met m:=by
 unfold gC;split
 ·rename_i h;simpa using h
 ·simp
section
variable {G:Prog}{k i:Nat}{st:aB}{Q:VK}{E:XK}{b:Bk}{r p l1 l2 l3:Nat}{R:List Sy}{V:Sy->Bool}{q:Nat}
theorem RJ (hR:∀ s∈R,True){s:Sy}(hs:s∈R)(hq:st q=some (.lst (R.map fun s=>.bl (V s)))){Q':VK}:nZ (.ref q) (.int (R.idxOf s:Nat)) st Q'=Q' (.bl (V s)) st:=by
 have dP:=List.idxOf_lt_length_iff.mpr hs
 rw[dX hq,dR (by simpa using dP),bc,aj dP]
 simp [cZ]
theorem GU {f:List Nat}{l:Nat}{ss:List Sy}(h:G.fns i=some ⟨2,2,[.ret (.bi .all [(.comp 1 [1] [0] true none [(.fld (W "Rules") f (.v 0))] [] (.ix (.v 1) (.v 0)))])]⟩)(T:iO st r p l1 l2 l3 b R)(hf:bV (sR p l1 l2 l3) f=some (.ref l))(hl:st l=some (.lst (ss.map fun s=>.int (R.idxOf s:Nat))))(hss:∀ s∈ss,s∈R)(hn:ss.length<=1000)(hq:st q=some (.lst (R.map fun s=>.bl (V s))))
  (hQ:∀ aA,Ext st aA->Q (.bl (eZ ss V)) aA):aO G (k+1) i [.ref r,.ref q] st Q E:=by
 have hL:aZ=16777216:=rfl
 rw[aT h]
 simp only[start]
 refine⟨rfl,?_⟩
 walk_at"st"
 rw[cT T.ins hf,mF,aE hl]
 refine gH (fun s:Sy=>D.int (R.idxOf s:Nat)) (fun s=>.bl (V s)) ss [] st (fun aX y a ha=>?_) (fun s hs aX K y1 hK=>?_) (by simp only[ba];omega) fun aG y2=>?_
 ·simp only[ah]at ha
  subst ha
  rw[hl,y _ _ hl]
 ·show nZ _ _ aX _
  rw[RJ (fun _ _=>trivial) (hss s hs) (y1 _ _ hq)]
  exact hK aX .refl
 rw[az]
 refine bI (by simp only[aa];omega) fun pp aV y3 hpp qE=>?_
 walk_at"ex"
 rw[aE qE,wY,bD,p8]
 exact hQ aV (y2.trans y3)
theorem W6 (h:G.fns i=some C5)(T:iO st r p l1 l2 l3 b R)(B:b.Ok)(hq:st q=some (.lst (R.map fun s=>.bl (V s))))(hQ:∀ aA,Ext st aA->Q (.bl (eZ b.ps V)) aA):aO G (k+1) i [.ref r,.ref q] st Q E :=
 GU h T Dy T.pr (fun s hs=>T.all s (by simp [Bk.says,hs])) (by have:=B.p1;omega) hq hQ
theorem ZH (h:G.fns i=some CZ)(T:iO st r p l1 l2 l3 b R)(B:b.Ok)(hq:st q=some (.lst (R.map fun s=>.bl (V s))))(hQ:∀ aA,Ext st aA->Q (.bl (eZ b.ms V)) aA):aO G (k+1) i [.ref r,.ref q] st Q E :=
 GU h T El T.mu (fun s hs=>T.all s (by simp [Bk.says,hs])) (by have:=B.m1;omega) hq hQ
theorem LP (V:Sy->Bool)(ws:List (Int×Sy)):intsOf (ws.filterMap fun w=>if(!V w.2)=true then some (D.int w.1)else none)=some ((ws.filter fun w=>!V w.2).map (·.1)):=by
 induction ws with
 |nil=>rfl
 |cons w ws ih =>
 cases hv:V w.2 with
 |true=>simp [eh,gb,hv]at ih ⊢;exact ih
 |false =>
  simp only[eh,gb,hv,d5,if_true,intsOf,av]
  rw[ih];rfl
theorem YJ (h:G.fns i=some AI)(T:iO st r p l1 l2 l3 b R)(B:b.Ok)(hq:st q=some (.lst (R.map fun s=>.bl (V s))))(hQ:∀ aA,Ext st aA->Q (.int (oS b.ws V)) aA):aO G (k+1) i [.ref r,.ref q] st Q E:=by
 have hL:aZ=16777216:=rfl
 have w2:=B.w2
 rw[aT h]
 simp only[AI,start]
 refine⟨rfl,?_⟩
 walk_at"st"
 rw[cT T.ins Dn,mF,aE T.wi]
 refine jT (fun w:Int×Sy=>D.tup [.int w.1,.int (R.idxOf w.2:Nat)]) (fun w=>if(!V w.2)=true then some (D.int w.1)else none) b.ws [] st (fun aX y a ha=>?_) (fun w hw aX K y1 hK=>?_) (by simp only[ba];omega) fun aG y2=>?_
 ·simp only[ah]at ha
  subst ha
  rw[T.wi,y _ _ T.wi]
 ·have hs:w.2∈R:=T.all w.2 (by simp only[Bk.says,l5,p9];exact .inr ⟨w,hw,rfl⟩)
  walk_at"ex"
  rw[RJ (fun _ _=>trivial) hs (y1 _ _ hq)]
  walk_at"ex"
  have:=hK aX .refl
  cases hv:V w.2 with
  |true=>simpa [hv]using this
  |false=>simpa [hv]using this
 rw[az]
 refine bI (by have:=sh (fun w:Int×Sy=>if(!V w.2)=true then some (D.int w.1)else none) b.ws;omega) fun pp aV y3 hpp qE=>?_
 walk_at"ex"
 rw[aE qE,LP,bD]
 exact hQ aV (y2.trans y3)
theorem ZM (h:G.fns i=some DV){n:Nat}{m:List Bool}(hn:st n=some (.ins (W "Numbering") []))(hQ:∀ aA l d,st l=none->st d=none->bC [n] st aA->mC aA n l d [m]->Q .non aA):aO G (k+1) i [.ref n,aM m] st Q E:=by
 rw[aT h]
 simp only[DV,start]
 refine⟨rfl,?_⟩
 walk_at"st"
 refine bI (by show 1<=aZ;decide) fun l aC x1 hl hl1=>?_
 walk_at"ex"
 rw[lZ (x1 _ _ hn) (by simp),gL rfl]
 have nl:l≠n:=fun z=>by rw[z,hn]at hl;cases hl
 walk_at"st"
 rw[Mj]
 intro d hd
 have dn:d≠n:=fun z=>by rw[z,aN]at hd;cases hd
 have dl:d≠l:=fun z=>by rw[z,aH nl,hl1]at hd;cases hd
 walk_at"ex"
 rw[OQ aN (tJ m) rfl (by decide)]
 rw[lZ (fs:=[(W "met", .ref l)]) (by rw[aH dn.symm,aH dn.symm,aN]) (by simp),gL (by simp only[bV];rw[if_neg (by decide +kernel)])]
 simp only[aF]
 have hd0:st d=none:=by
  cases hz:st d with
  |none=>rfl
  |some o=>rw[aH dn,x1 _ _ hz]at hd;cases hd
 refine hQ _ l d hl hd0 (fun a o na e=>?_) ⟨by rw[aN];rfl,by rw[aH dn,aN];rfl,by rw[aH nl,aH dl.symm,aH dl.symm,aH nl];exact hl1⟩
 have an:a≠n:=by simpa using na
 have ad:a≠d:=fun z=>by rw[z,hd0]at e;cases e
 rw[aH an,aH ad,aH ad,aH an]
 exact x1 _ _ e
theorem XM (h:G.fns i=some AJ){n l d:Nat}{m:List Bool}{met:List (List Bool)}(N:mC st n l d met)(hlen:met.length<=1000)(hQ:∀ aA,bC [l,d] st aA->mC aA n l d (gC met m)->Q (.int ((gC met m).idxOf m:Nat)) aA):aO G (k+1) i [.ref n,aM m] st Q E:=by
 have hL:aZ=16777216:=rfl
 have nl:n≠l:=fun z=>by have:=N.ins;rw[z,N.met]at this;cases this
 have nd:n≠d:=fun z=>by have:=N.ins;rw[z,N.dic]at this;cases this
 have ld:l≠d:=fun z=>by have:=N.met;rw[z,N.dic]at this;cases this
 rw[aT h]
 simp only[AJ,start]
 refine⟨rfl,?_⟩
 have fin:∀ aC,bC [l,d] st aC->mC aC n l d (gC met m)->cR (aO G k) G.sub [.ret (.dix (.fld (W "Numbering") (W "numbers_met") (.v 0)) (.v 1))] ⟨fun _ aA=>Q .non aA,Q,fun _ _=>False,fun _ _=>False,fun c _ aA=>E c aA⟩ [some (.ref n),some (aM m)] aC:=fun aC k1 N1=>by
  walk_at"st"
  rw[cT N1.ins FE]
  walk_at"ex"
  rw[AB N1.dic (tJ m) (KP (CM met m) (MM _) (RY (List.idxOf_lt_length_of_mem (CM met m))))]
  exact hQ aC k1 N1
 walk_at"st"
 rw[cT N.ins FE,Q7 N.dic (tJ m),KE]
 cases hc:met.contains m with
 |true =>
  walk_at"ex"
  (try simp only[if_true,d7,ag,if_false,aF])
  have e:gC met m=met:=by unfold gC;rw[hc];rfl
  exact fin st .refl (by rw[e];exact N)
 |false =>
  walk_at"ex"
  (try simp only[d5,if_true])
  walk_at"st"
  rw[cT N.ins A2]
  walk_at"ex"
  rw[cN N.met,cT N.ins FE]
  walk_at"ex"
  rw[OQ N.dic (tJ m) (by rw[KE];exact hc) (by simp only[aa];omega)]
  walk_at"st"
  have m1:(put st d (.tab (met.map aM++[aM m]) (tB met.length++[.int ((met.map aM).length:Nat)]))) l=some (.lst (met.map aM)):=by rw[aH ld];exact N.met
  rw[cT (by rw[aH nd];exact N.ins) A2,vR,aE m1]
  refine⟨True.intro,?_⟩
  walk_at"ex"
  rw[aE m1]
  refine⟨by simp only[aa];omega,?_⟩
  simp only[aF]
  have e:gC met m=met++[m]:=by unfold gC;rw[hc];rfl
  refine fin _ (fun a o na e=>?_) ⟨by rw[aH nl,aH nd];exact N.ins,by rw[aH ld.symm,aN,e];simp [tB,l4],by rw[aN,e];simp⟩
  simp only[b9,bp,or_false,not_or]at na
  rw[aH na.1,aH na.2];exact e
end
end L3
end
section
namespace L3
open PySem
noncomputable def DG (kC ifk kU:Nat):Fn:=⟨3,4,[.asg (.nm 3) (.ix (.call kC [(.ix (.v 0) (.c (.int 1)))]) (.c (.int 0))),.ret (.comp 1 [1,2,3] [0] true none [(.call kC [(.ix (.v 0) (.c (.int 0)))])] [(.mcl (W "Rules") (W "foe_keeps") ifk (.v 1) [(.mcl (W "Table") (W "held_at") kU (.fld (W "Rules") (W "table") (.v 1)) [(.v 2),(.bin .add (.v 0) (.v 3))])])] (.v 0))]⟩
noncomputable def LK (kC kU imk ino ima ilo:Nat):Fn:=⟨5,9,[.asg (.nm 5) (.lst []),.gR (.nm 6) none [(.call kC [(.ix (.v 0) (.c (.int 1)))])] [.asg (.nm 7) (.mcl (W "Table") (W "held_at") kU (.fld (W "Rules") (W "table") (.v 1)) [(.v 3),(.bin .add (.v 4) (.v 6))]),.iff (.mcl (W "Rules") (W "friend_keeps") imk (.v 1) [(.v 7)]) [.asg (.nm 8) (.mcl (W "Numbering") (W "number_of") ino (.v 2) [(.mcl (W "Table") (W "memory_after") ima (.fld (W "Rules") (W "table") (.v 1)) [(.v 7)])]),.ex (.cB .append (.v 5) [(.tup [(.v 6),(.mcl (W "Rules") (W "loss_at") ilo (.v 1) [(.v 7)]),(.v 8)])])] []],.ret (.bi .tuple [(.v 5)])]⟩
noncomputable def Bk.aJ (b:Bk):List Sy:=bX b.says []
noncomputable def Bk.vm (b:Bk)(m set:List Bool):Sy->Bool:=L3.vm b.names b.aJ m set
noncomputable def Bk.pN (b:Bk)(m set:List Bool):List Bool:=b.aJ.map fun s=>b.vm m set (lW s)
noncomputable abbrev lO:=List Bool×Int×Nat
noncomputable def pU (a:lO):D:=.tup [aM a.1,.int a.2.1,.int (a.2.2:Nat)]
noncomputable def dH (b:Bk)(m aU:List Bool)(x:List lO×List (List Bool))(fr:List Bool):List lO×List (List Bool) :=
 if eZ b.ms (b.vm m (aU++fr))=true then(x.1++[(fr,oS b.ws (b.vm m (aU++fr)),(gC x.2 (b.pN m (aU++fr))).idxOf (b.pN m (aU++fr)))],gC x.2 (b.pN m (aU++fr)))else x
noncomputable def jY (b:Bk)(m aU:List Bool)(met:List (List Bool)):List lO×List (List Bool):=(cK b.gs.length).foldl (dH b m aU) ([],met)
noncomputable def oU (b:Bk)(m:List Bool):List (List Bool):=(cK b.fs.length).filter fun aU=>eZ b.ps (b.vm m (aU++ai b.gs.length false))
structure iR (n:Nat)(met:List (List Bool)):Prop where
 nd:met.Nodup
 len:∀ m∈met,m.length=n
theorem iR.QA {n:Nat}{met:List (List Bool)}(h:iR n met)(hn:n<=4):met.length<=16:=by
 have h1:=QM met (cK n) h.nd fun m hm=>IY n m (h.len m hm)
 rw[gT]at h1
 have:2 ^ n<=2 ^ 4:=cy (by decide) hn
 omega
theorem iR.add {n:Nat}{met:List (List Bool)}(h:iR n met){m:List Bool}(hm:m.length=n):iR n (gC met m):=by
 unfold gC
 cases hc:met.contains m with
 |true=>exact h
 |false =>
 have hn:m∉met:=by simpa using hc
 refine⟨?_,fun x hx=>?_⟩
 ·show(met++[m]).Nodup
  rw[nq]
  exact⟨h.nd,by simp,fun a ha c hc'=>by simp only[ah]at hc';subst hc';exact fun z=>hn (z▸ha)⟩
 ·rcases List.mem_append.mp (show x∈met++[m]from hx)with hx|hx
  ·exact h.len x hx
  ·simp only[ah]at hx;subst hx;exact hm
theorem M8 (b:Bk)(m set:List Bool):(b.pN m set).length=b.aJ.length:=by simp [Bk.pN]
theorem L7 {b:Bk}{m aU fr:List Bool}{x:List lO×List (List Bool)}(h:iR b.aJ.length x.2):iR b.aJ.length (dH b m aU x fr).2:=by
 unfold dH;split
 ·exact h.add (M8 b m _)
 ·exact h
theorem uA {b:Bk}{m aU:List Bool}:∀(l:List (List Bool)){x:List lO×List (List Bool)},iR b.aJ.length x.2->iR b.aJ.length (l.foldl (dH b m aU) x).2
 |[],_,h=>h
 |fr::l,_,h=>uA l (L7 h)
section
variable {G:Prog}{k i kC ifk kU imk ino ima ilo iph inh:Nat}{st:aB}{Q:VK}{E:XK}{b:Bk}{r p l1 l2 l3:Nat}{R:List Sy}
theorem K0 (hha:G.fns kU=some (tS iph inh))(hn:G.fns inh=some wQ)(hpa:G.fns iph=some qL)(T:iO st r p l1 l2 l3 b R){m set:List Bool}(hm:m.length=b.aJ.length)(hs:set.length=b.names.length)
  (hQ:∀ aA q,st q=none->Ext st aA->aA q=some (.lst (R.map fun s=>.bl (b.vm m set s)))->Q (.ref q) aA):aO G (k+2) kU [.ref p,aM m,aM set] st Q E:=by
 obtain⟨lp,lr,ld,lm,js,T1,hlm,hjl,hjs,hpast⟩:=T.tab.h
 refine X5 hha hn hpa T1 (mem:=m) (set:=set) (b.vm m set) (fun n hn'=>?_) (fun s iG hps=>⟨(m[b.aJ.idxOf s]?).getD false,?_,MJ hps⟩) (fun s h1 h2=>RL h1 h2) hQ
 ·have dP:b.names.idxOf n<set.length:=by rw[hs];exact List.idxOf_lt_length_iff.mpr hn'
  simp only[Bk.vm,vm]
  rw[aj dP];rfl
 ·have dP:b.aJ.idxOf s<m.length:=by rw[hm];exact List.idxOf_lt_length_iff.mpr iG
  show m[b.aJ.idxOf s]? = _
  rw[aj dP];rfl
theorem XB (hma:G.fns ima=some B7)(T:iO st r p l1 l2 l3 b R)(kK:b.aJ.length<=4){m set:List Bool}{q:Nat}(hq:st q=some (.lst (R.map fun s=>.bl (b.vm m set s))))(hQ:∀ aA,Ext st aA->Q (aM (b.pN m set)) aA):aO G (k+1) ima [.ref p,.ref q] st Q E:=by
 obtain⟨lp,lr,ld,lm,js,T1,hlm,hjl,hjs,hpast⟩:=T.tab.h
 refine Fv (aJ:=b.aJ) hma T1.ins (lm:=lm) (by rw[lL (by decide +kernel) (by decide +kernel) (by decide +kernel) (by decide +kernel)];simp only[QZ,bV];rw[if_neg (by decide +kernel),if_pos cv]) hlm hq hjl (by omega) hjs fun aA x=>?_
 have e:(b.aJ.map fun s=>D.bl (b.vm m set (lW s)))=(b.pN m set).map .bl:=by simp [Bk.pN]
 rw[e]
 exact hQ aA x
theorem JX {T:List Nat}{lp lr ld lm:Nat}{names:List (List Nat)}{aJ:List Sy}(h1:W "names" ≠ T)(h2:W "pieces" ≠ T)(h3:W "rows" ≠ T)(h4:W "row_of" ≠ T)(h5:W "first_memory" ≠ T)(h6:W "remembered_rows" ≠ T):bV (pI names lp lr ld++QZ aJ lm) T=none:=by
 rw[lL h1 h2 h3 h4];simp only[QZ,bV];rw[if_neg h5,if_neg h6]
theorem Y0 (h:G.fns i=some (DG kC ifk kU))(hse:G.fns kC=some vZ)(hfk:G.fns ifk=some C5)(hha:G.fns kU=some (tS iph inh))(hn:G.fns inh=some wQ)(hpa:G.fns iph=some qL)(T:iO st r p l1 l2 l3 b R)(B:b.Ok){m:List Bool}(hm:m.length=b.aJ.length)
  (hQ:∀ q aA,st q=none->Ext st aA->aA q=some (.lst ((oU b m).map aM))->Q (.ref q) aA):aO G (k+3) i [b.d,.ref r,aM m] st Q E:=by
 have hL:aZ=16777216:=rfl
 have f2:=B.f2
 have g2:=B.g2
 have iH:b.names.length=b.fs.length+b.gs.length:=by simp [Bk.names]
 rw[aT h]
 simp only[DG,start,Bk.d]
 refine⟨rfl,?_⟩
 walk_at"st"
 refine EY (k:=k+1) hse (by simp only[aa];omega) fun u aC hu x1 hu1=>?_
 rw[aa]at hu1
 obtain⟨rr,er⟩:=GG b.gs.length
 walk_at"ex"
 rw[dX hu1,er,av,EU,bD]
 walk_at"ex"
 walk_at"st"
 refine EY (k:=k+1) hse (by simp only[aa];omega) fun u2 aG hu2 x2 hu22=>?_
 rw[aa]at hu22
 walk_at"ex"
 rw[aE hu22]
 have T2:=T.keep (x1.trans x2)
 have iZ:(cK b.fs.length).length<=16:=by rw[gT];exact cy (n:=2) (by decide) (by omega:b.fs.length<=4)
 obtain⟨lp,lr,ld,lm,js,T2',_⟩:=T2.tab.h
 refine jT aM (fun aU=>if eZ b.ps (b.vm m (aU++ai b.gs.length false))=true then some (aM aU)else none) (cK b.fs.length) [] aG (fun aX y a ha=>?_) (fun aU hf aX K y1 hK=>?_) (by simp only[ba];omega) fun aV y3=>?_
 ·simp only[ah]at ha
  subst ha
  rw[hu22,y _ _ hu22]
 ·have T3:=T2.keep y1
  have hfl:=jR _ _ hf
  walk_at"ex"
  rw[kZ T3.ins (KH (by decide +kernel) (by decide +kernel) (by decide +kernel) (by decide +kernel))]
  refine⟨True.intro,?_⟩
  rw[cT T3.ins sZ]
  rw[kZ (T2'.keep y1).ins (JX (by decide +kernel) (by decide +kernel) (by decide +kernel) (by decide +kernel) (by decide +kernel) (by decide +kernel))]
  refine⟨True.intro,?_⟩
  have ea:iC .add (aM aU) (aM (ai b.gs.length false))=fun st Q=>(aU.map D.bl).length+((ai b.gs.length false).map D.bl).length<=aZ/\Q (aM (aU++ai b.gs.length false)) st:=by
   funext st Q
   simp only[aM,EK,cx]
  rw[ea]
  refine⟨by simp only[aa,ki];omega,?_⟩
  refine K0 hha hn hpa T3 hm (by simp [hfl,iH]) fun cH q _ y4 hq=>?_
  refine W6 (k:=k+1) hfk (T3.keep y4) B hq fun cQ y5=>?_
  walk_at"ex"
  have:=hK cQ (y4.trans y5)
  cases hv:eZ b.ps (b.vm m (aU++ai b.gs.length false))with
  |true=>simpa [hv]using this
  |false=>simpa [hv]using this
 rw[az]
 have ef:((cK b.fs.length).filterMap fun aU=>if eZ b.ps (b.vm m (aU++ai b.gs.length false))=true then some (aM aU)else none)=(oU b m).map aM:=by
  unfold oU
  generalize cK b.fs.length=l
  induction l with
  |nil=>rfl
  |cons a l ih =>
   by_cases hv:eZ b.ps (b.vm m (a++ai b.gs.length false))=true
   ·simp only[eh,gb,hv,if_true,av,ih]
   ·simp only[eh,gb,hv,ih];simp [hv]
 rw[ef]
 refine bI (by simp only[aa];have:=fu (fun aU=>eZ b.ps (b.vm m (aU++ai b.gs.length false))) (cK b.fs.length);unfold oU;omega) fun q cH y4 hq hq4=>?_
 refine hQ q cH ?_ (((x1.trans x2).trans y3).trans y4) hq4
 cases hz:st q with
 |none=>rfl
 |some o=>rw[((x1.trans x2).trans y3) _ _ hz]at hq;cases hq
end
end L3
end
section
namespace L3
open PySem
noncomputable def HX (ich iri ini ifs ian:Nat):Fn:=⟨1,7,[.ex (.call ich [(.v 0)]),.asg (.nm 1) (.mk (W "Rules") iri [(.v 0)]),.asg (.nm 2) (.mk (W "Numbering") ini [(.fld (W "Table") (W "first_memory") (.fld (W "Rules") (W "table") (.v 1)))]),.asg (.nm 3) (.lst []),.whl (.cmp .lt (.bi .len [(.v 3)]) (.bi .len [(.fld (W "Numbering") (W "met") (.v 2))])) [.asg (.nm 4) (.ix (.fld (W "Numbering") (W "met") (.v 2)) (.bi .len [(.v 3)])),.asg (.nm 5) (.lst []),.gR (.nm 6) none [(.call ifs [(.v 0),(.v 1),(.v 4)])] [.ex (.cB .append (.v 5) [(.tup [(.v 6),(.call ian [(.v 0),(.v 1),(.v 2),(.v 4),(.v 6)])])])],.ex (.cB .append (.v 3) [(.tup [(.v 4),(.bi .tuple [(.v 5)])])])],.ret (.v 3)]⟩
theorem mC.keep {st aA:aB}{n l d:Nat}{met:List (List Bool)}(N:mC st n l d met)(h:Ext st aA):mC aA n l d met:=⟨h _ _ N.ins,h _ _ N.dic,h _ _ N.met⟩
theorem CD {sI st aA:aB}{as:List Nat}(x:Ext sI st)(k:bC as st aA)(h:∀ a∈as,sI a=none):Ext sI aA:=fun a o e=>k a o (fun z=>by rw[h a z]at e;cases e) (x a o e)
theorem jA {st aA:aB}{a:Nat}(x:Ext st aA)(h:aA a=none):st a=none:=by
 cases hz:st a with
 |none=>rfl
 |some o=>rw[x _ _ hz]at h;cases h
theorem CJ {st:aB}{Q:VK}(a c:List Bool):iC .add (aM a) (aM c) st Q=((a.length+c.length<=aZ)/\Q (aM (a++c)) st):=by
 simp only[aM,EK,cx,aa]
section
variable {G:Prog}{k i kC ifk kU imk ino ima ilo iph inh:Nat}{st sI:aB}{Q:VK}{E:XK}{b:Bk}{r p l1 l2 l3 n l dd:Nat}{R:List Sy}
theorem Am (h:G.fns i=some (LK kC kU imk ino ima ilo))(hse:G.fns kC=some vZ)(hha:G.fns kU=some (tS iph inh))(hn:G.fns inh=some wQ)(hpa:G.fns iph=some qL)(hmk:G.fns imk=some CZ)(hno:G.fns ino=some AJ)(hma:G.fns ima=some B7)(hlo:G.fns ilo=some AI)
    (T0:iO sI r p l1 l2 l3 b R)(x0:Ext sI st)(hl0:sI l=none)(hd0:sI dd=none)(B:b.Ok)(kK:b.aJ.length<=4){m aU:List Bool}{met:List (List Bool)}(N:mC st n l dd met)(hM:iR b.aJ.length met)(hm:m.length=b.aJ.length)(hf:aU.length=b.fs.length)
    (hQ:∀ aA,bC [l,dd] st aA->mC aA n l dd (jY b m aU met).2->Q (.tup ((jY b m aU met).1.map pU)) aA):aO G (k+3) i [b.d,.ref r,.ref n,aM m,aM aU] st Q E:=by
  have hL:aZ=16777216:=rfl
  have f2:=B.f2
  have g2:=B.g2
  have iH:b.names.length=b.fs.length+b.gs.length:=by simp [Bk.names]
  have hd:b.d=.tup [.tup (b.fs.map .str),.tup (b.gs.map .str),.tup (b.ps.map toD),.tup (b.ms.map toD),.tup (b.ws.map fun w=>.tup [.int w.1,toD w.2])]:=rfl
  rw[aT h]
  simp only[LK,start]
  refine⟨rfl,?_⟩
  walk_at"st"
  refine bI (by simp) fun u aC x1 hu hu1=>?_
  rw[hd]
  walk_at"st"
  refine EY (k:=k+1) hse (by simp only[aa];omega) fun s aG hs x2 hs2=>?_
  rw[aa]at hs2
  walk_at"ex"
  rw[aE hs2,<-hd]
  have iZ:(cK b.gs.length).length<=16:=by rw[gT];exact cy (n:=2) (by decide) (by omega:b.gs.length<=4)
  have ul:u≠l:=fun z=>by rw[z,N.met]at hu;cases hu
  have ud:u≠dd:=fun z=>by rw[z,N.dic]at hu;cases hu
  have un:u≠n:=fun z=>by rw[z,N.ins]at hu;cases hu
  have sl:s≠l:=fun z=>by rw[z,x1 _ _ N.met]at hs;cases hs
  have sd:s≠dd:=fun z=>by rw[z,x1 _ _ N.dic]at hs;cases hs
  have su:s≠u:=fun z=>by rw[z,hu1]at hs;cases hs
  have nl:n≠l:=fun z=>by have:=N.ins;rw[z,N.met]at this;cases this
  have N2:=N.keep (x1.trans x2)
  have u0:sI u=none:=jA x0 hu
  refine gE aM (I:=fun rest σ aA=>∃ dn o6 o7 o8,cK b.gs.length=dn++rest/\σ=[some b.d,some (.ref r),some (.ref n),some (aM m),some (aM aU),some (.ref u),o6,o7,o8]/\bC [l,dd,u] aG aA/\mC aA n l dd (dn.foldl (dH b m aU) ([],met)).2/\aA u=some (.lst ((dn.foldl (dH b m aU) ([],met)).1.map pU))/\(dn.foldl (dH b m aU) ([],met)).1.length<=dn.length) (fun rest σ aA ⟨dn,o6,o7,o8,e1,e2,k1,N',e5,e6⟩=>?_) (fun fr rest σ aA M ⟨dn,o6,o7,o8,e1,e2,k1,N',e5,e6⟩ hM'=>?_) (fun σ aA ⟨dn,o6,o7,o8,e1,e2,k1,N',e5,e6⟩=>?_) _ _ _ ⟨[],none,none,none,rfl,rfl,.refl,N2,x2 _ _ hu1,by simp⟩
  · intro a ha
    simp only[ah]at ha
    subst ha
    rw[hs2,k1 _ _ (by simp [sl,sd,su]) hs2]
  · subst e2
    have hfr:fr.length=b.gs.length:=jR _ _ (by rw[e1];simp)
    have hdn : dn.length ≤ 16 := by have:dn.length≤(cK b.gs.length).length:=by rw[e1];simp
                                    omega
    have hMx:=uA (b:=b) (m:=m) (aU:=aU) dn (x:=([],met)) hM
    have xx:Ext sI aA:=CD (x0.trans (x1.trans x2)) k1 (fun a ha=>by
      simp only[b9,bp,or_false]at ha
      rcases ha with ha|ha|ha
      ·rw[ha];exact hl0
      ·rw[ha];exact hd0
      ·rw[ha];exact u0)
    have T':=T0.keep xx
    obtain⟨lp,lr,ld,lm,js,TT,_⟩:=T'.tab.h
    generalize hX:dn.foldl (dH b m aU) ([],met)=X at N' e5 e6 hMx
    have hXs:(dn++[fr]).foldl (dH b m aU) ([],met)=dH b m aU X fr:=by rw[nu,hX];rfl
    walk_at"st"
    rw[cT T'.ins sZ,kZ TT.ins (JX (by decide +kernel) (by decide +kernel) (by decide +kernel) (by decide +kernel) (by decide +kernel) (by decide +kernel))]
    refine⟨True.intro,?_⟩
    rw[CJ]
    refine⟨by omega,?_⟩
    refine K0 hha hn hpa T' hm (by simp [hf,hfr,iH]) fun aV q hq0 y3 hq=>?_
    walk_at"ex"
    have T3:=T'.keep y3
    walk_at"st"
    rw[kZ T3.ins (KH (by decide +kernel) (by decide +kernel) (by decide +kernel) (by decide +kernel))]
    refine⟨True.intro,?_⟩
    refine ZH (k:=k+1) hmk T3 B hq fun cH y4=>?_
    walk_at"ex"
    have T4:=T3.keep y4
    have y34:=y3.trans y4
    cases hv:eZ b.ms (b.vm m (aU++fr))with
    |false =>
      simp only[ag,if_false,aF]
      have eX:dH b m aU X fr=X:=by unfold dH;rw[hv];rfl
      refine hM' _ cH ⟨dn++[fr],_,_,_,by simp [e1],rfl,k1.trans y34.keep,by rw[hXs,eX];exact N'.keep y34,by rw[hXs,eX];exact y34 _ _ e5,by rw[hXs,eX];simp;omega⟩
    |true =>
      simp only[if_true]
      have eX:dH b m aU X fr=(X.1++[(fr,oS b.ws (b.vm m (aU++fr)),(gC X.2 (b.pN m (aU++fr))).idxOf (b.pN m (aU++fr)))],gC X.2 (b.pN m (aU++fr))):=by unfold dH;rw[hv];rfl
      have N4:=N'.keep y34
      walk_at"st"
      rw[kZ N4.ins (Fu (by decide +kernel) (by decide +kernel))]
      refine⟨True.intro,?_⟩
      rw[cT T4.ins sZ,kZ (TT.keep y34).ins (JX (by decide +kernel) (by decide +kernel) (by decide +kernel) (by decide +kernel) (by decide +kernel) (by decide +kernel))]
      refine⟨True.intro,?_⟩
      refine XB (k:=k+1) hma T4 kK (y4 _ _ hq) fun cQ y5=>?_
      have N5:=N4.keep y5
      have hX2:=hMx.QA kK
      refine XM (k:=k+1) hno N5 (by omega) fun fE k6 N6=>?_
      walk_at"ex"
      have x6:Ext sI fE:=CD (xx.trans (y34.trans y5)) k6 (fun a ha=>by
        simp only[b9,bp,or_false]at ha
        rcases ha with ha|ha
        ·rw[ha];exact hl0
        ·rw[ha];exact hd0)
      have T6:=T0.keep x6
      have u6:fE u=some (.lst (X.1.map pU)):=k6 u _ (by simp [ul,ud]) (y5 _ _ (y34 _ _ e5))
      have ql:q≠l:=fun z=>by rw[z,N'.met]at hq0;cases hq0
      have qd:q≠dd:=fun z=>by rw[z,N'.dic]at hq0;cases hq0
      have q6:fE q=some (.lst (R.map fun s=>.bl (b.vm m (aU++fr) s))):=k6 q _ (by simp [ql,qd]) (y5 _ _ (y4 _ _ hq))
      walk_at"st"
      rw[aE u6]
      refine⟨True.intro,?_⟩
      rw[kZ T6.ins (KH (by decide +kernel) (by decide +kernel) (by decide +kernel) (by decide +kernel))]
      refine⟨True.intro,?_⟩
      refine YJ (k:=k+1) hlo T6 B q6 fun qJ y7=>?_
      walk_at"ex"
      rw[aE (y7 _ _ u6)]
      refine⟨by simp only[aa];omega,?_⟩
      simp only[aF]
      refine hM' _ _ ⟨dn++[fr],_,_,_,by simp [e1],rfl,?_,?_,?_,?_⟩
      · intro a o na e
        simp only[b9,bp,or_false,not_or]at na
        rw[aH na.2.2]
        exact y7 _ _ (k6 a o (by simp [na]) (y5 _ _ (y34 _ _ (k1 a o (by simp [na]) e))))
      · rw[hXs,eX]
        exact⟨by rw[aH (cz un)];exact y7 _ _ N6.ins,by rw[aH (cz ud)];exact y7 _ _ N6.dic,by rw[aH (cz ul)];exact y7 _ _ N6.met⟩
      ·rw[aN,hXs,eX];simp [pU]
      ·rw[hXs,eX];simp;omega
  · subst e2
    rw[b7]at e1
    have eA:jY b m aU met=dn.foldl (dH b m aU) ([],met):=by unfold jY;rw[e1]
    walk_at"st"
    rw[aE e5]
    have hdn:dn.length<=16:=by rw[<-e1];exact iZ
    refine⟨by simp only[aa];omega,?_⟩
    rw[<-eA]
    refine hQ aA (fun a o na e=>?_) (by rw[eA];exact N')
    have au:a≠u:=fun z=>by rw[z,hu]at e;cases e
    simp only[b9,bp,or_false,not_or]at na
    exact k1 a o (by simp [na,au]) (x2 _ _ (x1 _ _ e))
noncomputable abbrev Node:=List Bool×List (List Bool×List lO)
noncomputable def nC (x:List Bool×List lO):D:=.tup [aM x.1,.tup (x.2.map pU)]
noncomputable def gI (x:Node):D:=.tup [aM x.1,.tup (x.2.map nC)]
noncomputable def dG (b:Bk)(m:List Bool)(x:List (List Bool×List lO)×List (List Bool))(aU:List Bool):List (List Bool×List lO)×List (List Bool) :=
 (x.1++[(aU,(jY b m aU x.2).1)],(jY b m aU x.2).2)
noncomputable def kI (b:Bk)(m:List Bool)(met:List (List Bool)):List (List Bool×List lO)×List (List Bool):=(oU b m).foldl (dG b m) ([],met)
noncomputable abbrev GS:=List (List Bool)×List Node
noncomputable def vV (b:Bk)(x:GS):GS:=if x.2.length<x.1.length then((kI b ((x.1[x.2.length]?).getD []) x.1).2,x.2++[((x.1[x.2.length]?).getD [],(kI b ((x.1[x.2.length]?).getD []) x.1).1)])else x
noncomputable def aY (b:Bk):Nat->GS
 |0=>([b.aJ.map eQ],[])
 |j+1=>vV b (aY b j)
noncomputable def qK (b:Bk):List Node:=(aY b 17).2
theorem RQ (met:List (List Bool))(m:List Bool):met.length<=(gC met m).length:=by unfold gC;split<;>simp
theorem LO {b:Bk}{m aU:List Bool}:∀(l:List (List Bool))(x:List lO×List (List Bool)),x.2.length<=(l.foldl (dH b m aU) x).2.length
 |[],_=>bb _
 |fr::l,x=>by
  refine bz ?_ (LO l (dH b m aU x fr))
  unfold dH;split
  ·exact RQ _ _
  ·exact bb _
theorem IQ {b:Bk}{m:List Bool}:∀(l:List (List Bool))(x:List (List Bool×List lO)×List (List Bool)),x.2.length<=(l.foldl (dG b m) x).2.length
 |[],_=>bb _
 |fr::l,x=>bz (LO _ ([],x.2)) (IQ l (dG b m x fr))
theorem O7 {b:Bk}{m:List Bool}(met:List (List Bool)):met.length<=(kI b m met).2.length:=IQ _ ([],met)
theorem Q3 {b:Bk}{m aU:List Bool}(h:aU∈oU b m):aU.length=b.fs.length:=jR _ _ (List.mem_filter.mp h).1
theorem tH {b:Bk}{m:List Bool}:∀(l:List (List Bool)){x:List (List Bool×List lO)×List (List Bool)},iR b.aJ.length x.2->iR b.aJ.length (l.foldl (dG b m) x).2
 |[],_,h=>h
 |aU::l,_,h=>tH l (by simp only[dG];exact uA _ h)
theorem tM (b:Bk):∀ j,iR b.aJ.length (aY b j).1
 |0=>⟨by simp [aY],by simp [aY]⟩
 |j+1=>by
  have h:=tM b j
  simp only[aY,vV]
  split
  ·exact tH _ h
  ·exact h
set_option tactic.hygienic true in
theorem tE (b:Bk)(kK:b.aJ.length<=4):∀ j,(aY b j).2.length<=(aY b j).1.length
 |0=>by simp [aY]
 |j+1=>by
  have h:=tE b kK j
  simp only[aY,vV]
  split
  ·rename_i hl
   have:(aY b j).1.length<=(kI b (((aY b j).1[(aY b j).2.length]?).getD []) (aY b j).1).2.length:=O7 _
   simp only[bh,be,ba];omega
  ·exact h
end
end L3
end
section
namespace L3
open PySem
theorem wU (b:Bk){j:Nat}(h:¬(aY b j).2.length<(aY b j).1.length):∀ n,aY b (j+n)=aY b j
 |0=>rfl
 |n+1=>by
  show vV b (aY b (j+n))=_
  rw[wU b h n]
  unfold vV
  rw[if_neg h]
section
variable {G:Prog}{k i ich icp iri ini ifs ian ibk iti io iz ie irr iw ipo kC ifk kU imk ino ima ilo iph inh:Nat}{st:aB}{Q:VK}{E:XK}{b:Bk}
theorem Y3 (h:G.fns i=some (HX ich iri ini ifs ian))(hch:G.fns ich=some (rQ ibk))(hb:NM G ibk 13 b)(hri:G.fns iri=some (yT iti io))(ht:G.fns iti=some (oE iz ie irr))(hz:G.fns iz=some (lD iw))(he:G.fns ie=some (rL ie iw ipo))(hw:G.fns iw=some iN)(hpo:G.fns ipo=some pA)(hrr:G.fns irr=some CB)(hio:G.fns io=some uQ)
  (hni:G.fns ini=some DV)(hfs:G.fns ifs=some (DG kC ifk kU))(han:G.fns ian=some (LK kC kU imk ino ima ilo))(hse:G.fns kC=some vZ)(hfk:G.fns ifk=some C5)(hha:G.fns kU=some (tS iph inh))(hn:G.fns inh=some wQ)(hpa:G.fns iph=some qL)(hmk:G.fns imk=some CZ)(hno:G.fns ino=some AJ)(hma:G.fns ima=some B7)(hlo:G.fns ilo=some AI)
  (B:b.Ok)(hs:eH b.says<=5000)(kK:b.aJ.length<=4)(hQ:∀ p aA,st p=none->Ext st aA->aA p=some (.lst ((qK b).map gI))->Q (.ref p) aA):aO G (k+15) i [b.d] st Q E:=by
 have hL:aZ=16777216:=rfl
 have f2:=B.f2
 rw[aT h]
 simp only[HX,start]
 refine⟨rfl,?_⟩
 walk_at"st"
 refine O5 (k:=k) hch hb fun aC x1=>?_
 walk_at"st"
 intro r hr
 refine VE (k:=k+1) hri ht hz he hw hpo hrr hio B hs (by show b.aJ.length<=5000;omega) aN fun aG p l1 l2 l3 R k2 T2=>⟨rfl,?_⟩
 have x2:Ext aC aG:=fun a o e=>k2 a o (by intro z;simp only[ah]at z;rw[z,hr]at e;cases e) (AX hr e)
 walk_at"ex"
 walk_at"st"
 rw[cT T2.ins sZ]
 obtain⟨lp,lr,ld,lm,js,TT,_⟩:=T2.tab.h
 rw[cT TT.ins (x:=.tup (b.aJ.map fun s=>.bl (eQ s))) (by rw[lL (by decide +kernel) (by decide +kernel) (by decide +kernel) (by decide +kernel)];simp only[QZ,bV];rw[if_pos cv];rfl)]
 intro n hn0
 have ei:D.tup (b.aJ.map fun s=>.bl (eQ s))=aM (b.aJ.map eQ):=by simp [aM]
 rw[ei]
 refine ZM (k:=k+13) hni aN fun aV l dd hl3 hd3 k3 N3=>⟨rfl,?_⟩
 have x3:Ext aG aV:=fun a o e=>k3 a o (by intro z;simp only[ah]at z;rw[z,hn0]at e;cases e) (AX hn0 e)
 have hl2:aG l=none:=by
  have hnl:l≠n:=fun z=>by rw[z,aN]at hl3;cases hl3
  rwa [aH hnl]at hl3
 have hd2:aG dd=none:=by
  have hnl:dd≠n:=fun z=>by rw[z,aN]at hd3;cases hd3
  rwa [aH hnl]at hd3
 walk_at"ex"
 walk_at"st"
 refine bI (by simp) fun nd cH x4 hnd nd4=>?_
 walk_at"ex"
 have x24:=x3.trans x4
 have ndl:nd≠l:=fun z=>by rw[z,N3.met]at hnd;cases hnd
 have ndd:nd≠dd:=fun z=>by rw[z,N3.dic]at hnd;cases hnd
 have ndn:nd≠n:=fun z=>by rw[z,N3.ins]at hnd;cases hnd
 have nd2:aG nd=none:=jA x3 hnd
 refine fJ ?_
 refine xF (pG G (bb _)) (I:=fun mm σ aA=>∃ j o4 o5 o6,mm+(aY b j).2.length=17/\j<=17/\(aY b j).2.length=j/\σ=[some b.d,some (.ref r),some (.ref n),some (.ref nd),o4,o5,o6]/\Ext aG aA/\mC aA n l dd (aY b j).1/\aA nd=some (.lst ((aY b j).2.map gI))) ?_ (m:=17) ⟨0,none,none,none,rfl,by omega,rfl,rfl,x24,N3.keep x4,nd4⟩
 rintro mm σ aA ⟨j,o4,o5,o6,e0,e0',ej,e2,x5,N5,nd5⟩
 subst e2
 have FP:=tM b j
 have sF:=FP.QA kK
 have hlen:=tE b kK j
 walk_at"ex"
 rw[cN nd5,cT N5.ins A2,FC,cN N5.met]
 walk_at"ex"
 by_cases dP:(aY b j).2.length<(aY b j).1.length
 ·have hc:(((aY b j).2.map gI).length:Int)<((aY b j).1.map aM).length:=by simp only[aa];omega
  rw[if_pos (by simpa using hc)]
  have hjm:j<(aY b j).1.length:=by omega
  generalize hm:(aY b j).1[j]=m
  have hmg:(aY b j).1[j]? = some m:=by rw[aj hjm,hm]
  have hml:m.length=b.aJ.length:=FP.len m (bf hmg)
  walk_at"st"
  rw[cT N5.ins A2,cN nd5,dX N5.met,aa,ej,dR (by simpa using hjm),bc,hmg,gu,bD]
  walk_at"ex"
  walk_at"st"
  refine bI (by simp) fun mv fE x6 hmv mv6=>?_
  walk_at"ex"
  have T6:=T2.keep (x5.trans x6)
  walk_at"st"
  refine Y0 (k:=k+11) hfs hse hfk hha hn hpa T6 B hml fun fl qJ hfl x7 hfl7=>?_
  walk_at"ex"
  rw[aE hfl7]
  have N7:=N5.keep (x6.trans x7)
  have nd7:=x7 _ _ (x6 _ _ nd5)
  have mv7:=x7 _ _ mv6
  have mvl:mv≠l:=fun z=>by rw[z,N5.met]at hmv;cases hmv
  have mvd:mv≠dd:=fun z=>by rw[z,N5.dic]at hmv;cases hmv
  have mvn:mv≠n:=fun z=>by rw[z,N5.ins]at hmv;cases hmv
  have mvnd:mv≠nd:=fun z=>by rw[z,nd5]at hmv;cases hmv
  have flmv:fl≠mv:=fun z=>by rw[z,mv6]at hfl;cases hfl
  have fll:fl≠l:=fun z=>by rw[z,x6 _ _ N5.met]at hfl;cases hfl
  have fld:fl≠dd:=fun z=>by rw[z,x6 _ _ N5.dic]at hfl;cases hfl
  have mv2:aG mv=none:=jA x5 hmv
  have hfsz:(oU b m).length<=16:=by
   have h1:=fu (fun aU=>eZ b.ps (b.vm m (aU++ai b.gs.length false))) (cK b.fs.length)
   have h2:(cK b.fs.length).length<=16:=by rw[gT];exact cy (n:=2) (by decide) (by omega:b.fs.length<=4)
   unfold oU;omega
  refine gE aM (I:=fun rest σ fD=>∃ dn o6,oU b m=dn++rest/\σ=[some b.d,some (.ref r),some (.ref n),some (.ref nd),some (aM m),some (.ref mv),o6]/\bC [l,dd,mv] qJ fD/\mC fD n l dd (dn.foldl (dG b m) ([],(aY b j).1)).2/\fD mv=some (.lst ((dn.foldl (dG b m) ([],(aY b j).1)).1.map nC))/\(dn.foldl (dG b m) ([],(aY b j).1)).1.length=dn.length) (fun rest σ fD ⟨dn,o6,g1,g2,g3,g4,g5,g6⟩=>?_) (fun aU rest σ fD M ⟨dn,o6,g1,g2,g3,g4,g5,g6⟩ hM'=>?_) (fun σ fD ⟨dn,o6,g1,g2,g3,g4,g5,g6⟩=>?_) _ _ _ ⟨[],o6,rfl,rfl,.refl,N7,mv7,rfl⟩
  ·intro a ha
   simp only[ah]at ha
   subst ha
   rw[hfl7,g3 _ _ (by simp [fll,fld,flmv]) hfl7]
  ·subst g2
   have hfo:aU.length=b.fs.length:=Q3 (m:=m) (by rw[g1];simp)
   have hdn:dn.length<=16:=by rw[g1]at hfsz;simp at hfsz;omega
   have x8:Ext aG fD:=CD (x5.trans (x6.trans x7)) g3 (fun a ha=>by
    simp only[b9,bp,or_false]at ha
    rcases ha with ha|ha|ha
    ·rw[ha];exact hl2
    ·rw[ha];exact hd2
    ·rw[ha];exact mv2)
   have hMx:=tH (b:=b) (m:=m) dn (x:=([],(aY b j).1)) FP
   generalize hX:dn.foldl (dG b m) ([],(aY b j).1)=X at g4 g5 g6 hMx
   have hXs:(dn++[aU]).foldl (dG b m) ([],(aY b j).1)=dG b m X aU:=by rw[nu,hX];rfl
   walk_at"st"
   rw[aE g5]
   refine⟨True.intro,?_⟩
   refine Am (k:=k+11) han hse hha hn hpa hmk hno hma hlo T2 x8 hl2 hd2 B kK g4 hMx hml hfo fun kT k9 N9=>?_
   have mv9:=k9 mv _ (by simp [mvl,mvd]) g5
   walk_at"ex"
   rw[aE mv9]
   refine⟨by simp only[aa];omega,?_⟩
   simp only[aF]
   refine hM' _ _ ⟨dn++[aU],_,by simp [g1],rfl,?_,?_,?_,?_⟩
   ·intro a o na e
    simp only[b9,bp,or_false,not_or]at na
    rw[aH na.2.2]
    exact k9 a o (by simp [na]) (g3 a o (by simp [na]) e)
   ·rw[hXs]
    exact⟨by rw[aH (cz mvn)];exact N9.ins,by rw[aH (cz mvd)];exact N9.dic,by rw[aH (cz mvl)];exact N9.met⟩
   ·rw[aN,hXs];simp [dG,nC]
   ·rw[hXs];simp [dG,g6]
  ·subst g2
   rw[b7]at g1
   have eM:kI b m (aY b j).1=dn.foldl (dG b m) ([],(aY b j).1):=by unfold kI;rw[g1]
   have hdn:dn.length<=16:=by rw[<-g1];exact hfsz
   have eG:aY b (j+1)=((kI b m (aY b j).1).2,(aY b j).2++[(m,(kI b m (aY b j).1).1)]):=by
    simp only[aY,vV]
    rw[if_pos dP,ej,hmg];rfl
   have nd8:fD nd=some (.lst ((aY b j).2.map gI)):=g3 nd _ (by simp [ndl,ndd,cz mvnd]) nd7
   walk_at"st"
   rw[aE nd8]
   refine⟨True.intro,?_⟩
   rw[aE g5]
   refine⟨by simp only[aa];omega,?_⟩
   rw[aE nd8]
   refine⟨by simp only[aa];omega,?_⟩
   simp only[aF]
   refine⟨mm-1,by omega,j+1,_,_,_,by rw[eG];simp;omega,by omega,by rw[eG];simp [ej],rfl,?_,?_,?_⟩
   ·intro a o e
    have and':a≠nd:=fun z=>by rw[z,nd2]at e;cases e
    have al:a≠l:=fun z=>by rw[z,hl2]at e;cases e
    have ad:a≠dd:=fun z=>by rw[z,hd2]at e;cases e
    have am:a≠mv:=fun z=>by rw[z,mv2]at e;cases e
    rw[aH and']
    exact g3 a o (by simp [al,ad,am]) (x7 _ _ (x6 _ _ (x5 _ _ e)))
   ·rw[eG,eM]
    exact⟨by rw[aH (cz ndn)];exact g4.ins,by rw[aH (cz ndd)];exact g4.dic,by rw[aH (cz ndl)];exact g4.met⟩
   ·rw[aN,eG,eM];simp [gI]
 ·have hc:¬(((aY b j).2.map gI).length:Int)<((aY b j).1.map aM).length:=by simp only[aa];omega
  rw[if_neg (by simpa using hc)]
  walk_at"st"
  have hfin:qK b=(aY b j).2:=by
   unfold qK
   have:=wU b dP (17-j)
   rw[show j+(17-j)=17 by omega]at this
   rw[this]
  refine hQ nd aA ?_ ((x1.trans x2).trans x5) (by rw[hfin];exact nd5)
  exact jA (x1.trans x2) nd2
end
end L3
end
section
namespace L3
open PySem
noncomputable def A0 (ih:Nat):Fn:=⟨3,3,[.ret (.cmp .eq (.comp 1 [0,2] [0] true none [(.v 1)] [(.not_ (.call ih [(.v 1),(.v 0),(.v 2),(.bin .sub (.bi .len [(.v 2)]) (.c (.int 1)))]))] (.v 0)) (.lst []))]⟩
noncomputable def vB (ih:Nat):Fn:=⟨2,3,[.asg (.nm 2) (.bin .add (.ix (.v 0) (.c (.int 0))) (.ix (.v 0) (.c (.int 1)))),.ret (.bi .sum [(.comp 1 [2,1] [0] true none [(.ix (.v 0) (.c (.int 4)))] [(.not_ (.call ih [(.v 1),(.ix (.v 0) (.c (.int 1))),(.v 2),(.bin .sub (.bi .len [(.v 2)]) (.c (.int 1)))]))] (.ix (.v 0) (.c (.int 0))))])]⟩
noncomputable def uH:Fn:=⟨1,5,[.asg (.nm 1) (.lst [(.tup [])]),.gR (.nm 2) (some .range) [(.v 0)] [.asg (.nm 3) (.lst []),.gR (.nm 4) none [(.v 1)] [.ex (.cB .extend (.v 3) [(.lst [(.bin .add (.v 4) (.tup [(.c (.bl false))])),(.bin .add (.v 4) (.tup [(.c (.bl true))]))])])],.asg (.nm 1) (.v 3)],.ret (.v 1)]⟩
noncomputable def CV (ise ik ilo:Nat):Fn:=⟨3,7,[.asg (.nm 3) (.bin .add (.ix (.v 0) (.c (.int 0))) (.ix (.v 0) (.c (.int 1)))),.asg (.nm 4) (.lst []),.gR (.nm 5) none [(.call ise [(.bi .len [(.ix (.v 0) (.c (.int 1)))])])] [.asg (.nm 6) (.bin .add (.v 1) (.lst [(.bin .add (.v 2) (.v 5))])),.iff (.call ik [(.v 3),(.ix (.v 0) (.c (.int 3))),(.v 6)]) [.ex (.cB .append (.v 4) [(.tup [(.v 5),(.call ilo [(.v 0),(.v 6)]),(.v 6)])])] []],.ret (.v 4)]⟩
section
variable {names:List (List Nat)}{pl:List (List Bool)}{x:List Bool}
theorem GJ {f g f' g':Nat->Bool}:∀ t,(∀ k,k<=t->f k=f' k/\g k=g' k)->kE f g t=kE f' g' t
 |0,h=>(h 0 (bb _)).2
 |t+1,h=>by
  simp only[kE]
  rw[(h (t+1) (bb _)).1,(h (t+1) (bb _)).2,GJ t fun k hk=>h k (by omega)]
theorem ZO {f g:Nat->Bool}(n:Nat)(h:∀ k,k<n->f k=g k):(a9 n).any f=(a9 n).any g:=by
 induction n with
 |zero=>rfl
 |succ n ih=>rw[ET,ET,ih fun k hk=>h k (by omega),h n (by omega)]
theorem XT {f g:Nat->Bool}(n:Nat)(h:∀ k,k<n->f k=g k):(a9 n).all f=(a9 n).all g:=by
 induction n with
 |zero=>rfl
 |succ n ih=>rw[E6,E6,ih fun k hk=>h k (by omega),h n (by omega)]
theorem hJ:∀(s:Sy)(t:Nat),t<pl.length->hv names (pl++[x]) s t=hv names pl s t
 |.yes,_,_=>rfl
 |.no,_,_=>rfl
 |.cF n,t,h=>by simp only[hv,HV];rw[bq h]
 |.one .not s,t,h=>by simp only[hv];rw[hJ s t h]
 |.one .before s,t,h=>by simp only[hv];rw[hJ s (t-1) (by omega)]
 |.one .once s,t,h=>by simp only[hv];exact ZO _ fun k hk=>hJ s k (by omega)
 |.one .sofar s,t,h=>by simp only[hv];exact XT _ fun k hk=>hJ s k (by omega)
 |.two .and s u,t,h=>by simp only[hv];rw[hJ s t h,hJ u t h]
 |.two .or s u,t,h=>by simp only[hv];rw[hJ s t h,hJ u t h]
 |.two .bE s u,t,h=>by simp only[hv];rw[hJ s t h,hJ u t h]
 |.two .same s u,t,h=>by simp only[hv];rw[hJ s t h,hJ u t h]
 |.two .since s u,t,h=>by simp only[hv];exact GJ t fun k hk=>⟨hJ s k (by omega),hJ u k (by omega)⟩
theorem X9 (s:Sy):gF names (pl++[x]) pl.length s=gF names pl pl.length s:=by
 unfold gF
 split
 ·rfl
 ·exact hJ _ _ (by omega)
theorem Ii {aJ:List Sy}{m:List Bool}(hm:m=aJ.map (gF names pl pl.length)):∀ s:Sy,lA aJ s->vm names aJ m x s=hv names (pl++[x]) s pl.length:=by
 have step:∀ s:Sy,(bN s=true->s∈aJ)->(∀ t∈subs s,vm names aJ m x t=hv names (pl++[x]) t pl.length)->vm names aJ m x s=hv names (pl++[x]) s pl.length:=fun s hp hs=>by
  have hsub:(subs s).map (vm names aJ m x)=(subs s).map fun u=>hv names (pl++[x]) u pl.length:=pq hs
  cases h:bN s with
  |true =>
   rw[MJ h,YU h,hsub,X9]
   have dP:=List.idxOf_lt_length_iff.mpr (hp h)
   have:(m[aJ.idxOf s]?).getD false=gF names pl pl.length s:=by
    rw[hm,bc,aj dP];simp
   rw[this]
  |false =>
   cases hl:fK s with
   |false=>rw[RL h hl,Bc h hl,hsub]
   |true =>
    cases s with
    |cF n=>simp [vm,hv,HV]
    |_=>cases hl
 intro s
 induction s with
 |yes=>intro _;rfl
 |no=>intro _;rfl
 |cF n=>intro _;exact step _ (fun z=>by cases z) (fun t ht=>by cases ht)
 |one w a ih=>intro h;exact step _ h.1 fun t ht=>by simp only[subs,ah]at ht;subst ht;exact ih h.2
 |two w a b kU ihb =>
  intro h
  refine step _ h.1 fun t ht=>?_
  simp only[subs,b9,bp,or_false]at ht
  rcases ht with rfl|rfl
  ·exact kU h.2.1
  ·exact ihb h.2.2
end
theorem J9 {P f:List Sy}{s:Sy}(hf:∀ x∈f,lA P x)(hs:lA P s):∀ x∈cY f s,lA P x:=by
 unfold cY;split
 ·intro x hx
  rcases List.mem_append.mp hx with hx|hx
  ·exact hf x hx
  ·simp only[ah]at hx;subst hx;exact hs
 ·exact hf
theorem AW {P:List Sy}:∀(s:Sy){f:List Sy},(∀ x∈f,lA P x)->lA P s->∀ x∈aJ s f,lA P x
 |.yes,_,hf,_=>hf
 |.no,_,hf,_=>hf
 |.cF _,_,hf,_=>hf
 |.one w s,_,hf,hs=>AW s (J9 hf hs) hs.2
 |.two w s t,_,hf,hs=>AW t (AW s (J9 hf hs) hs.2.1) hs.2.2
theorem KD {P:List Sy}:∀(l:List Sy){f:List Sy},(∀ x∈f,lA P x)->(∀ s∈l,lA P s)->∀ x∈bX l f,lA P x
 |[],_,hf,_=>hf
 |s::l,_,hf,hl=>KD l (AW s hf (hl s (by simp))) fun x hx=>hl x (by simp [hx])
theorem XX {P:List Sy}{s:Sy}(h:lA P s):lA P (lW s):=by
 cases s with
 |one w a =>
  cases w with
  |before=>exact h.2
  |_=>exact h
 |_=>exact h
noncomputable def Bk.mem (b:Bk)(pl:List (List Bool)):List Bool:=b.aJ.map (gF b.names pl pl.length)
theorem CL (b:Bk):∀ s∈b.says,lA b.aJ s:=fun s hs=>ER b.says [] s hs
theorem Y7 (b:Bk):∀ s∈b.aJ,lA b.aJ s:=KD b.says (by simp) (CL b)
theorem KS (b:Bk)(pl:List (List Bool))(x:List Bool){s:Sy}(h:lA b.aJ s):b.vm (b.mem pl) x s=hv b.names (pl++[x]) s pl.length:=Ii rfl s h
theorem E1 (b:Bk)(pl:List (List Bool))(x:List Bool):b.pN (b.mem pl) x=b.mem (pl++[x]):=by
 unfold Bk.pN Bk.mem
 refine pq fun s hs=>?_
 have h:=KS b pl x (XX (Y7 b s hs))
 show b.vm (b.mem pl) x (lW s)=_
 rw[h]
 simp [gF]
section
variable {G:Prog}{k i ih ise ik ilo:Nat}{st:aB}{Q:VK}{E:XK}{b:Bk}{l:Nat}{pl:List (List Bool)}
theorem M0 (h:G.fns i=some (A0 ih))(hh:G.fns ih=some (nQ ih)){ss:List Sy}{names:List (List Nat)}(hss:∀ s∈ss,over names s/\aK s<=8)(hn:ss.length<=1000)(hl:st l=some (.lst (pl.map aM)))(hp:∀ bs∈pl,bs.length=names.length)(hpn:pl.length<=1000)(hp0:0<pl.length)
  (hQ:∀ aA,Ext st aA->Q (.bl (ss.all fun s=>hv names pl s (pl.length-1))) aA):aO G (k+9) i [.tup (names.map .str),.tup (ss.map toD),.ref l] st Q E:=by
 have hL:aZ=16777216:=rfl
 rw[aT h]
 simp only[A0,start]
 refine⟨rfl,?_⟩
 have elen:((pl.map aM).length:Int)-1=((pl.length-1:Nat):Int):=by simp;omega
 walk_at"st"
 refine jT toD (fun s=>if(!hv names pl s (pl.length-1))=true then some (toD s)else none) ss [] st (fun aX y a ha=>by cases ha) (fun s hs aX K y1 hK=>?_) (by simp only[ba];omega) fun aG y2=>?_
 ·rw[cN (y1 _ _ hl),elen]
  refine wJ (k:=k) hh hp hpn 8 (s:=s) (hss s hs).2 (hss s hs).1 (by omega) (y1 _ _ hl) fun aV y3=>?_
  walk_at"ex"
  have:=hK aV y3
  cases hv':hv names pl s (pl.length-1)with
  |true=>simpa [hv']using this
  |false=>simpa [hv']using this
 rw[az]
 have ef:(ss.filterMap fun s=>if(!hv names pl s (pl.length-1))=true then some (toD s)else none)=(ss.filter fun s=>!hv names pl s (pl.length-1)).map toD:=by
  clear hss hn hQ
  induction ss with
  |nil=>rfl
  |cons a l ih =>
   cases hv':hv names pl a (pl.length-1)with
   |true=>rw[List.filterMap_cons_none (by simp [hv']),mo (by simp [hv']),ih]
   |false=>rw[List.filterMap_cons_some (b:=toD a) (by simp [hv']),mq (by simp [hv']),av,ih]
 rw[ef]
 have hfl:=fu (fun s=>!hv names pl s (pl.length-1)) ss
 refine bI (by simp only[aa];omega) fun u aV y3 hu hu3=>?_
 walk_at"ex"
 refine bI (by simp) fun v cH y4 hv4 hv4'=>?_
 walk_at"ex"
 have dB:plainS cH (.ref u):=by
  refine⟨?_,cu _⟩
  simp only[fH,y4 _ _ hu3,JK,GX,fe,decide_eq_true_eq]
  refine bz (J0 (n:=8) _ fun s hs=>(hss s (List.mem_filter.mp hs).1).2) (by decide)
 refine⟨dB,iT (is:=[]) hv4',?_⟩
 rw[eq_nil (y4 _ _ hu3) hv4']
 have e:(((ss.filter fun s=>!hv names pl s (pl.length-1)).map toD).isEmpty)=ss.all fun s=>hv names pl s (pl.length-1):=by
  clear hss hn hQ ef dB hu3 hfl
  induction ss with
  |nil=>rfl
  |cons a l ih =>
   cases hv':hv names pl a (pl.length-1)with
   |true=>simp [gb,hv']at ih ⊢;exact ih
   |false=>simp [gb,hv']
 rw[e]
 exact hQ cH ((y2.trans y3).trans y4)
theorem S2 (h:G.fns i=some (vB ih))(hh:G.fns ih=some (nQ ih))(B:b.Ok)(hl:st l=some (.lst (pl.map aM)))(hp:∀ bs∈pl,bs.length=b.names.length)(hpn:pl.length<=1000)(hp0:0<pl.length)
  (hQ:∀ aA,Ext st aA->Q (.int (oS b.ws fun s=>hv b.names pl s (pl.length-1))) aA):aO G (k+9) i [b.d,.ref l] st Q E:=by
 have hL:aZ=16777216:=rfl
 have f2:=B.f2
 have g2:=B.g2
 have w2:=B.w2
 rw[aT h]
 simp only[vB,start,Bk.d]
 refine⟨rfl,?_⟩
 have elen:((pl.map aM).length:Int)-1=((pl.length-1:Nat):Int):=by simp;omega
 have en:(b.fs.map D.str++b.gs.map D.str)=b.names.map .str:=by simp [Bk.names]
 walk_at"st"
 refine⟨by simp only[aa];omega,?_⟩
 rw[en]
 walk_at"st"
 refine jT (fun w:Int×Sy=>D.tup [.int w.1,toD w.2]) (fun w=>if(!hv b.names pl w.2 (pl.length-1))=true then some (D.int w.1)else none) b.ws [] st (fun aX y a ha=>by cases ha) (fun w hw aX K y1 hK=>?_) (by simp only[ba];omega) fun aG y2=>?_
 ·walk_at"ex"
  rw[cN (y1 _ _ hl),elen]
  refine wJ (k:=k) hh hp hpn 8 (s:=w.2) (B.w3 w hw).2.2.2 (B.w3 w hw).2.2.1 (by omega) (y1 _ _ hl) fun aV y3=>?_
  walk_at"ex"
  have:=hK aV y3
  cases hv':hv b.names pl w.2 (pl.length-1)with
  |true=>simpa [hv']using this
  |false=>simpa [hv']using this
 rw[az]
 refine bI (by have:=sh (fun w:Int×Sy=>if(!hv b.names pl w.2 (pl.length-1))=true then some (D.int w.1)else none) b.ws;omega) fun pp aV y3 hpp qE=>?_
 walk_at"ex"
 rw[aE qE,LP (fun s=>hv b.names pl s (pl.length-1)),bD]
 exact hQ aV (y2.trans y3)
end
end L3
end
section
namespace L3
open PySem
noncomputable def NE (a b:Addr):Prop:=a≠b
section
variable {G:Prog}{k i ih ise ik ilo:Nat}{st:aB}{Q:VK}{E:XK}{b:Bk}{l:Nat}{pl:List (List Bool)}
theorem KJ (h:G.fns i=some uH){n:Nat}(hd:n<=4)(hQ:∀ p aA,st p=none->Ext st aA->aA p=some (.lst ((cK n).map aM))->Q (.ref p) aA):aO G (k+1) i [.int (n:Nat)] st Q E:=by
 have hL:aZ=16777216:=rfl
 rw[aT h]
 simp only[uH,start]
 refine⟨rfl,?_⟩
 walk_at"st"
 refine bI (by show 1<=aZ;decide) fun p aC x1 hp hp1=>?_
 walk_at"st"
 refine⟨by unfold dU;omega,?_⟩
 rw[show((n:Int)).toNat=n by omega,pK]
 have p1:aC p=some (.lst ((cK 0).map aM)):=hp1
 refine gE (fun j:Nat=>D.int (j:Nat)) (I:=fun rest σ aA=>∃ t q o2 o3 o4,t<=n/\rest=(a9 n).drop t/\σ=[some (.int (n:Nat)),some (.ref q),o2,o3,o4]/\st q=none/\Ext st aA/\aA q=some (.lst ((cK t).map aM))) (fun rest σ aA _ a ha=>?_) (fun x rest σ aA M hI hM=>?_) (fun σ aA hI=>?_) _ _ _ ⟨0,p,none,none,none,cu _,rfl,rfl,hp,x1,p1⟩
 ·cases ha
 ·obtain⟨t,q,o2,o3,o4,e0,e1,e2,hq,x3,e5⟩:=hI
  subst e2
  have ht:t<(a9 n).length:=by
   by_cases z:t<(a9 n).length
   ·exact z
   ·rw[fk (by omega)]at e1;cases e1
  rw[bw ht]at e1
  injection e1 with e3 e4
  simp only[ij]at ht
  have iZ:(cK t).length<=16:=by
   rw[gT]
   exact cy (n:=2) (by decide) (by omega:t<=4)
  walk_at"st"
  refine bI (by simp) fun u cH x4 hu hu4=>?_
  have qu:q≠u:=fun z=>by rw[<-z,e5]at hu;cases hu
  walk_at"st"
  rw[aE (x4 _ _ e5)]
  refine gE aM (I:=fun xO σ cQ=>∃ dn o4,cK t=dn++xO/\σ=[some (.int (n:Nat)),some (.ref q),some (.int (x:Nat)),some (.ref u),o4]/\bC [u] cH cQ/\cQ u=some (.lst ((dn.flatMap fun r=>[r++[false],r++[true]]).map aM))) (fun xO σ cQ ⟨dn,o4,f1,f2,f3,f4⟩=>?_) (fun y xO σ cQ M2 ⟨dn,o4,f1,f2,f3,f4⟩ hM2=>?_) (fun σ cQ ⟨dn,o4,f1,f2,f3,f4⟩=>?_) _ _ _ ⟨[],o4,rfl,rfl,.refl,hu4⟩
  ·intro a ha
   simp only[ah]at ha
   subst ha
   rw[x4 _ _ e5,f3 _ _ (by simpa using qu) (x4 _ _ e5)]
  ·subst f2
   have hl:(dn.flatMap fun r=>[r++[false],r++[true]]).length<=40:=by
    have:∀ l:List (List Bool),(l.flatMap fun r=>[r++[false],r++[true]]).length=2*l.length:=fun l=>by
     induction l with
     |nil=>rfl
     |cons a l ih=>simp only[nt,bh,ih,be,ba];omega
    rw[this]
    have:dn.length<=(cK t).length:=by rw[f1];simp
    omega
   have hyl:y.length=t:=jR t y (by rw[f1];simp)
   simp only[aM]
   walk_at"st"
   rw[aE f4]
   refine⟨True.intro,by simp only[aa];omega,by simp only[aa];omega,?_⟩
   refine bI (by show 2<=aZ;decide) fun w fE x6 hw hw6=>?_
   have wu:w≠u:=fun z=>by rw[z,f4]at hw;cases hw
   rw[aE (x6 _ _ f4),M3,aE hw6]
   refine⟨by simp only[aa,be,ba];omega,?_⟩
   simp only[aF]
   refine hM2 _ _ ⟨dn++[y],_,by simp [f1],rfl,fun a o na e=>by rw[aH (by simpa using na)];exact x6 _ _ (f3 a o na e),?_⟩
   rw[aN]
   simp [aM,xj]
  ·subst f2
   rw[b7]at f1
   walk_at"st"
   simp only[aF]
   refine hM _ cQ ⟨t+1,u,_,_,_,by omega,e4,rfl,?_,fun a o e=>f3 a o (fun z=>?_) (x4 _ _ (x3 _ _ e)),?_⟩
   ·cases hz:st u with
    |none=>rfl
    |some o=>rw[x3 _ _ hz]at hu;cases hu
   ·simp only[ah]at z
    rw[z]at e
    rw[x3 _ _ e]at hu;cases hu
   ·rw[f4,<-f1];rfl
 ·obtain⟨t,q,o2,o3,o4,e0,e1,e2,hq,x3,e5⟩:=hI
  subst e2
  have ht:n<=t:=by
   by_cases z:t<(a9 n).length
   ·rw[bw z]at e1;cases e1
   ·simpa using z
  have et:t=n:=by omega
  subst et
  walk_at"st"
  exact hQ q aA hq x3 e5
noncomputable def A6 (b:Bk)(m aU fr:List Bool):Bool:=eZ b.ms (b.vm m (aU++fr))
theorem PH (b:Bk){ss:List Sy}(hss:∀ s∈ss,s∈b.says)(pl:List (List Bool))(x:List Bool):(ss.all fun s=>hv b.names (pl++[x]) s ((pl++[x]).length-1))=eZ ss (b.vm (b.mem pl) x):=by
 unfold eZ
 have e:(pl++[x]).length-1=pl.length:=by simp
 rw[e]
 induction ss with
 |nil=>rfl
 |cons a l ih =>
 simp only[lx]
 rw[ih fun s hs=>hss s (by simp [hs]),KS b pl x (CL b a (hss a (by simp)))]
theorem WZ (b:Bk)(pl:List (List Bool))(x:List Bool):oS b.ws (fun s=>hv b.names (pl++[x]) s ((pl++[x]).length-1))=oS b.ws (b.vm (b.mem pl) x):=by
 unfold oS
 have e:(pl++[x]).length-1=pl.length:=by simp
 rw[e]
 congr 2
 refine List.filter_congr fun w hw=>?_
 rw[KS b pl x (CL b w.2 (by simp only[Bk.says,l5,p9];exact .inr ⟨w,hw,rfl⟩))]
noncomputable def vS (b:Bk)(m aU:List Bool)(x:List Bool×Nat):D:=.tup [aM x.1,.int (oS b.ws (b.vm m (aU++x.1))),.ref x.2]
theorem YF (h:G.fns i=some (CV ise ik ilo))(hse:G.fns ise=some uH)(hk:G.fns ik=some (A0 ih))(hlo:G.fns ilo=some (vB ih))(hh:G.fns ih=some (nQ ih))(B:b.Ok)(hdp:∀ x∈b.says,aK x<=8)(hl:st l=some (.lst (pl.map aM)))(hp:∀ bs∈pl,bs.length=b.names.length)(hpn:pl.length<=900){aU:List Bool}(hf:aU.length=b.fs.length)
    (hQ:∀ q aA (xs:List (List Bool×Nat)),st q=none->Ext st aA->xs.map (·.1)=(cK b.gs.length).filter (A6 b (b.mem pl) aU)->(∀ x∈xs,st x.2=none/\x.2≠q/\aA x.2=some (.lst ((pl++[aU++x.1]).map aM)))->aA q=some (.lst (xs.map (vS b (b.mem pl) aU)))->Q (.ref q) aA):aO G (k+10) i [b.d,.ref l,aM aU] st Q E:=by
  have hL:aZ=16777216:=rfl
  have f2:=B.f2
  have g2:=B.g2
  have iH:b.names.length=b.fs.length+b.gs.length:=by simp [Bk.names]
  have hd:b.d=.tup [.tup (b.fs.map .str),.tup (b.gs.map .str),.tup (b.ps.map toD),.tup (b.ms.map toD),.tup (b.ws.map fun w=>.tup [.int w.1,toD w.2])]:=rfl
  have en:(b.fs.map D.str++b.gs.map D.str)=b.names.map .str:=by simp [Bk.names]
  rw[aT h]
  simp only[CV,start]
  refine⟨rfl,?_⟩
  rw[hd]
  walk_at"st"
  refine⟨by simp only[aa];omega,?_⟩
  rw[en]
  walk_at"st"
  refine bI (by simp) fun q aC x1 hq hq1=>?_
  walk_at"st"
  rw[aa]
  refine KJ (k:=k+8) hse (by omega) fun s aG hs x2 hs2=>?_
  walk_at"ex"
  rw[aE hs2,<-hd]
  have iZ:(cK b.gs.length).length<=16:=by rw[gT];exact cy (n:=2) (by decide) (by omega:b.gs.length<=4)
  have sq:s≠q:=fun z=>by rw[z,hq1]at hs;cases hs
  have lq:l≠q:=fun z=>by rw[z]at hl;rw[hl]at hq;cases hq
  refine gE aM (I:=fun rest σ aA=>∃ dn o5 o6 xs,cK b.gs.length=dn++rest/\σ=[some b.d,some (.ref l),some (aM aU),some (.tup (b.names.map .str)),some (.ref q),o5,o6]/\bC [q] aG aA/\xs.map (·.1)=dn.filter (A6 b (b.mem pl) aU)/\(∀ x∈xs,st x.2=none/\x.2≠q/\aA x.2=some (.lst ((pl++[aU++x.1]).map aM)))/\aA q=some (.lst (xs.map (vS b (b.mem pl) aU)))) (fun rest σ aA hI=>?_) (fun fr rest σ aA M hI hM'=>?_) (fun σ aA hI=>?_) _ _ _ ⟨[],none,none,[],rfl,rfl,.refl,rfl,by simp,x2 _ _ hq1⟩
  · obtain⟨dn,o5,o6,xs,e1,e2,k1,e3,e4,e5⟩:=hI
    intro a ha
    simp only[ah]at ha
    subst ha
    rw[hs2,k1 _ _ (by simp [sq]) hs2]
  · obtain⟨dn,o5,o6,xs,e1,e2,k1,e3,e4,e5⟩:=hI
    subst e2
    have hfr:fr.length=b.gs.length:=jR _ _ (by rw[e1];simp)
    have hdn : dn.length ≤ 16 := by have:dn.length≤(cK b.gs.length).length:=by rw[e1];simp
                                    omega
    have hxl:xs.length<=16:=by
      have:=congrArg wc e3
      rw[aa]at this
      have h2:=fu (A6 b (b.mem pl) aU) dn
      omega
    have hl':aA l=some (.lst (pl.map aM)):=k1 l _ (by simpa using lq) (x2 _ _ (x1 _ _ hl))
    walk_at"st"
    rw[CJ]
    refine⟨by omega,?_⟩
    refine bI (by show 1<=aZ;decide) fun w aV x3 hw hw3=>?_
    walk_at"ex"
    rw[aE (x3 _ _ hl'),aE hw3]
    have el:pl.map aM++[aM (aU++fr)]=(pl++[aU++fr]).map aM:=by simp
    rw[el]
    refine bI (by simp only[aa,bh,be,ba];omega) fun lo cH x4 hlo4 hlo4'=>?_
    have hlo':aA lo=none:=jA x3 hlo4
    have loq:lo≠q:=fun z=>by rw[z,e5]at hlo';cases hlo'
    have fF:st lo=none:=by
      cases hz:st lo with
      |none=>rfl
      |some o=>rw[k1 lo o (by simpa using loq) (x2 _ _ (x1 _ _ hz))]at hlo';cases hlo'
    have hp4:∀ bs∈pl++[aU++fr],bs.length=b.names.length:=fun bs hbs=>by
      rcases List.mem_append.mp hbs with hbs|hbs
      ·exact hp bs hbs
      ·simp only[ah]at hbs;subst hbs;simp [hf,hfr,iH]
    walk_at"ex"
    walk_at"st"
    rw[hd]
    walk_at"ex"
    refine M0 (k:=k) hk hh (names:=b.names) (ss:=b.ms) (fun s hs=>⟨(qP B s (by simp [Bk.says,hs])).1,hdp s (by simp [Bk.says,hs])⟩) (by have:=B.m1;omega) hlo4' hp4 (by simp;omega) (by simp) fun cQ x5=>?_
    rw[PH b (fun s hs=>by simp [Bk.says,hs]),<-hd]
    walk_at"ex"
    have y35:=x3.trans (x4.trans x5)
    cases hv:A6 b (b.mem pl) aU fr with
    |false =>
      have hv':eZ b.ms (b.vm (b.mem pl) (aU++fr))=false:=hv
      rw[hv']
      simp only[ag,if_false,aF]
      refine hM' _ cQ ⟨dn++[fr],_,_,xs,by simp [e1],rfl,k1.trans y35.keep,by rw[md,mo (by simp [hv]),pf,b7,e3],fun x hx=>⟨(e4 x hx).1,(e4 x hx).2.1,y35 _ _ (e4 x hx).2.2⟩,y35 _ _ e5⟩
    |true =>
      have hv':eZ b.ms (b.vm (b.mem pl) (aU++fr))=true:=hv
      rw[hv']
      simp only[if_true]
      walk_at"st"
      rw[aE (y35 _ _ e5)]
      refine⟨True.intro,?_⟩
      refine S2 (k:=k) hlo hh B (x5 _ _ hlo4') hp4 (by simp;omega) (by simp) fun fE x6=>?_
      rw[WZ]
      walk_at"ex"
      have y36:=y35.trans x6
      rw[aE (y36 _ _ e5)]
      refine⟨by simp only[aa];omega,?_⟩
      simp only[aF]
      refine hM' _ _ ⟨dn++[fr],_,_,xs++[(fr,lo)],by simp [e1],rfl,?_,?_,?_,?_⟩
      · intro a o na e
        rw[aH (by simpa using na)]
        exact y36 _ _ (k1 a o na e)
      ·rw[md,mq (by simp [hv]),pf,cx,e3];rfl
      · intro x hx
        rcases List.mem_append.mp hx with hx|hx
        ·exact⟨(e4 x hx).1,(e4 x hx).2.1,by rw[aH (e4 x hx).2.1];exact y36 _ _ (e4 x hx).2.2⟩
        · simp only[ah]at hx
          subst hx
          exact⟨fF,loq,by rw[aH loq];exact x6 _ _ (x5 _ _ hlo4')⟩
      ·rw[aN];simp [vS]
  · obtain⟨dn,o5,o6,xs,e1,e2,k1,e3,e4,e5⟩:=hI
    subst e2
    rw[b7]at e1
    walk_at"st"
    refine hQ q aA xs hq (fun a o e=>?_) (by rw[e3,e1]) e4 e5
    have aq:a≠q:=fun z=>by rw[z,hq]at e;cases e
    exact k1 a o (by simpa using aq) (x2 _ _ (x1 _ _ e))
end
end L3
end
section
namespace L3
open PySem
noncomputable def DC (ilm ise ik ia:Nat):Fn:=⟨1,12,[.asg (.nm 1) (.lst [(.lst [])]),.asg (.nm 2) (.lst [(.call ilm [(.v 0),(.lst [])])]),.asg (.nm 3) (.lst []),.whl (.cmp .lt (.bi .len [(.v 3)]) (.bi .len [(.v 1)])) [.asg (.nm 4) (.ix (.v 1) (.bi .len [(.v 3)])),.asg (.nm 5) (.lst []),.gR (.nm 6) none [(.call ise [(.bi .len [(.ix (.v 0) (.c (.int 0)))])])] [.iff (.call ik [(.bin .add (.ix (.v 0) (.c (.int 0))) (.ix (.v 0) (.c (.int 1)))),(.ix (.v 0) (.c (.int 2))),(.bin .add (.v 4) (.lst [(.bin .add (.v 6) (.bin .mul (.tup [(.c (.bl false))]) (.bi .len [(.ix (.v 0) (.c (.int 1)))])))]))]) [.asg (.nm 7) (.lst []),.gR (.tp [8,9,10]) none [(.call ia [(.v 0),(.v 4),(.v 6)])] [.asg (.nm 11) (.call ilm [(.v 0),(.v 10)]),.iff (.cmp .fX (.v 11) (.v 2)) [.ex (.cB .append (.v 2) [(.v 11)]),.ex (.cB .append (.v 1) [(.v 10)])] [],.ex (.cB .append (.v 7) [(.tup [(.v 8),(.v 9),(.cB .index (.v 2) [(.v 11)])])])],.ex (.cB .append (.v 5) [(.tup [(.v 6),(.bi .tuple [(.v 7)])])])] []],.ex (.cB .append (.v 3) [(.tup [(.ix (.v 2) (.bi .len [(.v 3)])),(.bi .tuple [(.v 5)])])])],.ret (.v 3)]⟩
noncomputable def kL (b:Bk)(m aU:List Bool)(x:List lO×List (List Bool))(fr:List Bool):List lO×List (List Bool) :=
 (x.1++[(fr,oS b.ws (b.vm m (aU++fr)),(gC x.2 (b.pN m (aU++fr))).idxOf (b.pN m (aU++fr)))],gC x.2 (b.pN m (aU++fr)))
theorem X0 (b:Bk)(m aU:List Bool)(met:List (List Bool)):jY b m aU met=((cK b.gs.length).filter (A6 b m aU)).foldl (kL b m aU) ([],met):=by
 rw[List.foldl_filter];rfl
theorem MU {b:Bk}{m aU:List Bool}:∀(l:List (List Bool)){x:List lO×List (List Bool)},iR b.aJ.length x.2->iR b.aJ.length (l.foldl (kL b m aU) x).2
 |[],_,h=>h
 |fr::l,_,h=>MU l (h.add (M8 b m _))
theorem ES {b:Bk}{m aU:List Bool}:∀(l:List (List Bool)){x:List lO×List (List Bool)},(l.foldl (kL b m aU) x).1.length=x.1.length+l.length
 |[],_=>rfl
 |fr::l,x=>by rw[l0,ES l];simp [kL];omega
theorem UZ (met:List (List Bool))(m:List Bool):met <+: gC met m:=by
 unfold gC;split
 ·exact oa _
 ·exact List.prefix_append _ _
theorem NF {b:Bk}{m aU:List Bool}:∀(l:List (List Bool))(x:List lO×List (List Bool)),x.2 <+: (l.foldl (dH b m aU) x).2
 |[],_=>oa _
 |fr::l,x=>by
  refine xk ?_ (NF l (dH b m aU x fr))
  unfold dH;split
  ·exact UZ _ _
  ·exact oa _
theorem MY {b:Bk}{m:List Bool}:∀(l:List (List Bool))(x:List (List Bool×List lO)×List (List Bool)),x.2 <+: (l.foldl (dG b m) x).2
 |[],_=>oa _
 |fr::l,x=>xk (NF _ ([],x.2)) (MY l (dG b m x fr))
theorem PK {b:Bk}{m:List Bool}(met:List (List Bool)):met <+: (kI b m met).2:=MY _ ([],met)
noncomputable abbrev G8:=List (Nat×List (List Bool))
structure fB (st:aB)(b:Bk)(as:List Nat)(n:Nat)(cE:G8):Prop where
 all:∀ x∈cE,x.1∉as/\st x.1=some (.lst (x.2.map aM))/\(∀ bs∈x.2,bs.length=b.names.length)/\x.2.length<=n
theorem fB.keep {st aA:aB}{b:Bk}{as:List Nat}{n:Nat}{cE:G8}(P:fB st b as n cE)(k:bC as st aA):fB aA b as n cE :=
 ⟨fun x hx=>⟨(P.all x hx).1,k _ _ (P.all x hx).1 (P.all x hx).2.1,(P.all x hx).2.2⟩⟩
theorem fB.new {st:aB}{b:Bk}{as:List Nat}{n a:Nat}{cE:G8}(P:fB st b as n cE)(ha:st a=none):fB st b (a::as) n cE :=
 ⟨fun x hx=>⟨fun z=>by
 rcases List.mem_cons.mp z with z|z
 ·have:=(P.all x hx).2.1;rw[z,ha]at this;cases this
 ·exact(P.all x hx).1 z,(P.all x hx).2⟩⟩
theorem fB.less {st:aB}{b:Bk}{as:List Nat}{n a:Nat}{cE:G8}(P:fB st b (a::as) n cE):fB st b as n cE :=
 ⟨fun x hx=>⟨fun z=>(P.all x hx).1 (by simp [z]),(P.all x hx).2⟩⟩
theorem fB.up {st:aB}{b:Bk}{as:List Nat}{n n':Nat}{cE:G8}(P:fB st b as n cE)(h:n<=n'):fB st b as n' cE :=
 ⟨fun x hx=>⟨(P.all x hx).1,(P.all x hx).2.1,(P.all x hx).2.2.1,bz (P.all x hx).2.2.2 h⟩⟩
theorem fB.add {st:aB}{b:Bk}{as:List Nat}{n:Nat}{cE:G8}(P:fB st b as n cE){x:Nat×List (List Bool)}(hx:x.1∉as/\st x.1=some (.lst (x.2.map aM))/\(∀ bs∈x.2,bs.length=b.names.length)/\x.2.length<=n):fB st b as n (cE++[x]) :=
 ⟨fun y hy=>by
 rcases List.mem_append.mp hy with hy|hy
 ·exact P.all y hy
 ·simp only[ah]at hy;subst hy;exact hx⟩
noncomputable def Bk.fP (b:Bk)(cE:G8):List (List Bool):=cE.map fun x=>b.mem x.2
noncomputable def refs (cE:G8):List D:=cE.map fun x=>.ref x.1
theorem mem_set (b:Bk)(pl:List (List Bool)):D.tup ((bX b.says []).map fun s=>.bl (gF b.names pl pl.length s))=aM (b.mem pl):=by
 simp [aM,Bk.mem,Bk.aJ]
theorem ZI (b:Bk):b.mem []=b.aJ.map eQ:=by
 unfold Bk.mem
 refine pq fun s _=>?_
 simp [gF]
theorem O0 (n:Nat):(ai n [D.bl false]).flatten=(ai n false).map D.bl:=by
 induction n with
 |zero=>rfl
 |succ n ih=>simp [gq,ih]
section
variable {G:Prog}{k i ih ise ik ilo ilm ia ibp ip:Nat}{st:aB}{Q:VK}{E:XK}{b:Bk}
theorem U6 (h:G.fns i=some (DC ilm ise ik ia))(hlm:G.fns ilm=some (uZ ibp ih))(hbp:G.fns ibp=some (mO ip))(hpp:G.fns ip=some (kM ip))(hh:G.fns ih=some (nQ ih))(hse:G.fns ise=some uH)(hk:G.fns ik=some (A0 ih))(hia:G.fns ia=some (CV ise ik ilo))(hlo:G.fns ilo=some (vB ih))(B:b.Ok)(hs:eH b.says<=5000)(kK:b.aJ.length<=4)(hdp:∀ x∈b.says,aK x<=8)(hov:∀ s∈bX b.says [],over b.names s/\aK s<=8)
  (hQ:∀ p aA,st p=none->Ext st aA->aA p=some (.lst ((qK b).map gI))->Q (.ref p) aA):aO G (k+11) i [b.d] st Q E:=by
 have hL:aZ=16777216:=rfl
 have f2:=B.f2
 have g2:=B.g2
 have g1:=B.g1
 have iH:b.names.length=b.fs.length+b.gs.length:=by simp [Bk.names]
 have hd:b.d=.tup [.tup (b.fs.map .str),.tup (b.gs.map .str),.tup (b.ps.map toD),.tup (b.ms.map toD),.tup (b.ws.map fun w=>.tup [.int w.1,toD w.2])]:=rfl
 have en:(b.fs.map D.str++b.gs.map D.str)=b.names.map .str:=by simp [Bk.names]
 rw[aT h]
 simp only[DC,start]
 refine⟨rfl,?_⟩
 walk_at"st"
 refine bI (by simp) fun p0 aC x1 hp0 hp01=>?_
 walk_at"ex"
 refine bI (by show 1<=aZ;decide) fun a1 aG x2 ha1 ha12=>?_
 walk_at"st"
 refine bI (by simp) fun e0 aV x3 he0 he03=>?_
 refine DN (k:=k) hlm hbp hpp hh B hs (by show b.aJ.length<=5000;omega) (bA:=[]) he03 (by simp) (by simp) hov fun cH x4=>?_
 rw[mem_set]
 walk_at"ex"
 refine bI (by show 1<=aZ;decide) fun a2 cQ x5 ha2 ha25=>?_
 walk_at"st"
 refine bI (by simp) fun a3 fE x6 ha3 ha36=>?_
 walk_at"ex"
 have a12:NE a1 a2:=fun z=>by rw[<-z,x4 _ _ (x3 _ _ ha12)]at ha2;cases ha2
 have a13:NE a1 a3:=fun z=>by rw[<-z,x5 _ _ (x4 _ _ (x3 _ _ ha12))]at ha3;cases ha3
 have a23:NE a2 a3:=fun z=>by rw[<-z,ha25]at ha3;cases ha3
 have n1:st a1=none:=jA x1 ha1
 have x14:=x1.trans (x2.trans (x3.trans x4))
 have n2:st a2=none:=jA x14 ha2
 have n3:st a3=none:=jA (x14.trans x5) ha3
 have PL0:fB fE b [a1,a2,a3] 0 [(p0,[])]:=by
  refine(fB.keep ?_ x6.keep:fB fE b [a1,a2,a3] 0 [(p0,[])])
  have q0:fB aC b [] 0 [(p0,[])]:=⟨fun x hx=>by simp only[ah]at hx;subst hx;exact⟨by simp,hp01,by simp,bb _⟩⟩
  have q3:=((((q0.new ha1).keep (x2.trans (x3.trans x4)).keep).new ha2).keep x5.keep).new ha3
  exact⟨fun x hx=>⟨fun z=>(q3.all x hx).1 (by simp only[b9,bp,or_false]at z ⊢;rcases z with z|z|z<;>simp [z]),(q3.all x hx).2⟩⟩
 refine fJ ?_
 refine xF (pG G (bb _)) (I:=fun mm σ aA=>∃ j cE o4 o5 o6 o7 o8 o9 jK jP,mm+(aY b j).2.length=17/\j<=17/\(aY b j).2.length=j/\(aY b j).1=b.fP cE/\σ=[some b.d,some (.ref a1),some (.ref a2),some (.ref a3),o4,o5,o6,o7,o8,o9,jK,jP]/\Ext st aA/\fB aA b [a1,a2,a3] j cE/\aA a1=some (.lst (refs cE))/\aA a2=some (.lst ((b.fP cE).map aM))/\aA a3=some (.lst ((aY b j).2.map gI))) ?_ (m:=17) ⟨0,[(p0,[])],none,none,none,none,none,none,none,none,rfl,by omega,rfl,by simp [aY,Bk.fP,ZI],rfl,x14.trans (x5.trans x6),PL0,x6 _ _ (x5 _ _ (x4 _ _ (x3 _ _ ha12))),x6 _ _ ha25,ha36⟩
 rintro mm σ aA ⟨j,cE,o4,o5,o6,o7,o8,o9,jK,jP,e0,e0',ej,em,e2,xs,PL,s1,s2,s3⟩
 subst e2
 have FP:=tM b j
 have sF:=FP.QA kK
 have hlen:=tE b kK j
 have dB:cE.length=(aY b j).1.length:=by rw[em];simp [Bk.fP]
 walk_at"ex"
 rw[cN s3]
 walk_at"ex"
 rw[cN s1]
 walk_at"ex"
 by_cases dP:(aY b j).2.length<(aY b j).1.length
 ·have hc:(((aY b j).2.map gI).length:Int)<(refs cE).length:=by simp only[aa,refs];omega
  rw[if_pos (by simpa using hc)]
  have hjm:j<cE.length:=by omega
  generalize hx:cE[j]=lp
  obtain⟨l,pl⟩:=lp
  have hxg:cE[j]? = some (l,pl):=by rw[aj hjm,hx]
  have Lx:(l,pl)∈cE:=bf hxg
  have hmg:(aY b j).1[j]? = some (b.mem pl):=by rw[em];simp [Bk.fP,bc,hxg]
  have LS:=(PL.all _ Lx).2
  have Qb:pl.length<=j:=LS.2.2
  walk_at"st"
  rw[cN s3]
  walk_at"ex"
  rw[dX s1,aa,ej,dR (by simp only[refs,aa];exact hjm),refs,bc,hxg,gu,bD]
  walk_at"ex"
  walk_at"st"
  refine bI (by simp) fun a5 qJ x7 h5 h57=>?_
  walk_at"ex"
  rw[hd]
  walk_at"st"
  rw[aa]
  refine KJ (k:=k+9) hse (by omega) fun s fD hs8 x8 hs88=>?_
  walk_at"ex"
  rw[aE hs88,<-hd]
  have y8:=x7.trans x8
  have m1:NE a1 a5:=fun z=>by rw[<-z,s1]at h5;cases h5
  have m2:NE a2 a5:=fun z=>by rw[<-z,s2]at h5;cases h5
  have m3:NE a3 a5:=fun z=>by rw[<-z,s3]at h5;cases h5
  have t1:NE a1 s:=fun z=>by rw[<-z,x7 _ _ s1]at hs8;cases hs8
  have t2:NE a2 s:=fun z=>by rw[<-z,x7 _ _ s2]at hs8;cases hs8
  have t5:NE a5 s:=fun z=>by rw[<-z,h57]at hs8;cases hs8
  have n5:st a5=none:=jA xs h5
  have iZ:(cK b.fs.length).length<=16:=by rw[gT];exact cy (n:=2) (by decide) (by omega:b.fs.length<=4)
  refine gE aM (I:=fun rest σ kT=>∃ dn cE o6 o7 o8 o9 jK jP X,cK b.fs.length=dn++rest/\X=(dn.filter fun aU=>eZ b.ps (b.vm (b.mem pl) (aU++ai b.gs.length false))).foldl (dG b (b.mem pl)) ([],(aY b j).1)/\X.1.length<=dn.length/\X.2=b.fP cE/\σ=[some b.d,some (.ref a1),some (.ref a2),some (.ref a3),some (.ref l),some (.ref a5),o6,o7,o8,o9,jK,jP]/\Ext st kT/\(l,pl)∈cE/\fB kT b [a5,a1,a2,a3] (j+1) cE/\kT a1=some (.lst (refs cE))/\kT a2=some (.lst ((b.fP cE).map aM))/\kT a3=some (.lst ((aY b j).2.map gI))/\kT a5=some (.lst (X.1.map nC))/\kT s=some (.lst ((cK b.fs.length).map aM))) (fun rest σ kT hI=>?_) (fun aU rest σ kT M hI hM'=>?_) (fun σ kT hI=>?_) _ _ _ ⟨[],cE,_,_,_,_,_,_,([],(aY b j).1),rfl,rfl,by simp,em,rfl,xs.trans y8,Lx,((PL.new h5).keep y8.keep).up (by omega),y8 _ _ s1,y8 _ _ s2,y8 _ _ s3,x8 _ _ h57,hs88⟩
  ·obtain⟨dn,cE,o6,o7,o8,o9,jK,jP,X,g1,gX,gl,gm,g2,gx,gp,gP,r1,r2,r3,r5,rs⟩:=hI
   intro a ha
   simp only[ah]at ha
   subst ha
   rw[hs88,rs]
  ·obtain⟨dn,cE,o6,o7,o8,o9,jK,jP,X,g1,gX,gl,gm,g2,gx,gp,gP,r1,r2,r3,r5,rs⟩:=hI
   subst g2
   have hfo:aU.length=b.fs.length:=jR _ _ (by rw[g1];simp)
   have hdn:dn.length<=16:=by rw[g1]at iZ;simp at iZ;omega
   have hMx:iR b.aJ.length X.2:=by rw[gX];exact tH (b:=b) (m:=b.mem pl) _ (x:=([],(aY b j).1)) FP
   have hl9:=(gP.all _ gp).2.1
   walk_at"st"
   rw[hd]
   walk_at"ex"
   refine⟨by simp only[aa];omega,?_⟩
   rw[en]
   walk_at"ex"
   rw[aa]
   refine⟨by simp;omega,?_⟩
   rw[show((b.gs.length:Int)).toNat=b.gs.length by omega,O0]
   rw[show D.tup ((ai b.gs.length false).map D.bl)=aM (ai b.gs.length false)from rfl,CJ]
   refine⟨by simp;omega,?_⟩
   refine bI (by show 1<=aZ;decide) fun w LR x10 hw hw10=>?_
   walk_at"ex"
   rw[aE (x10 _ _ hl9),aE hw10]
   have el:pl.map aM++[aM (aU++ai b.gs.length false)]=(pl++[aU++ai b.gs.length false]).map aM:=by simp
   rw[el]
   refine bI (by simp only[aa,bh,be,ba];omega) fun lo FO x11 hlo11 hlo11'=>?_
   have hp4:∀ bs∈pl++[aU++ai b.gs.length false],bs.length=b.names.length:=fun bs hbs=>by
    rcases List.mem_append.mp hbs with hbs|hbs
    ·exact LS.2.1 bs hbs
    ·simp only[ah]at hbs;subst hbs;simp [hfo,iH]
   refine M0 (k:=k+1) hk hh (names:=b.names) (ss:=b.ps) (fun s hs=>⟨(qP B s (by simp [Bk.says,hs])).1,hdp s (by simp [Bk.says,hs])⟩) (by have:=B.p1;omega) hlo11' hp4 (by simp;omega) (by simp) fun PB x12=>?_
   rw[PH b (fun s hs=>by simp [Bk.says,hs]),<-hd]
   walk_at"ex"
   have y12:=x10.trans (x11.trans x12)
   have gx12:=gx.trans y12
   have gP12:=gP.keep y12.keep
   have r1':=y12 _ _ r1
   have r2':=y12 _ _ r2
   have r3':=y12 _ _ r3
   have r5':=y12 _ _ r5
   have rs':=y12 _ _ rs
   cases hv:eZ b.ps (b.vm (b.mem pl) (aU++ai b.gs.length false))with
   |false =>
    simp only[ag,if_false,aF]
    refine hM' _ PB ⟨dn++[aU],cE,_,_,_,_,_,_,X,by simp [g1],by rw[md,mo (by simp [hv]),pf,b7,gX],by simp;omega,gm,rfl,gx12,gp,gP12,r1',r2',r3',r5',rs'⟩
   |true =>
    simp only[if_true]
    walk_at"st"
    refine bI (by simp) fun a7 Qc x13 h7 h713=>?_
    walk_at"st"
    refine YF (k:=k) (l:=l) (pl:=pl) hia hse hk hlo hh B hdp (x13 _ _ (gP12.all _ gp).2.1) LS.2.1 (by omega) hfo fun q Qd ys hq x14' hys hya hq14=>?_
    walk_at"ex"
    rw[aE hq14]
    have y14:=x13.trans x14'
    have b1:NE a1 a7:=fun z=>by rw[<-z,r1']at h7;cases h7
    have b2:NE a2 a7:=fun z=>by rw[<-z,r2']at h7;cases h7
    have b3:NE a3 a7:=fun z=>by rw[<-z,r3']at h7;cases h7
    have b5:NE a5 a7:=fun z=>by rw[<-z,r5']at h7;cases h7
    have bs:NE s a7:=fun z=>by rw[<-z,rs']at h7;cases h7
    have c1:NE q a1:=fun z=>by rw[z,x13 _ _ r1']at hq;cases hq
    have c2:NE q a2:=fun z=>by rw[z,x13 _ _ r2']at hq;cases hq
    have c7:NE q a7:=fun z=>by rw[z,h713]at hq;cases hq
    have n7:st a7=none:=jA gx12 h7
    have hyl:ys.length<=16:=by
     have h1:=congrArg wc hys
     rw[aa]at h1
     have h2:=fu (A6 b (b.mem pl) aU) (cK b.gs.length)
     have h3:(cK b.gs.length).length<=16:=by rw[gT];exact cy (n:=2) (by decide) (by omega:b.gs.length<=4)
     omega
    have hya':∀ x∈ys,x.2∉[a7,a5,a1,a2,a3]:=fun x hx z=>by
     have:=(hya x hx).1
     simp only[b9,bp,or_false]at z
     rcases z with z|z|z|z|z
     ·rw[z,h713]at this;cases this
     ·rw[z,x13 _ _ r5']at this;cases this
     ·rw[z,x13 _ _ r1']at this;cases this
     ·rw[z,x13 _ _ r2']at this;cases this
     ·rw[z,x13 _ _ r3']at this;cases this
    have eA:jY b (b.mem pl) aU X.2=(ys.map (·.1)).foldl (kL b (b.mem pl) aU) ([],X.2):=by rw[X0,hys]
    refine gE (vS b (b.mem pl) aU) (I:=fun rest σ oO=>∃ dm cE o8 o9 jK jP Y,ys=dm++rest/\Y=(dm.map (·.1)).foldl (kL b (b.mem pl) aU) ([],X.2)/\Y.2=b.fP cE/\σ=[some b.d,some (.ref a1),some (.ref a2),some (.ref a3),some (.ref l),some (.ref a5),some (aM aU),some (.ref a7),o8,o9,jK,jP]/\Ext st oO/\(l,pl)∈cE/\fB oO b [a7,a5,a1,a2,a3] (j+1) cE/\(∀ x∈ys,oO x.2=some (.lst ((pl++[aU++x.1]).map aM)))/\oO a1=some (.lst (refs cE))/\oO a2=some (.lst ((b.fP cE).map aM))/\oO a3=some (.lst ((aY b j).2.map gI))/\oO a5=some (.lst (X.1.map nC))/\oO s=some (.lst ((cK b.fs.length).map aM))/\oO a7=some (.lst (Y.1.map pU))/\oO q=some (.lst (ys.map (vS b (b.mem pl) aU)))) (fun rest σ oO hI=>?_) (fun fr rest σ oO M2 hI hM2=>?_) (fun σ oO hI=>?_) _ _ _ ⟨[],cE,_,_,_,_,([],X.2),rfl,rfl,gm,rfl,gx12.trans y14,gp,(gP12.new h7).keep y14.keep,fun x hx=>(hya x hx).2.2,y14 _ _ r1',y14 _ _ r2',y14 _ _ r3',y14 _ _ r5',y14 _ _ rs',x14' _ _ h713,hq14⟩
    ·obtain⟨dm,cE,o8,o9,jK,jP,Y,k1,kY,km,k2,kx,kp,kP,ky,v1,v2,v3,v5,vs,v7,vq⟩:=hI
     intro a ha
     simp only[ah]at ha
     subst ha
     rw[hq14,vq]
    ·obtain⟨dm,cE,o8,o9,jK,jP,Y,k1,kY,km,k2,kx,kp,kP,ky,v1,v2,v3,v5,vs,v7,vq⟩:=hI
     subst k2
     have hfm:fr∈ys:=by rw[k1];simp
     have hfr:fr.1.length=b.gs.length:=by
      have:fr.1∈ys.map (·.1):=List.mem_map.mpr ⟨fr,hfm,rfl⟩
      rw[hys]at this
      exact jR _ _ (List.mem_filter.mp this).1
     have hlong:=ky fr hfm
     have hp5:∀ bs∈pl++[aU++fr.1],bs.length=b.names.length:=fun bs hbs=>by
      rcases List.mem_append.mp hbs with hbs|hbs
      ·exact LS.2.1 bs hbs
      ·simp only[ah]at hbs;subst hbs;simp [hfo,hfr,iH]
     have hMy:iR b.aJ.length Y.2:=by rw[kY];exact MU _ hMx
     have hYf:=hMy.QA kK
     have hdm:dm.length<=16:=by rw[k1]at hyl;simp at hyl;omega
     have hY1:Y.1.length<=16:=by rw[kY,ES];simp;omega
     have hYs:((dm++[fr]).map (·.1)).foldl (kL b (b.mem pl) aU) ([],X.2)=kL b (b.mem pl) aU Y fr.1:=by rw[cx,nu,<-kY];rfl
     have hps:cE.length<=16:=by rw[km]at hYf;simpa [Bk.fP]using hYf
     simp only[vS]
     walk_at"ex"
     walk_at"st"
     refine DN (k:=k) hlm hbp hpp hh B hs (by show b.aJ.length<=5000;omega) hlong hp5 (by simp;omega) hov fun LU x16=>?_
     rw[mem_set,<-E1]
     walk_at"ex"
     walk_at"st"
     have u1:=x16 _ _ v1
     have u2:=x16 _ _ v2
     have u3:=x16 _ _ v3
     have u5:=x16 _ _ v5
     have us:=x16 _ _ vs
     have u7:=x16 _ _ v7
     have uq:=x16 _ _ vq
     have uP:=kP.keep x16.keep
     have ux:=kx.trans x16
     have uy:∀ x∈ys,LU x.2=some (.lst ((pl++[aU++x.1]).map aM)):=fun x hx=>x16 _ _ (ky x hx)
     generalize hmm:b.pN (b.mem pl) (aU++fr.1)=mm'
     have fin:∀ BK qF pls',b.fP pls'=gC (b.fP cE) mm'->Ext st qF->(l,pl)∈pls'->fB qF b [a7,a5,a1,a2,a3] (j+1) pls'->(∀ x∈ys,qF x.2=some (.lst ((pl++[aU++x.1]).map aM)))->qF a1=some (.lst (refs pls'))->qF a2=some (.lst ((b.fP pls').map aM))->qF a3=some (.lst ((aY b j).2.map gI))->qF a5=some (.lst (X.1.map nC))->qF s=some (.lst ((cK b.fs.length).map aM))->qF a7=some (.lst (Y.1.map pU))->qF q=some (.lst (ys.map (vS b (b.mem pl) aU)))->cR (aO G (k+10)) G.sub [.ex (.cB .append (.v 7) [(.tup [(.v 8),(.v 9),(.cB .index (.v 2) [(.v 11)])])])] ⟨M2,Q,BK,M2,fun c _ aA=>E c aA⟩ [some b.d,some (.ref a1),some (.ref a2),some (.ref a3),some (.ref l),some (.ref a5),some (aM aU),some (.ref a7),some (aM fr.1),some (.int (oS b.ws (b.vm (b.mem pl) (aU++fr.1)))),some (.ref fr.2),some (aM mm')] qF:=fun BK qF pls' w0 w1 w2 w3 w4 z1 z2 z3 z5 zs z7 zq=>by
      walk_at"st"
      rw[aE z7]
      refine⟨True.intro,?_⟩
      rw[tL,vN,aE z2,vU,vN,aE z2]
      refine⟨True.intro,GO mm',B1 _,?_⟩
      rw[w0,GN (CM _ mm'),bD]
      walk_at"ex"
      rw[aE z7]
      refine⟨by simp only[aa];omega,?_⟩
      simp only[aF]
      refine hM2 _ _ ⟨dm++[fr],pls',_,_,_,_,kL b (b.mem pl) aU Y fr.1,by simp [k1],hYs.symm,?_,rfl,?_,w2,w3.keep (bC.put (by simp)),?_,?_,?_,?_,?_,?_,?_,?_⟩
      ·rw[w0,<-km,<-hmm];rfl
      ·intro a o e
       rw[aH (fun z=>by rw[z,n7]at e;cases e)];exact w1 _ _ e
      ·intro x hx
       rw[aH (fun z=>hya' x hx (by simp [z]))];exact w4 x hx
      ·rw[aH b1];exact z1
      ·rw[aH b2];exact z2
      ·rw[aH b3];exact z3
      ·rw[aH b5];exact z5
      ·rw[aH bs];exact zs
      ·rw[aN];simp [kL,pU,hmm,km,w0]
      ·rw[aH c7];exact zq
     rw[tY,cN u2,YY]
     refine⟨GO mm',B1 _,?_⟩
     cases hc':(b.fP cE).contains mm' with
     |true =>
      simp only[d7,ag,if_false,aF]
      have e:gC (b.fP cE) mm'=b.fP cE:=by unfold gC;rw[hc'];rfl
      exact fin _ LU cE e.symm ux kp uP uy u1 u2 u3 u5 us u7 uq
     |false =>
      simp only[d5,if_true]
      have e:gC (b.fP cE) mm'=b.fP cE++[mm']:=by unfold gC;rw[hc'];rfl
      walk_at"st"
      rw[aE u2]
      refine⟨True.intro,?_⟩
      rw[aE u2]
      refine⟨by simp only[aa,Bk.fP];omega,?_⟩
      walk_at"st"
      have u1':(put LU a2 (.lst ((b.fP cE).map aM++[aM mm']))) a1=some (.lst (refs cE)):=by rw[aH a12];exact u1
      rw[aE u1']
      refine⟨True.intro,?_⟩
      rw[aE u1']
      refine⟨by simp only[aa,refs];omega,?_⟩
      simp only[aF]
      have kk:bC [a7,a5,a1,a2,a3] LU (put (put LU a2 (.lst ((b.fP cE).map aM++[aM mm']))) a1 (.lst (refs cE++[.ref fr.2]))):=(bC.put (by simp)).trans (bC.put (by simp))
      refine fin _ _ (cE++[(fr.2,pl++[aU++fr.1])]) ?_ ?_ (by simp [kp]) ?_ ?_ ?_ ?_ ?_ ?_ ?_ ?_ ?_
      ·rw[e];simp [Bk.fP,<-hmm,E1]
      ·intro a o ea
       rw[aH (fun z=>by rw[z,n1]at ea;cases ea),aH (fun z=>by rw[z,n2]at ea;cases ea)];exact ux _ _ ea
      ·exact(uP.keep kk).add ⟨hya' fr hfm,kk _ _ (hya' fr hfm) (uy fr hfm),hp5,by simp;omega⟩
      ·intro x hx
       exact kk _ _ (hya' x hx) (uy x hx)
      ·rw[aN];simp [refs]
      ·rw[aH (cz a12),aN];simp [Bk.fP,<-hmm,E1]
      ·rw[aH (cz a13),aH (cz a23)];exact u3
      ·rw[aH (cz m1),aH (cz m2)];exact u5
      ·rw[aH (cz t1),aH (cz t2)];exact us
      ·rw[aH (cz b1),aH (cz b2)];exact u7
      ·rw[aH c1,aH c2];exact uq
    ·obtain⟨dm,cE,o8,o9,jK,jP,Y,k1,kY,km,k2,kx,kp,kP,ky,v1,v2,v3,v5,vs,v7,vq⟩:=hI
     subst k2
     rw[b7]at k1
     have eY:jY b (b.mem pl) aU X.2=Y:=by rw[eA,kY,k1]
     have hY1:Y.1.length<=16:=by rw[kY,ES];simp;rw[<-k1];exact hyl
     walk_at"st"
     rw[aE v5]
     refine⟨True.intro,?_⟩
     rw[aE v7]
     refine⟨by simp only[aa];omega,?_⟩
     rw[aE v5]
     refine⟨by simp only[aa];omega,?_⟩
     simp only[aF]
     refine hM' _ _ ⟨dn++[aU],cE,_,_,_,_,_,_,dG b (b.mem pl) X aU,by simp [g1],?_,by simp [dG];omega,?_,rfl,?_,kp,kP.less.keep (bC.put (by simp)),?_,?_,?_,?_,?_⟩
     ·rw[md,mq (by simp [hv]),pf,nu,<-gX];rfl
     ·simp only[dG];rw[eY];exact km
     ·intro a o e
      rw[aH (fun z=>by rw[z,n5]at e;cases e)];exact kx _ _ e
     ·rw[aH m1];exact v1
     ·rw[aH m2];exact v2
     ·rw[aH m3];exact v3
     ·rw[aN];simp [dG,nC,eY]
     ·rw[aH (cz t5)];exact vs
  ·obtain⟨dn,cE,o6,o7,o8,o9,jK,jP,X,g1,gX,gl,gm,g2,gx,gp,gP,r1,r2,r3,r5,rs⟩:=hI
   subst g2
   rw[b7]at g1
   have eM:kI b (b.mem pl) (aY b j).1=X:=by unfold kI oU;rw[g1,gX]
   have hdn:dn.length<=16:=by rw[<-g1];exact iZ
   have eG:aY b (j+1)=(X.2,(aY b j).2++[(b.mem pl,X.1)]):=by
    simp only[aY,vV]
    rw[if_pos dP,ej,hmg]
    show((kI b (b.mem pl) (aY b j).1).2,_)=_
    rw[<-eM];rfl
   walk_at"st"
   rw[aE r3]
   refine⟨True.intro,?_⟩
   have hg:(aY b j).1=b.fP cE->True:=fun _=>trivial
   have hpre:(b.fP cE)[j]? = some (b.mem pl):=by
    have h1:=PK (b:=b) (m:=b.mem pl) (aY b j).1
    rw[eM,gm]at h1
    obtain⟨t,ht⟩:=h1
    rw[<-ht,bq (by omega),hmg]
   have hjl:j<(b.fP cE).length:=by
    by_cases z:j<(b.fP cE).length
    ·exact z
    ·rw[de (by omega)]at hpre;cases hpre
   rw[cN r3]
   walk_at"ex"
   rw[dX r2,aa,ej,dR (by simpa using hjl),bc,hpre,gu,bD]
   walk_at"ex"
   rw[aE r5]
   refine⟨by simp only[aa];omega,?_⟩
   rw[aE r3]
   refine⟨by simp only[aa];omega,?_⟩
   simp only[aF]
   refine⟨mm-1,by omega,j+1,cE,_,_,_,_,_,_,_,_,by rw[eG];simp;omega,by omega,by rw[eG];simp [ej],by rw[eG];exact gm,rfl,?_,gP.less.keep (bC.put (by simp)),?_,?_,?_⟩
   ·intro a o e
    rw[aH (fun z=>by rw[z,n3]at e;cases e)];exact gx _ _ e
   ·rw[aH a13];exact r1
   ·rw[aH a23];exact r2
   ·rw[aN,eG];simp [gI]
 ·have hc:¬(((aY b j).2.map gI).length:Int)<(refs cE).length:=by simp only[aa,refs];omega
  rw[if_neg (by simpa using hc)]
  walk_at"st"
  have hfin:qK b=(aY b j).2:=by
   unfold qK
   have:=wU b dP (17-j)
   rw[show j+(17-j)=17 by omega]at this
   rw[this]
  exact hQ a3 aA n3 xs (by rw[hfin];exact s3)
end
end L3
end
section
namespace L3
open PySem
noncomputable def LC (ibo iga ilg:Nat):Fn:=⟨1,3,[.asg (.nm 1) (.call ibo [(.v 0),(.c (.int 0)),(.c (.int 3)),(.c (.int 2))]),.asg (.nm 2) (.call iga [(.v 1)]),.iff (.or_ (.not_ (.isi (.v 2) [.list])) (.cmp .ne (.comp 1 [] [0] true none [(.v 2)] [(.not_ (.isi (.v 0) [.tuple]))] (.v 0)) (.lst []))) [.ret (.c (.bl false))] [],.ret (.cmp .eq (.v 2) (.call ilg [(.v 1)]))]⟩
theorem tF {α:Type}(f:α->D){n:Nat}(h:∀ x,bH (f x)=true/\cL (f x)<=n):∀ l:List α,bO (l.map f)=true/\cI (l.map f)<=n
 |[]=>⟨rfl,cu _⟩
 |a::l=>by
  have h1:=h a
  have h2:=tF f h l
  simp only[av,bO,h1.1,h2.1,df,cI,true_and]
  omega
theorem UP (a:lO):bH (pU a)=true/\cL (pU a)<=2:=by
 have h:=uK a.1
 simp only[pU,bH,bO,mE,df,cL,cI,true_and];omega
theorem RX (x:List Bool×List lO):bH (nC x)=true/\cL (nC x)<=4:=by
 have h:=uK x.1
 have h2:=tF pU UP x.2
 simp only[nC,bH,bO,mE,h2.1,df,cL,cI,true_and];omega
theorem Q9 (x:Node):bH (gI x)=true/\cL (gI x)<=6:=by
 have h:=uK x.1
 have h2:=tF nC RX x.2
 simp only[gI,bH,bO,mE,h2.1,df,cL,cI,true_and];omega
theorem LW (b:Bk)(kK:b.aJ.length<=4)(j:Nat):(aY b j).2.length<=16:=by
 have h1:=(tM b j).QA kK
 have h2:=tE b kK j
 omega
section
variable {G:Prog}{k il ibo iga ilg inm ic im dM is ipr ibk ich iti iri ie iw ipo iz irr io ini ifs ian kC ifk kU imk ino ima ilo iph inh ih ise ik ilo8 ilm ia ibp ip:Nat}{st:aB}{E:XK}{ns:List Int}
theorem Kp (h:G.fns il=some (LC ibo iga ilg))(hbo:G.fns ibo=some (AM inm dM is ipr))(iH:G.fns inm=some (DA dM))(hpr:G.fns ipr=some (AN is dM))(hs:G.fns is=some (oF dM is))(hn:G.fns dM=some (sO im))(hm:G.fns im=some (nK ic))(hc:G.fns ic=some oR)
  (hga:G.fns iga=some (HX ich iri ini ifs ian))(hch:G.fns ich=some (rQ ibk))(hb:∀ b:Bk,b.Ok->eH b.says<aZ->(∀ x∈b.says,aK x<=60)->(bX b.says []).length<=4->NM G ibk 13 b)(hri:G.fns iri=some (yT iti io))(ht:G.fns iti=some (oE iz ie irr))(hz:G.fns iz=some (lD iw))(he:G.fns ie=some (rL ie iw ipo))(hw:G.fns iw=some iN)(hpo:G.fns ipo=some pA)(hrr:G.fns irr=some CB)(hio:G.fns io=some uQ)
  (hni:G.fns ini=some DV)(hfs:G.fns ifs=some (DG kC ifk kU))(han:G.fns ian=some (LK kC kU imk ino ima ilo))(hset:G.fns kC=some vZ)(hfk:G.fns ifk=some C5)(hha:G.fns kU=some (tS iph inh))(hnh:G.fns inh=some wQ)(hph:G.fns iph=some qL)(hmk:G.fns imk=some CZ)(hno:G.fns ino=some AJ)(hma:G.fns ima=some B7)(hlo:G.fns ilo=some AI)
  (hlg:G.fns ilg=some (DC ilm ise ik ia))(hlm:G.fns ilm=some (uZ ibp ih))(hbp:G.fns ibp=some (mO ip))(hpp:G.fns ip=some (kM ip))(hh:G.fns ih=some (nQ ih))(hse:G.fns ise=some uH)(hk:G.fns ik=some (A0 ih))(hia:G.fns ia=some (CV ise ik ilo8))(hlo8:G.fns ilo8=some (vB ih)):aO G (k+16) il [.bP (ns.map .int)] st (fun d _=>d=.bl true) E:=by
 have hL:aZ=16777216:=rfl
 rw[aT h]
 simp only[LC,start]
 refine⟨rfl,?_⟩
 walk_at"st"
 refine WX (k:=k+8) hbo iH hpr hs hn hm hc (by decide) (by decide) (by decide) (by decide) fun b aC DR x1=>?_
 obtain⟨F1,F2,F3,F4⟩:=Q8 DR (by decide)
 have hB:=hb b DR.ok (by omega) F2 F3
 walk_at"ex"
 walk_at"st"
 refine Y3 (k:=k) hga hch hB hri ht hz he hw hpo hrr hio hni hfs han hset hfk hha hnh hph hmk hno hma hlo DR.ok (by omega) F3 fun p aG hp x2 gU=>?_
 have hgs:(qK b).length<=16:=by unfold qK;exact LW b F3 17
 generalize hgm:qK b=gm at gU hgs
 walk_at"ex"
 walk_at"st"
 rw[cN gU,aE gU]
 refine jT gI (fun _=>none) (gm) [] aG (fun aX y a ha=>?_) (fun v hv' aX K y1 hK=>hK aX .refl) (by simp only[ba];omega) fun aV x3=>?_
 ·simp only[ah]at ha
  subst ha
  rw[gU,y _ _ gU]
 rw[az,show(gm).filterMap (fun _=>(none:Option L3.D))=[]by simp]
 refine bI (by simp) fun u cH x4 hu hu4=>?_
 refine bI (by simp) fun u2 cQ x5 hu2 hu5=>?_
 refine⟨iT (is:=[]) (x5 _ _ hu4),iT (is:=[]) hu5,?_⟩
 rw[eq_nil (x5 _ _ hu4) hu5]
 simp only[n4,d7,ag,if_false,aF]
 walk_at"st"
 have hp5:=x5 _ _ (x4 _ _ (x3 _ _ gU))
 refine U6 (k:=k+4) hlg hlm hbp hpp hh hse hk hia hlo8 DR.ok (by omega) F3 (fun x hx=>by have:=DR.d4 x hx;omega) F4 fun q fE hq x6 hq6=>?_
 rw[hgm]at hq6
 have hp6:=x6 _ _ hp5
 have hpn:=tF gI Q9 (gm)
 have dB:∀ r,fE r=some (.lst ((gm).map gI))->plainS fE (.ref r):=fun r hr=>by
  refine⟨?_,cu _⟩
  simp only[fH,hr,JK,hpn.1,fe,decide_eq_true_eq]
  exact bz hpn.2 (by decide)
 walk_at"ex"
 refine⟨dB _ hp6,dB _ hq6,?_⟩
 simp only[bT,hp6,hq6,DI]
 rw[CS _ hpn.1]
end
end L3
end
end
namespace L3
open PySem PySem.Spec PyProof.Rows L2
noncomputable def g_LETTERS:D:=(.str (W "abcdefghijklmnopqrstuvwxyz"))
noncomputable def g_LONGEST_NAME:D:=(.int 8)
noncomputable def g_NO_NAMES:D:=(.tup [(.str (W "yes")),(.str (W "no")),(.str (W "not")),(.str (W "and")),(.str (W "or")),(.str (W "then")),(.str (W "same")),(.str (W "before")),(.str (W "once")),(.str (W "sofar")),(.str (W "since")),(.str (W "foe")),(.str (W "friend")),(.str (W "promise")),(.str (W "must")),(.str (W "wish"))])
noncomputable def g_DEEPEST:D:=(.int 8)
noncomputable def g_SAYINGS_WITHIN:D:=(.dA [(.str (W "yes")),(.str (W "no")),(.str (W "not")),(.str (W "before")),(.str (W "once")),(.str (W "sofar")),(.str (W "and")),(.str (W "or")),(.str (W "then")),(.str (W "same")),(.str (W "since"))] [(.int 0),(.int 0),(.int 1),(.int 1),(.int 1),(.int 1),(.int 2),(.int 2),(.int 2),(.int 2),(.int 2)])
noncomputable def g_PAST_WORDS:D:=(.tup [(.str (W "before")),(.str (W "once")),(.str (W "sofar")),(.str (W "since"))])
noncomputable def g_MOST_LAMPS:D:=(.int 2)
noncomputable def g_MOST_PROMISES:D:=(.int 3)
noncomputable def g_MOST_MUSTS:D:=(.int 3)
noncomputable def g_MOST_WISHES:D:=(.int 5)
noncomputable def g_HIGHEST_PRICE:D:=(.int 99)
noncomputable def g_MOST_PIECES:D:=(.int 4)
noncomputable abbrev yN:Nat:=0
noncomputable abbrev tV:Nat:=1
noncomputable abbrev lH:Nat:=2
noncomputable abbrev iA:Nat:=3
noncomputable abbrev oT:Nat:=4
noncomputable abbrev mJ:Nat:=5
noncomputable abbrev BW:Nat:=6
noncomputable abbrev pZ:Nat:=7
noncomputable abbrev pR:Nat:=8
noncomputable abbrev vI:Nat:=9
noncomputable abbrev DE:Nat:=10
noncomputable abbrev GY:Nat:=11
noncomputable abbrev zR:Nat:=12
noncomputable abbrev nG:Nat:=13
noncomputable abbrev yQ:Nat:=14
noncomputable abbrev FX:Nat:=15
noncomputable abbrev B6:Nat:=16
noncomputable abbrev zK:Nat:=17
noncomputable abbrev qT:Nat:=18
noncomputable abbrev pT:Nat:=19
noncomputable abbrev sA:Nat:=20
noncomputable abbrev lV:Nat:=21
noncomputable abbrev nP:Nat:=22
noncomputable abbrev nJ:Nat:=23
noncomputable abbrev rC:Nat:=24
noncomputable abbrev qG:Nat:=25
noncomputable abbrev nO:Nat:=26
noncomputable abbrev sX:Nat:=27
noncomputable abbrev pY:Nat:=28
noncomputable abbrev mZ:Nat:=29
noncomputable abbrev mW:Nat:=30
noncomputable abbrev uM:Nat:=31
noncomputable abbrev zQ:Nat:=32
noncomputable abbrev SH:Nat:=33
noncomputable abbrev vA:Nat:=34
noncomputable abbrev zP:Nat:=35
noncomputable abbrev fU:Nat:=36
noncomputable abbrev zG:Nat:=37
noncomputable abbrev gK:Nat:=38
noncomputable abbrev uO:Nat:=39
noncomputable abbrev BE:Nat:=40
noncomputable abbrev pW:Nat:=41
noncomputable abbrev pO:Nat:=42
noncomputable abbrev lJ:Nat:=43
noncomputable abbrev xX:Nat:=44
noncomputable abbrev uB:Nat:=45
noncomputable abbrev BP:Nat:=46
noncomputable abbrev nM:Nat:=47
noncomputable abbrev vK:Nat:=48
noncomputable abbrev B3:Nat:=49
noncomputable abbrev V8:Nat:=50
noncomputable def GZ:Fn:=⟨1,1,[.iff (.or_ (.not_ (.isi (.v 0) [.str])) (.cmp .in_ (.v 0) (.c g_NO_NAMES))) [.ret (.c (.bl false))] [],.ret (.and_ (.chain .le .le (.c (.int 1)) (.bi .len [(.v 0)]) (.c g_LONGEST_NAME)) (.bi .all [(.comp 1 [] [0] true none [(.v 0)] [] (.cmp .in_ (.v 0) (.c g_LETTERS)))]))]⟩
noncomputable def BC:Fn:=⟨2,2,[.ret (.call lH [(.v 0),(.v 1),(.c g_DEEPEST)])]⟩
noncomputable def pC:Fn:=⟨3,3,[.iff (.or_ (.cmp .lt (.v 2) (.c (.int 1))) (.or_ (.not_ (.isi (.v 1) [.tuple])) (.or_ (.cmp .lt (.bi .len [(.v 1)]) (.c (.int 1))) (.not_ (.isi (.ix (.v 1) (.c (.int 0))) [.str]))))) [.ret (.c (.bl false))] [],.iff (.cmp .eq (.ix (.v 1) (.c (.int 0))) (.c (.str (W "lamp")))) [.ret (.and_ (.cmp .eq (.bi .len [(.v 1)]) (.c (.int 2))) (.and_ (.call yN [(.ix (.v 1) (.c (.int 1)))]) (.cmp .in_ (.ix (.v 1) (.c (.int 1))) (.v 0))))] [],.iff (.or_ (.cmp .fX (.ix (.v 1) (.c (.int 0))) (.c g_SAYINGS_WITHIN)) (.cmp .ne (.bi .len [(.v 1)]) (.bin .add (.c (.int 1)) (.ix (.c g_SAYINGS_WITHIN) (.ix (.v 1) (.c (.int 0))))))) [.ret (.c (.bl false))] [],.ret (.bi .all [(.comp 1 [0,2] [0] true none [(.sl (.v 1) [(.c (.int 1))] [])] [] (.call lH [(.v 1),(.v 0),(.bin .sub (.v 2) (.c (.int 1)))]))])]⟩
noncomputable def qU:Fn:=⟨1,1,[.iff (.cmp .eq (.ix (.v 0) (.c (.int 0))) (.c (.str (W "lamp")))) [.ret (.tup [])] [],.ret (.sl (.v 0) [(.c (.int 1))] [])]⟩
noncomputable def BY:Fn:=⟨1,4,[.asg (.nm 1) (.lst []),.asg (.nm 2) (.bit .list .rev [(.v 0)]),.whl (.v 2) [.asg (.nm 3) (.cB .pop (.v 2) []),.iff (.and_ (.cmp .in_ (.ix (.v 3) (.c (.int 0))) (.c g_PAST_WORDS)) (.cmp .fX (.v 3) (.v 1))) [.ex (.cB .append (.v 1) [(.v 3)])] [],.ex (.cB .extend (.v 2) [(.bit .list .rev [(.call iA [(.v 3)])])])],.ret (.v 1)]⟩
noncomputable def KC:Fn:=⟨3,3,[.ret (.and_ (.isi (.v 0) [.tuple]) (.chain .le .le (.v 1) (.bi .len [(.v 0)]) (.v 2)))]⟩
noncomputable def B5:Fn:=⟨2,3,[.iff (.or_ (.not_ (.call mJ [(.v 0),(.c (.int 1)),(.c g_MOST_LAMPS)])) (.not_ (.call mJ [(.v 1),(.c (.int 1)),(.c g_MOST_LAMPS)]))) [.ret (.c (.bl false))] [],.asg (.nm 2) (.bin .add (.v 0) (.v 1)),.ret (.and_ (.bi .all [(.comp 1 [] [0] true none [(.v 2)] [] (.call yN [(.v 0)]))]) (.cmp .eq (.bi .sH [(.v 2)]) (.bi .len [(.v 2)])))]⟩
noncomputable def yE:Fn:=⟨3,3,[.ret (.and_ (.call mJ [(.v 1),(.c (.int 0)),(.v 2)]) (.bi .all [(.comp 1 [0] [0] true none [(.v 1)] [] (.call tV [(.v 1),(.v 0)]))]))]⟩
noncomputable def xV:Fn:=⟨2,2,[.iff (.cmp .eq (.ix (.v 1) (.c (.int 0))) (.c (.str (W "before")))) [.ret (.c (.bl false))] [],.iff (.cmp .eq (.ix (.v 1) (.c (.int 0))) (.c (.str (W "lamp")))) [.ret (.cmp .in_ (.ix (.v 1) (.c (.int 1))) (.v 0))] [],.ret (.bi .any [(.comp 1 [0] [0] true none [(.call iA [(.v 1)])] [] (.call pR [(.v 1),(.v 0)]))])]⟩
noncomputable def vH:Fn:=⟨3,3,[.ret (.and_ (.call pZ [(.v 0),(.v 2),(.c g_MOST_PROMISES)]) (.not_ (.bi .any [(.comp 1 [1] [0] true none [(.v 2)] [] (.call pR [(.v 1),(.v 0)]))])))]⟩
noncomputable def D7:Fn:=⟨1,1,[.ret (.and_ (.isi (.v 0) [.int]) (.and_ (.not_ (.isi (.v 0) [.bool])) (.chain .le .le (.c (.int 1)) (.v 0) (.c g_HIGHEST_PRICE))))]⟩
noncomputable def FY:Fn:=⟨2,2,[.ret (.and_ (.call mJ [(.v 1),(.c (.int 2)),(.c (.int 2))]) (.and_ (.call DE [(.ix (.v 1) (.c (.int 0)))]) (.call tV [(.v 0),(.ix (.v 1) (.c (.int 1)))])))]⟩
noncomputable def yZ:Fn:=⟨2,2,[.ret (.and_ (.call mJ [(.v 1),(.c (.int 1)),(.c g_MOST_WISHES)]) (.bi .all [(.comp 1 [0] [0] true none [(.v 1)] [] (.call GY [(.v 1),(.v 0)]))]))]⟩
noncomputable def AD:Fn:=⟨3,3,[.ret (.bin .add (.bin .add (.bi .list [(.v 0)]) (.bi .list [(.v 1)])) (.comp 1 [] [0] true none [(.v 2)] [] (.ix (.v 0) (.c (.int 1)))))]⟩
noncomputable def FT:Fn:=⟨1,6,[.iff (.or_ (.not_ (.call mJ [(.v 0),(.c (.int 5)),(.c (.int 5))])) (.not_ (.call BW [(.ix (.v 0) (.c (.int 0))),(.ix (.v 0) (.c (.int 1)))]))) [.ret (.c (.bl false))] [],.asg (.nm 1) (.ix (.v 0) (.c (.int 1))),.asg (.nm 2) (.bin .add (.ix (.v 0) (.c (.int 0))) (.v 1)),.asg (.nm 3) (.ix (.v 0) (.c (.int 2))),.asg (.nm 4) (.ix (.v 0) (.c (.int 3))),.asg (.nm 5) (.ix (.v 0) (.c (.int 4))),.iff (.or_ (.not_ (.call vI [(.v 2),(.v 1),(.v 3)])) (.not_ (.call pZ [(.v 2),(.v 4),(.c g_MOST_MUSTS)]))) [.ret (.c (.bl false))] [],.ret (.and_ (.call zR [(.v 2),(.v 5)]) (.cmp .le (.bi .len [(.call oT [(.call nG [(.v 3),(.v 4),(.v 5)])])]) (.c g_MOST_PIECES)))]⟩
noncomputable def FU:Fn:=rQ yQ
noncomputable def BX:Fn:=wQ
noncomputable def zI:Fn:=qL
noncomputable def rW:Fn:=oE oT pT lV
noncomputable def xR:Fn:=rL pT iA sA
noncomputable def qS:Fn:=pA
noncomputable def lX:Fn:=CB
noncomputable def sS:Fn:=tS zK B6
noncomputable def nE:Fn:=B7
noncomputable def rZ:Fn:=yT qT nG
noncomputable def qH:Fn:=C5
noncomputable def nA:Fn:=CZ
noncomputable def tP:Fn:=AI
noncomputable def xU:Fn:=vZ
noncomputable def mX:Fn:=DV
noncomputable def mQ:Fn:=AJ
noncomputable def vG:Fn:=DG pY qG nP
noncomputable def zO:Fn:=LK pY nP nO mW nJ sX
noncomputable def PF:Fn:=HX FX rC mZ uM zQ
noncomputable def uR:Fn:=⟨2,2,[.iff (.cmp .lt (.v 1) (.bi .len [(.v 0)])) [.ret (.ix (.v 0) (.v 1))] [],.iff (.cmp .eq (.v 0) (.lst [])) [.ret (.c (.int 0))] [],.ret (.bin .add (.bin .mul (.ix (.v 0) (.bin .mod (.v 1) (.bi .len [(.v 0)]))) (.c (.int 31))) (.v 1))]⟩
noncomputable def zU:Fn:=⟨3,4,[.asg (.nm 3) (.bin .mod (.bin .mul (.bin .add (.bin .add (.call vA [(.v 0),(.v 1)]) (.bin .mul (.c (.int 7919)) (.v 1))) (.c (.int 1))) (.c (.int 48271))) (.c (.int 2147483647))),.ret (.bin .mod (.bin .mod (.bin .add (.bin .add (.bin .mul (.v 3) (.v 3)) (.bin .mul (.c (.int 7)) (.v 3))) (.v 1)) (.c (.int 2147483629))) (.v 2))]⟩
noncomputable def BZ:Fn:=⟨3,3,[.asg (.ix (.v 1) (.c (.int 0))) (.bin .add (.ix (.v 1) (.c (.int 0))) (.c (.int 1))),.ret (.call zP [(.v 0),(.ix (.v 1) (.c (.int 0))),(.v 2)])]⟩
noncomputable def zW:Fn:=⟨2,7,[.asg (.nm 2) (.lst [(.c (.str (W "a"))),(.c (.str (W "b"))),(.c (.str (W "x"))),(.c (.str (W "y"))),(.c (.str (W "lamp"))),(.c (.str (W "far"))),(.c (.str (W "yesno"))),(.c (.str (W "abcdefgh")))]),.asg (.nm 3) (.call fU [(.v 0),(.v 1),(.c (.int 8))]),.asg (.nm 4) (.bin .add (.sl (.v 2) [(.v 3)] []) (.sl (.v 2) [] [(.v 3)])),.asg (.nm 5) (.bin .add (.c (.int 1)) (.call fU [(.v 0),(.v 1),(.c (.int 2))])),.asg (.nm 6) (.bin .add (.c (.int 1)) (.call fU [(.v 0),(.v 1),(.c (.int 2))])),.ret (.tup [(.bi .tuple [(.sl (.v 4) [] [(.v 5)])]),(.bi .tuple [(.sl (.v 4) [(.v 5)] [(.bin .add (.v 5) (.v 6))])])])]⟩
noncomputable def xW:Fn:=⟨5,7,[.asg (.nm 5) (.call fU [(.v 0),(.v 1),(.c (.int 13))]),.iff (.or_ (.cmp .eq (.v 3) (.c (.int 0))) (.cmp .lt (.v 5) (.c (.int 3)))) [.ret (.tup [(.c (.str (W "lamp"))),(.ix (.v 2) (.call fU [(.v 0),(.v 1),(.bi .len [(.v 2)])]))])] [],.iff (.cmp .eq (.v 5) (.c (.int 3))) [.ret (.tup [(.ix (.lst [(.c (.str (W "yes"))),(.c (.str (W "no")))]) (.call fU [(.v 0),(.v 1),(.c (.int 2))]))])] [],.iff (.and_ (.cmp .gt (.v 5) (.c (.int 8))) (.cmp .gt (.ix (.v 4) (.c (.int 0))) (.c (.int 0)))) [.asg (.ix (.v 4) (.c (.int 0))) (.bin .sub (.ix (.v 4) (.c (.int 0))) (.c (.int 1))),.asg (.nm 6) (.call gK [(.v 0),(.v 1),(.v 2),(.bin .sub (.v 3) (.c (.int 1))),(.v 4)]),.iff (.cmp .eq (.v 5) (.c (.int 12))) [.ret (.tup [(.c (.str (W "since"))),(.v 6),(.call gK [(.v 0),(.v 1),(.v 2),(.bin .sub (.v 3) (.c (.int 1))),(.v 4)])])] [],.ret (.tup [(.ix (.lst [(.c (.str (W "before"))),(.c (.str (W "once"))),(.c (.str (W "sofar")))]) (.bin .sub (.v 5) (.c (.int 9)))),(.v 6)])] [],.asg (.nm 6) (.call gK [(.v 0),(.v 1),(.v 2),(.bin .sub (.v 3) (.c (.int 1))),(.v 4)]),.iff (.or_ (.cmp .eq (.v 5) (.c (.int 4))) (.cmp .gt (.v 5) (.c (.int 8)))) [.ret (.tup [(.c (.str (W "not"))),(.v 6)])] [],.ret (.tup [(.ix (.lst [(.c (.str (W "and"))),(.c (.str (W "or"))),(.c (.str (W "then"))),(.c (.str (W "same")))]) (.bin .sub (.v 5) (.c (.int 5)))),(.v 6),(.call gK [(.v 0),(.v 1),(.v 2),(.bin .sub (.v 3) (.c (.int 1))),(.v 4)])])]⟩
noncomputable def uN:Fn:=AN gK fU
noncomputable def BS:Fn:=AM zG fU gK uO
noncomputable def yC:Fn:=⟨2,3,[.iff (.and_ (.cmp .in_ (.ix (.v 0) (.c (.int 0))) (.tup [(.c (.str (W "before"))),(.c (.str (W "once"))),(.c (.str (W "sofar"))),(.c (.str (W "since")))])) (.cmp .fX (.v 0) (.v 1))) [.ex (.cB .append (.v 1) [(.v 0)])] [],.iff (.cmp .ne (.ix (.v 0) (.c (.int 0))) (.c (.str (W "lamp")))) [.gR (.nm 2) none [(.sl (.v 0) [(.c (.int 1))] [])] [.ex (.call pW [(.v 2),(.v 1)])]] [],.ret (.v 1)]⟩
noncomputable def pJ:Fn:=mO pW
noncomputable def yS:Fn:=nQ lJ
noncomputable def yD:Fn:=uZ pO lJ
noncomputable def BR:Fn:=A0 lJ
noncomputable def B2:Fn:=vB lJ
noncomputable def sY:Fn:=uH
noncomputable def uY:Fn:=CV nM uB BP
noncomputable def BF:Fn:=DC xX nM uB vK
noncomputable def VU:Fn:=LC BE SH B3
noncomputable def Nn:Nat->Option Fn
 |0=>some GZ
 |1=>some BC
 |2=>some pC
 |3=>some qU
 |4=>some BY
 |5=>some KC
 |6=>some B5
 |7=>some yE
 |8=>some xV
 |9=>some vH
 |10=>some D7
 |11=>some FY
 |12=>some yZ
 |13=>some AD
 |14=>some FT
 |15=>some FU
 |16=>some BX
 |17=>some zI
 |18=>some rW
 |19=>some xR
 |20=>some qS
 |21=>some lX
 |22=>some sS
 |23=>some nE
 |24=>some rZ
 |25=>some qH
 |26=>some nA
 |27=>some tP
 |28=>some xU
 |29=>some mX
 |30=>some mQ
 |31=>some vG
 |32=>some zO
 |33=>some PF
 |34=>some uR
 |35=>some zU
 |36=>some BZ
 |37=>some zW
 |38=>some xW
 |39=>some uN
 |40=>some BS
 |41=>some yC
 |42=>some pJ
 |43=>some yS
 |44=>some yD
 |45=>some BR
 |46=>some B2
 |47=>some sY
 |48=>some uY
 |49=>some BF
 |50=>some VU
 |_=>none
noncomputable def Mh:Nat->Nat->Bool
 |0,0=>true
 |1,1=>true
 |1,0=>true
 |2,2=>true
 |2,1=>true
 |2,0=>true
 |_,_=>false
noncomputable def G:Prog:=⟨Nn,Mh⟩
noncomputable abbrev bd (n:Nat):Stmt:=PySem.Challenge.pw_leastloss_k08_whole_game.main.body.getD n (.Pass ⟨0,0,0,0⟩)
noncomputable def dN:Nat->Stmt
 |0=>bd 10
 |1=>bd 11
 |2=>bd 12
 |3=>bd 13
 |4=>bd 14
 |5=>bd 22
 |6=>bd 23
 |7=>bd 24
 |8=>bd 25
 |9=>bd 26
 |10=>bd 27
 |11=>bd 28
 |12=>bd 29
 |13=>bd 30
 |14=>bd 31
 |15=>bd 32
 |16=>bd 34
 |17=>bd 35
 |18=>kD (bd 36) 0
 |19=>kD (bd 36) 1
 |20=>kD (bd 36) 2
 |21=>kD (bd 36) 3
 |22=>kD (bd 36) 4
 |23=>kD (bd 36) 5
 |24=>kD (bd 37) 0
 |25=>kD (bd 37) 1
 |26=>kD (bd 37) 2
 |27=>kD (bd 37) 3
 |28=>bd 39
 |29=>kD (bd 40) 0
 |30=>kD (bd 40) 1
 |31=>bd 41
 |32=>bd 42
 |33=>bd 43
 |34=>bd 45
 |35=>bd 46
 |36=>bd 47
 |37=>bd 48
 |38=>bd 49
 |39=>bd 50
 |40=>bd 51
 |41=>bd 52
 |42=>bd 53
 |43=>bd 54
 |44=>bd 55
 |45=>bd 56
 |46=>bd 57
 |47=>bd 58
 |48=>bd 59
 |49=>bd 60
 |50=>bd 61
 |_=>.Pass ⟨0,0,0,0⟩
def vM:Nat->Str
 |0 =>"is_name"
 |1 =>"is_saying"
 |2 =>"is_saying_within"
 |3 =>"sayings_within"
 |4 =>"pieces_in"
 |5 =>"is_row"
 |6 =>"are_lamps"
 |7 =>"are_sayings"
 |8 =>"stands_bare"
 |9 =>"are_promises"
 |10 =>"is_price"
 |11 =>"is_wish"
 |12 =>"are_wishes"
 |13 =>"sayings_of"
 |14 =>"is_book"
 |15 =>"checked"
 |16 =>"now_holds"
 |17 =>"past_holds"
 |18 =>"__init__"
 |19 =>"enter"
 |20 =>"place_of"
 |21 =>"remembered_row"
 |22 =>"held_at"
 |23 =>"memory_after"
 |24 =>"__init__"
 |25 =>"foe_keeps"
 |26 =>"friend_keeps"
 |27 =>"loss_at"
 |28 =>"settings_of"
 |29 =>"__init__"
 |30 =>"number_of"
 |31 =>"foe_settings"
 |32 =>"answers_to"
 |33 =>"game"
 |34 =>"_law_cell_at"
 |35 =>"_law_mixed"
 |36 =>"_law_next"
 |37 =>"_law_names"
 |38 =>"_law_saying"
 |39 =>"_law_promise"
 |40 =>"_law_book"
 |41 =>"_law_pieces"
 |42 =>"_law_book_pieces"
 |43 =>"_law_holds"
 |44 =>"_law_memory"
 |45 =>"_law_kept"
 |46 =>"_law_loss"
 |47 =>"_law_settings"
 |48 =>"_law_answers"
 |49 =>"_law_game"
 |50 =>"law"
 |_ =>""
def oB:Nat->Str
 |0 =>"is_name"
 |1 =>"is_saying"
 |2 =>"is_saying_within"
 |3 =>"sayings_within"
 |4 =>"pieces_in"
 |5 =>"is_row"
 |6 =>"are_lamps"
 |7 =>"are_sayings"
 |8 =>"stands_bare"
 |9 =>"are_promises"
 |10 =>"is_price"
 |11 =>"is_wish"
 |12 =>"are_wishes"
 |13 =>"sayings_of"
 |14 =>"is_book"
 |15 =>"checked"
 |16 =>"now_holds"
 |17 =>"past_holds"
 |18 =>"Table.__init__"
 |19 =>"Table.enter"
 |20 =>"Table.place_of"
 |21 =>"Table.remembered_row"
 |22 =>"Table.held_at"
 |23 =>"Table.memory_after"
 |24 =>"Rules.__init__"
 |25 =>"Rules.foe_keeps"
 |26 =>"Rules.friend_keeps"
 |27 =>"Rules.loss_at"
 |28 =>"settings_of"
 |29 =>"Numbering.__init__"
 |30 =>"Numbering.number_of"
 |31 =>"foe_settings"
 |32 =>"answers_to"
 |33 =>"game"
 |34 =>"_law_cell_at"
 |35 =>"_law_mixed"
 |36 =>"_law_next"
 |37 =>"_law_names"
 |38 =>"_law_saying"
 |39 =>"_law_promise"
 |40 =>"_law_book"
 |41 =>"_law_pieces"
 |42 =>"_law_book_pieces"
 |43 =>"_law_holds"
 |44 =>"_law_memory"
 |45 =>"_law_kept"
 |46 =>"_law_loss"
 |47 =>"_law_settings"
 |48 =>"_law_answers"
 |49 =>"_law_game"
 |50 =>"law"
 |_ =>""
def tN:Nat->At
 |0=>.top
 |1=>.top
 |2=>.top
 |3=>.top
 |4=>.top
 |5=>.top
 |6=>.top
 |7=>.top
 |8=>.top
 |9=>.top
 |10=>.top
 |11=>.top
 |12=>.top
 |13=>.top
 |14=>.top
 |15=>.top
 |16=>.top
 |17=>.top
 |18=>(.init (W "Table"))
 |19=>(.cB (W "Table"))
 |20=>(.cB (W "Table"))
 |21=>(.cB (W "Table"))
 |22=>(.cB (W "Table"))
 |23=>(.cB (W "Table"))
 |24=>(.init (W "Rules"))
 |25=>(.cB (W "Rules"))
 |26=>(.cB (W "Rules"))
 |27=>(.cB (W "Rules"))
 |28=>.top
 |29=>(.init (W "Numbering"))
 |30=>(.cB (W "Numbering"))
 |31=>.top
 |32=>.top
 |33=>.top
 |34=>.top
 |35=>.top
 |36=>.top
 |37=>.top
 |38=>.top
 |39=>.top
 |40=>.top
 |41=>.top
 |42=>.top
 |43=>.top
 |44=>.top
 |45=>.top
 |46=>.top
 |47=>.top
 |48=>.top
 |49=>.top
 |50=>.top
 |_=>.top
def nY:Nat->List Str
 |0=>["thing"]
 |1=>["names","thing"]
 |2=>["names","thing","deepest"]
 |3=>["saying"]
 |4=>["sayings"]
 |5=>["thing","fewest","most"]
 |6=>["foe","friend"]
 |7=>["names","things","most"]
 |8=>["names","saying"]
 |9=>["names","friend","things"]
 |10=>["thing"]
 |11=>["names","thing"]
 |12=>["names","things"]
 |13=>["promises","musts","wishes"]
 |14=>["thing"]
 |15=>["book"]
 |16=>["word","parts"]
 |17=>["word","remembered","parts"]
 |18=>["self","names","sayings"]
 |19=>["self","saying"]
 |20=>["self","saying"]
 |21=>["self","piece"]
 |22=>["self","memory","setting"]
 |23=>["self","held"]
 |24=>["self","book"]
 |25=>["self","held"]
 |26=>["self","held"]
 |27=>["self","held"]
 |28=>["lamps"]
 |29=>["self","first"]
 |30=>["self","thing"]
 |31=>["book","rules","memory"]
 |32=>["book","rules","numbering","memory","foe"]
 |33=>["book"]
 |34=>["_law_script","_law_k"]
 |35=>["_law_script","_law_k","_law_many"]
 |36=>["_law_script","_law_m","_law_many"]
 |37=>["_law_script","_law_m"]
 |38=>["_law_script","_law_m","_law_names_here","_law_deep","_law_left"]
 |39=>["_law_script","_law_m","_law_foe","_law_names_here","_law_left"]
 |40=>["_law_script","_law_at","_law_pieces_here","_law_musts"]
 |41=>["_law_saying_here","_law_found"]
 |42=>["_law_book_here"]
 |43=>["_law_names_here","_law_saying_here","_law_play","_law_turn"]
 |44=>["_law_book_here","_law_play"]
 |45=>["_law_names_here","_law_sayings","_law_play"]
 |46=>["_law_book_here","_law_play"]
 |47=>["_law_many"]
 |48=>["_law_book_here","_law_play","_law_foe"]
 |49=>["_law_book_here"]
 |50=>["_law_script"]
 |_=>[]
structure Zt (K:ab)(mg:Str->Option Value):Prop where
 b_isinstance:mg "isinstance" = none
 b_str:mg "str" = none
 b_len:mg "len" = none
 b_all:mg "all" = none
 b_tuple:mg "tuple" = none
 b_list:mg "list" = none
 b_reversed:mg "reversed" = none
 b_set:mg "set" = none
 b_any:mg "any" = none
 b_int:mg "int" = none
 b_bool:mg "bool" = none
 b_sum:mg "sum" = none
 b_range:mg "range" = none
 g_NO_NAMES:GC K mg "NO_NAMES" g_NO_NAMES
 g_LONGEST_NAME:GC K mg "LONGEST_NAME" g_LONGEST_NAME
 g_LETTERS:GC K mg "LETTERS" g_LETTERS
 g_DEEPEST:GC K mg "DEEPEST" g_DEEPEST
 g_SAYINGS_WITHIN:GC K mg "SAYINGS_WITHIN" g_SAYINGS_WITHIN
 g_PAST_WORDS:GC K mg "PAST_WORDS" g_PAST_WORDS
 g_MOST_LAMPS:GC K mg "MOST_LAMPS" g_MOST_LAMPS
 g_MOST_PROMISES:GC K mg "MOST_PROMISES" g_MOST_PROMISES
 g_HIGHEST_PRICE:GC K mg "HIGHEST_PRICE" g_HIGHEST_PRICE
 g_MOST_WISHES:GC K mg "MOST_WISHES" g_MOST_WISHES
 g_MOST_MUSTS:GC K mg "MOST_MUSTS" g_MOST_MUSTS
 g_MOST_PIECES:GC K mg "MOST_PIECES" g_MOST_PIECES
 c_Table:sL K (W "Table")
 c_Rules:sL K (W "Rules")
 c_Numbering:sL K (W "Numbering")
 a_Table_names:pE K (W "Table") (W "names")
 a_Table_pieces:pE K (W "Table") (W "pieces")
 a_Table_rows:pE K (W "Table") (W "rows")
 a_Table_row_of:pE K (W "Table") (W "row_of")
 a_Table_first_memory:pE K (W "Table") (W "first_memory")
 a_Table_remembered_rows:pE K (W "Table") (W "remembered_rows")
 a_Rules_table:pE K (W "Rules") (W "table")
 a_Rules_promise_rows:pE K (W "Rules") (W "promise_rows")
 a_Rules_must_rows:pE K (W "Rules") (W "must_rows")
 a_Rules_priced_rows:pE K (W "Rules") (W "priced_rows")
 a_Numbering_met:pE K (W "Numbering") (W "met")
 a_Numbering_numbers_met:pE K (W "Numbering") (W "numbers_met")
section
variable {P:br}{w:World}{K:ab}{mg:Str->Option Value}{base:Heap}
theorem YX {k:Nat}(T:CU K mg 51 vM oB nY dN tN)(IH:∀ i,i<51->fA P w K mg base iD (2*k) (T.a i) (T.fd i) (nY i) (fN K (aO G k) i)){X:Cx}(e1:X.prog=P)(e2:X.w=w)(e3:X.K=K)(e4:X.mg=mg)(e5:X.base=base)(hr:dS (2*k+1) X.A)(i:Nat)(h:w9 i 51=true)(ha:tN i=.top):uE X (aO G k) (vM i) i:=by
 subst e1 e2 e3 e4 e5
 have h:i<51:=Nat.ble_eq.mp h
 have q:=T.mg i h
 rw[ha]at q
 exact⟨2*k,T.a i,T.fd i,nY i,IH i h,hr.mono (by omega),q,(T.fn i h).kp,T.bi i h⟩
theorem XR {k:Nat}(T:CU K mg 51 vM oB nY dN tN)(IH:∀ i,i<51->fA P w K mg base iD (2*k) (T.a i) (T.fd i) (nY i) (fN K (aO G k) i)){X:Cx}(e1:X.prog=P)(e2:X.w=w)(e3:X.K=K)(e4:X.mg=mg)(e5:X.base=base)(hr:dS (2*k+1) X.A)(i:Nat)(c:List Nat)(h:w9 i 51=true)(ha:tN i=.cB c):vF X (aO G k) c (vM i) i:=by
 subst e1 e2 e3 e4 e5
 have h:i<51:=Nat.ble_eq.mp h
 have q:=T.mg i h
 rw[ha]at q
 obtain⟨C0,q1,q2,q3⟩:=q
 exact⟨2*k,T.a i,T.fd i,nY i,C0,IH i h,hr.mono (by omega),T.bi i h,q1,q2,q3⟩
theorem ZL {k:Nat}(T:CU K mg 51 vM oB nY dN tN)(IH:∀ i,i<51->fA P w K mg base iD (2*k) (T.a i) (T.fd i) (nY i) (fN K (aO G k) i)){X:Cx}(e1:X.prog=P)(e2:X.w=w)(e3:X.K=K)(e4:X.mg=mg)(e5:X.base=base)(hr:dS (2*k+1) X.A)(i:Nat)(c:List Nat)(h:w9 i 51=true)(ha:tN i=.init c){n:Str}(hn:n=⟨c.toArray⟩:=by kernel_rfl):J8 X (aO G k) c n i:=by
 subst e1 e2 e3 e4 e5
 have h:i<51:=Nat.ble_eq.mp h
 have q:=T.mg i h
 rw[ha]at q
 obtain⟨C0,q1,q2,q3⟩:=q
 exact⟨2*k,T.a i,T.fd i,nY i,C0,IH i h,hr,T.bi i h,q1,by rw[hn];exact q2,q3⟩
noncomputable abbrev TT (K:ab)(mg:Str->Option Value):=CU K mg 51 vM oB nY dN tN
noncomputable abbrev IT (P:br)(w:World)(base:Heap)(T:TT K mg)(k:Nat):Prop:=∀ i,i<51->fA P w K mg base iD (2*k) (T.a i) (T.fd i) (nY i) (fN K (aO G k) i)
noncomputable abbrev OT (P:br)(w:World)(base:Heap)(T:TT K mg)(k i:Nat):Prop:=fA P w K mg base iD (2*k+1+1) (T.a i) (T.fd i) (nY i) (fN K (aO G (k+1)) i)
theorem dF (i:Nat){k:Nat}{fn:Fn}{N:List Str}(T:TT K mg)(IH:IT P w base T k)(hi:w9 i 51=true)(S:vD N (nY i) (aR (dN i)))(hG:G.fns i=some fn)(hp:fn.np=(nY i).length)(hl:fn.nl=N.length)
 (hb:∀(bM:Value)(A:cg)(outer:List Env)(s:af)(H:Hp)(E:L2.XK)(hr:dS (2*k+1) (A.deeper (qi (oB i) (aR (dN i)) s.heap.objs.size (T.a i) bM)))(m:bY (aO G k) (aO G k))(u:(A.deeper (qi (oB i) (aR (dN i)) s.heap.objs.size (T.a i) bM)).units+180<Si)
 (c:∀ j,w9 j 51=true->tN j=.top->uE (nL iD P w K mg base N (oB i) (aR (dN i)) (T.a i) bM A outer s H E).yB (aO G k) (vM j) j)(cm:∀ j c,w9 j 51=true->tN j=.cB c->vF (nL iD P w K mg base N (oB i) (aR (dN i)) (T.a i) bM A outer s H E).yB (aO G k) c (vM j) j)(ck:∀ j c,w9 j 51=true->tN j=.init c->∀{n:Str}(hn:n=⟨c.toArray⟩:=by kernel_rfl),J8 (nL iD P w K mg base N (oB i) (aR (dN i)) (T.a i) bM A outer s H E).yB (aO G k) c n j)(nd:N.Nodup),
 BU (nL iD P w K mg base N (oB i) (aR (dN i)) (T.a i) bM A outer s H E).yB (aO G k) G.sub (jH (dN i)) fn.body):OT P w base T k i :=
 Fy (fn:=fn) (T.fn i (Nat.ble_eq.mp hi)) S hG hp hl fun bM A outer s H E hr=>hb bM A outer s H E hr (pG G (bb k)) (Ig hr) (YX (X:=(nL iD P w K mg base N (oB i) (aR (dN i)) (T.a i) bM A outer s H E).yB) T IH rfl rfl rfl rfl rfl hr) (XR (X:=(nL iD P w K mg base N (oB i) (aR (dN i)) (T.a i) bM A outer s H E).yB) T IH rfl rfl rfl rfl rfl hr) (@ZL P w K mg base k T IH (nL iD P w K mg base N (oB i) (aR (dN i)) (T.a i) bM A outer s H E).yB rfl rfl rfl rfl rfl hr) S.nd
theorem Mi {k:Nat}(T:TT K mg)(Z:Zt K mg)(IH:IT P w base T k):OT P w base T k 0 :=
 dF 0 (fn:=GZ) (N:=["thing"]) T IH rfl ⟨rfl,rfl,rfl,by decide +kernel,rfl,by decide +kernel,by decide +kernel⟩ rfl rfl rfl fun bM A outer s H E hr m u c cm ck nd=>by
 exact(cc (cV m (sW (yH m (pM (tp (GR (t:=.str) R6 Z.b_isinstance Z.b_str (jv 0)))) (sQ (cW (o:=.in_) u (jv 0) (jg Z.g_NO_NAMES))))) (cc (bR m jb)
 c0) c0)
 (cc (bR m (oC (Aa (o:=.le) (o':=.le) u ji (dD bW cU Z.b_len (ja (jv 0) an)) (jg Z.g_LONGEST_NAME)) (lU (dD (lB hr.hd) rG Z.b_all (ja (kS m (own:=["sign"]) (cn:=[]) (bG:=[]) (one:=true) (jE (on:=(aR (dN 0)).names) (N:=["thing"]) (by decide +kernel)) (iv (jv 0)) (fun _ _ _ _=>(b1 (gn (show(["sign"]:List Str).Nodup by decide +kernel)))) (fun _ _ _ _=>qn) (fun _ _ _ _=>(pP (o:=.in_) u (jv 0) (jg Z.g_LETTERS)))) an)))))
 c0))
theorem Oj {k:Nat}(T:TT K mg)(Z:Zt K mg)(IH:IT P w base T k):OT P w base T k 1 :=
 dF 1 (fn:=BC) (N:=["names","thing"]) T IH rfl ⟨rfl,rfl,rfl,by decide +kernel,rfl,by decide +kernel,by decide +kernel⟩ rfl rfl rfl fun bM A outer s H E hr m u c cm ck nd=>by
 exact(cc (bR m (bQ (c 2 rfl rfl) (ja (jv 0) (ja (jv 1) (ja (jg Z.g_DEEPEST) an)))))
 c0)
noncomputable abbrev N2:List Str:=["names","thing","deepest"]
theorem Nr {k:Nat}(T:TT K mg)(Z:Zt K mg)(IH:IT P w base T k):OT P w base T k 2 :=
 dF 2 (fn:=pC) (N:=N2) T IH rfl ⟨rfl,rfl,rfl,by decide +kernel,rfl,by decide +kernel,by decide +kernel⟩ rfl rfl rfl fun bM A outer s H E hr m u c cm ck nd=>by
 exact(cc (cV m (sW (yH m (cW (o:=.lt) u (bF 2) ji) (yH m (pM (tp (GR (t:=.tuple) dZ Z.b_isinstance Z.b_tuple (jv 1)))) (yH m (cW (o:=.lt) u (dD bW cU Z.b_len (ja (jv 1) an)) ji) (sQ (pM (tp (GR (t:=.str) R6 Z.b_isinstance Z.b_str (bB (jv 1) ji))))))))) (cc (bR m jb)
 c0) c0)
 (cc (cV m (cW (o:=.eq) u (bB (jv 1) ji) js) (cc (bR m (oC (pP (o:=.eq) u (dD bW cU Z.b_len (ja (jv 1) an)) ji) (oC (bQ (c 0 rfl rfl) (ja (bB (jv 1) ji) an)) (lU (pP (o:=.in_) u (bB (jv 1) ji) (bF 0))))))
 c0) c0)
 (cc (cV m (sW (yH m (cW (o:=.fX) u (bB (jv 1) ji) (jg Z.g_SAYINGS_WITHIN)) (sQ (cW (o:=.ne) u (dD bW cU Z.b_len (ja (jv 1) an)) (cO (op:=.add) ji (bB (jg Z.g_SAYINGS_WITHIN) (bB (jv 1) ji))))))) (cc (bR m jb)
 c0) c0)
 (cc (bR m (dD (lB hr.hd) rG Z.b_all (ja (kS m (own:=["part"]) (cn:=["names","deepest"]) (bG:=[0,2]) (one:=true) (jE (on:=(aR (dN 2)).names) (N:=N2) (by decide +kernel)) (iv (K3 (jv 1) (os ji) on)) (fun _ _ _ _=>(b1 (gn (show(["part","names","deepest"]:List Str).Nodup by decide +kernel)))) (fun _ _ _ _=>qn) (fun _ _ _ _=>(bQ ((c 2 rfl rfl).qI) (ja (bF 1) (ja (jv 0) (ja (cO (op:=.sub) (bF 2) ji) an)))))) an)))
 c0))))
theorem Ou {k:Nat}(T:TT K mg)(Z:Zt K mg)(IH:IT P w base T k):OT P w base T k 3 :=
 dF 3 (fn:=qU) (N:=["saying"]) T IH rfl ⟨rfl,rfl,rfl,by decide +kernel,rfl,by decide +kernel,by decide +kernel⟩ rfl rfl rfl fun bM A outer s H E hr m u c cm ck nd=>by
 exact(cc (cV m (cW (o:=.eq) u (bB (jv 0) ji) js) (cc (bR m (jt m an))
 c0) c0)
 (cc (bR m (K3 (jv 0) (os ji) on))
 c0))
theorem Mc {k:Nat}(T:TT K mg)(Z:Zt K mg)(IH:IT P w base T k):OT P w base T k 4 :=
 dF 4 (fn:=BY) (N:=["sayings","pieces","ahead","saying"]) T IH rfl ⟨rfl,rfl,rfl,by decide +kernel,rfl,by decide +kernel,by decide +kernel⟩ rfl rfl rfl fun bM A outer s H E hr m u c cm ck nd=>by
 exact(cc (sn (i:=1) m nd (jl an))
 (cc (sn (i:=2) m nd (Lq Z.b_list Z.b_reversed (ja (jv 0) an)))
 (cc (sw m (tp (jv 2)) (cc (sn (i:=3) m nd (Px (jv 2) ))
 (cc (cV m (sW (VX m (cW (o:=.in_) u (bB (jv 3) ji) (jg Z.g_PAST_WORDS)) (sQ (cW (o:=.fX) u (jv 3) (jv 1))))) (cc (sx m (lP (jv 1) (ja (jv 3) an)))
 c0) c0)
 (cc (sx m (Lg (jv 2) (ja (Lq Z.b_list Z.b_reversed (ja (bQ (c 3 rfl rfl) (ja (jv 3) an)) an)) an)))
 c0))))
 (cc (bR m (jv 1))
 c0))))
theorem Om {k:Nat}(T:TT K mg)(Z:Zt K mg)(IH:IT P w base T k):OT P w base T k 5 :=
 dF 5 (fn:=KC) (N:=["thing","fewest","most"]) T IH rfl ⟨rfl,rfl,rfl,by decide +kernel,rfl,by decide +kernel,by decide +kernel⟩ rfl rfl rfl fun bM A outer s H E hr m u c cm ck nd=>by
 exact(cc (bR m (oC (GR (t:=.tuple) dZ Z.b_isinstance Z.b_tuple (jv 0)) (lU (Aa (o:=.le) (o':=.le) u (jv 1) (dD bW cU Z.b_len (ja (jv 0) an)) (jv 2)))))
 c0)
noncomputable abbrev N6:List Str:=["foe","friend","names"]
theorem Mo {k:Nat}(T:TT K mg)(Z:Zt K mg)(IH:IT P w base T k):OT P w base T k 6 :=
 dF 6 (fn:=B5) (N:=N6) T IH rfl ⟨rfl,rfl,rfl,by decide +kernel,rfl,by decide +kernel,by decide +kernel⟩ rfl rfl rfl fun bM A outer s H E hr m u c cm ck nd=>by
 exact(cc (cV m (sW (yH m (pM (tp (bQ (c 5 rfl rfl) (ja (jv 0) (ja ji (ja (jg Z.g_MOST_LAMPS) an)))))) (sQ (pM (tp (bQ (c 5 rfl rfl) (ja (jv 1) (ja ji (ja (jg Z.g_MOST_LAMPS) an))))))))) (cc (bR m jb)
 c0) c0)
 (cc (sn (i:=2) m nd (cO (op:=.add) (jv 0) (jv 1)))
 (cc (bR m (oC (dD (lB hr.hd) rG Z.b_all (ja (kS m (own:=["name"]) (cn:=[]) (bG:=[]) (one:=true) (jE (on:=(aR (dN 6)).names) (N:=N6) (by decide +kernel)) (iv (jv 2)) (fun _ _ _ _=>(b1 (gn (show(["name"]:List Str).Nodup by decide +kernel)))) (fun _ _ _ _=>qn) (fun _ _ _ _=>(bQ ((c 0 rfl rfl).qI) (ja (jv 0) an)))) an)) (lU (pP (o:=.eq) u (Pd Z.b_len Z.b_set (ja (jv 2) an)) (dD bW cU Z.b_len (ja (jv 2) an))))))
 c0)))
noncomputable abbrev N7:List Str:=["names","things","most"]
theorem Ot {k:Nat}(T:TT K mg)(Z:Zt K mg)(IH:IT P w base T k):OT P w base T k 7 :=
 dF 7 (fn:=yE) (N:=N7) T IH rfl ⟨rfl,rfl,rfl,by decide +kernel,rfl,by decide +kernel,by decide +kernel⟩ rfl rfl rfl fun bM A outer s H E hr m u c cm ck nd=>by
 exact(cc (bR m (oC (bQ (c 5 rfl rfl) (ja (jv 1) (ja ji (ja (jv 2) an)))) (lU (dD (lB hr.hd) rG Z.b_all (ja (kS m (own:=["thing"]) (cn:=["names"]) (bG:=[0]) (one:=true) (jE (on:=(aR (dN 7)).names) (N:=N7) (by decide +kernel)) (iv (jv 1)) (fun _ _ _ _=>(b1 (gn (show(["thing","names"]:List Str).Nodup by decide +kernel)))) (fun _ _ _ _=>qn) (fun _ _ _ _=>(bQ ((c 1 rfl rfl).qI) (ja (bF 1) (ja (jv 0) an))))) an)))))
 c0)
theorem Ox {k:Nat}(T:TT K mg)(Z:Zt K mg)(IH:IT P w base T k):OT P w base T k 8 :=
 dF 8 (fn:=xV) (N:=["names","saying"]) T IH rfl ⟨rfl,rfl,rfl,by decide +kernel,rfl,by decide +kernel,by decide +kernel⟩ rfl rfl rfl fun bM A outer s H E hr m u c cm ck nd=>by
 exact(cc (cV m (cW (o:=.eq) u (bB (jv 1) ji) js) (cc (bR m jb)
 c0) c0)
 (cc (cV m (cW (o:=.eq) u (bB (jv 1) ji) js) (cc (bR m (pP (o:=.in_) u (bB (jv 1) ji) (bF 0)))
 c0) c0)
 (cc (bR m (dD (G4 hr.hd) SJ Z.b_any (ja (kS m (own:=["part"]) (cn:=["names"]) (bG:=[0]) (one:=true) (jE (on:=(aR (dN 8)).names) (N:=["names","saying"]) (by decide +kernel)) (iv (bQ (c 3 rfl rfl) (ja (jv 1) an))) (fun _ _ _ _=>(b1 (gn (show(["part","names"]:List Str).Nodup by decide +kernel)))) (fun _ _ _ _=>qn) (fun _ _ _ _=>(bQ ((c 8 rfl rfl).qI) (ja (bF 1) (ja (jv 0) an))))) an)))
 c0)))
noncomputable abbrev N9:List Str:=["names","friend","things"]
theorem Of {k:Nat}(T:TT K mg)(Z:Zt K mg)(IH:IT P w base T k):OT P w base T k 9 :=
 dF 9 (fn:=vH) (N:=N9) T IH rfl ⟨rfl,rfl,rfl,by decide +kernel,rfl,by decide +kernel,by decide +kernel⟩ rfl rfl rfl fun bM A outer s H E hr m u c cm ck nd=>by
 exact(cc (bR m (oC (bQ (c 7 rfl rfl) (ja (jv 0) (ja (jv 2) (ja (jg Z.g_MOST_PROMISES) an)))) (lU (M6 (dD (G4 hr.hd) SJ Z.b_any (ja (kS m (own:=["thing"]) (cn:=["friend"]) (bG:=[1]) (one:=true) (jE (on:=(aR (dN 9)).names) (N:=N9) (by decide +kernel)) (iv (jv 2)) (fun _ _ _ _=>(b1 (gn (show(["thing","friend"]:List Str).Nodup by decide +kernel)))) (fun _ _ _ _=>qn) (fun _ _ _ _=>(bQ ((c 8 rfl rfl).qI) (ja (bF 1) (ja (jv 0) an))))) an))))))
 c0)
theorem Im {k:Nat}(T:TT K mg)(Z:Zt K mg)(IH:IT P w base T k):OT P w base T k 10 :=
 dF 10 (fn:=D7) (N:=["thing"]) T IH rfl ⟨rfl,rfl,rfl,by decide +kernel,rfl,by decide +kernel,by decide +kernel⟩ rfl rfl rfl fun bM A outer s H E hr m u c cm ck nd=>by
 exact(cc (bR m (oC (GR (t:=.int) Ee Z.b_isinstance Z.b_int (jv 0)) (oC (M6 (GR (t:=.bool) W3 Z.b_isinstance Z.b_bool (jv 0))) (lU (Aa (o:=.le) (o':=.le) u ji (jv 0) (jg Z.g_HIGHEST_PRICE))))))
 c0)
theorem Ka {k:Nat}(T:TT K mg)(Z:Zt K mg)(IH:IT P w base T k):OT P w base T k 11 :=
 dF 11 (fn:=FY) (N:=["names","thing"]) T IH rfl ⟨rfl,rfl,rfl,by decide +kernel,rfl,by decide +kernel,by decide +kernel⟩ rfl rfl rfl fun bM A outer s H E hr m u c cm ck nd=>by
 exact(cc (bR m (oC (bQ (c 5 rfl rfl) (ja (jv 1) (ja ji (ja ji an)))) (oC (bQ (c 10 rfl rfl) (ja (bB (jv 1) ji) an)) (lU (bQ (c 1 rfl rfl) (ja (jv 0) (ja (bB (jv 1) ji) an)))))))
 c0)
theorem Ih {k:Nat}(T:TT K mg)(Z:Zt K mg)(IH:IT P w base T k):OT P w base T k 12 :=
 dF 12 (fn:=yZ) (N:=["names","things"]) T IH rfl ⟨rfl,rfl,rfl,by decide +kernel,rfl,by decide +kernel,by decide +kernel⟩ rfl rfl rfl fun bM A outer s H E hr m u c cm ck nd=>by
 exact(cc (bR m (oC (bQ (c 5 rfl rfl) (ja (jv 1) (ja ji (ja (jg Z.g_MOST_WISHES) an)))) (lU (dD (lB hr.hd) rG Z.b_all (ja (kS m (own:=["thing"]) (cn:=["names"]) (bG:=[0]) (one:=true) (jE (on:=(aR (dN 12)).names) (N:=["names","things"]) (by decide +kernel)) (iv (jv 1)) (fun _ _ _ _=>(b1 (gn (show(["thing","names"]:List Str).Nodup by decide +kernel)))) (fun _ _ _ _=>qn) (fun _ _ _ _=>(bQ ((c 11 rfl rfl).qI) (ja (bF 1) (ja (jv 0) an))))) an)))))
 c0)
noncomputable abbrev Lr:List Str:=["promises","musts","wishes"]
theorem Hl {k:Nat}(T:TT K mg)(Z:Zt K mg)(IH:IT P w base T k):OT P w base T k 13 :=
 dF 13 (fn:=AD) (N:=Lr) T IH rfl ⟨rfl,rfl,rfl,by decide +kernel,rfl,by decide +kernel,by decide +kernel⟩ rfl rfl rfl fun bM A outer s H E hr m u c cm ck nd=>by
 exact(cc (bR m (cO (op:=.add) (cO (op:=.add) (mG D0 A3 Z.b_list (ja (jv 0) an)) (mG D0 A3 Z.b_list (ja (jv 1) an))) (kS m (own:=["wish"]) (cn:=[]) (bG:=[]) (one:=true) (jE (on:=(aR (dN 13)).names) (N:=Lr) (by decide +kernel)) (iv (jv 2)) (fun _ _ _ _=>(b1 (gn (show(["wish"]:List Str).Nodup by decide +kernel)))) (fun _ _ _ _=>qn) (fun _ _ _ _=>(bB (jv 0) ji)))))
 c0)
theorem Js {k:Nat}(T:TT K mg)(Z:Zt K mg)(IH:IT P w base T k):OT P w base T k 14 :=
 dF 14 (fn:=FT) (N:=["thing","friend","names","promises","musts","wishes"]) T IH rfl ⟨rfl,rfl,rfl,by decide +kernel,rfl,by decide +kernel,by decide +kernel⟩ rfl rfl rfl fun bM A outer s H E hr m u c cm ck nd=>by
 exact(cc (cV m (sW (yH m (pM (tp (bQ (c 5 rfl rfl) (ja (jv 0) (ja ji (ja ji an)))))) (sQ (pM (tp (bQ (c 6 rfl rfl) (ja (bB (jv 0) ji) (ja (bB (jv 0) ji) an)))))))) (cc (bR m jb)
 c0) c0)
 (cc (sn (i:=1) m nd (bB (jv 0) ji))
 (cc (sn (i:=2) m nd (cO (op:=.add) (bB (jv 0) ji) (jv 1)))
 (cc (sn (i:=3) m nd (bB (jv 0) ji))
 (cc (sn (i:=4) m nd (bB (jv 0) ji))
 (cc (sn (i:=5) m nd (bB (jv 0) ji))
 (cc (cV m (sW (yH m (pM (tp (bQ (c 9 rfl rfl) (ja (jv 2) (ja (jv 1) (ja (jv 3) an)))))) (sQ (pM (tp (bQ (c 7 rfl rfl) (ja (jv 2) (ja (jv 4) (ja (jg Z.g_MOST_MUSTS) an))))))))) (cc (bR m jb)
 c0) c0)
 (cc (bR m (oC (bQ (c 12 rfl rfl) (ja (jv 2) (ja (jv 5) an))) (lU (pP (o:=.le) u (dD bW cU Z.b_len (ja (bQ (c 4 rfl rfl) (ja (bQ (c 13 rfl rfl) (ja (jv 3) (ja (jv 4) (ja (jv 5) an)))) an)) an)) (jg Z.g_MOST_PIECES)))))
 c0))))))))
theorem Ij {k:Nat}(T:TT K mg)(Z:Zt K mg)(IH:IT P w base T k):OT P w base T k 15 :=
 dF 15 (fn:=FU) (N:=["book"]) T IH rfl ⟨rfl,rfl,rfl,by decide +kernel,rfl,by decide +kernel,by decide +kernel⟩ rfl rfl rfl fun bM A outer s H E hr m u c cm ck nd=>by
 exact(cc (cV m (pM (tp (bQ (c 14 rfl rfl) (ja (jv 0) an)))) (cc (Py m)
 c0) c0)
 (cc (bR m (jv 0))
 c0))
theorem Jw {k:Nat}(T:TT K mg)(Z:Zt K mg)(IH:IT P w base T k):OT P w base T k 16 :=
 dF 16 (fn:=BX) (N:=["word","parts"]) T IH rfl ⟨rfl,rfl,rfl,by decide +kernel,rfl,by decide +kernel,by decide +kernel⟩ rfl rfl rfl fun bM A outer s H E hr m u c cm ck nd=>by
 exact(cc (cV m (cW (o:=.eq) u (jv 0) js) (cc (bR m (M6 (bB (jv 1) ji)))
 c0) c0)
 (cc (cV m (cW (o:=.eq) u (jv 0) js) (cc (bR m (oC (bB (jv 1) ji) (lU (bB (jv 1) ji))))
 c0) c0)
 (cc (cV m (cW (o:=.eq) u (jv 0) js) (cc (bR m (MS (bB (jv 1) ji) (lU (bB (jv 1) ji))))
 c0) c0)
 (cc (cV m (cW (o:=.eq) u (jv 0) js) (cc (bR m (MS (bB (jv 1) ji) (lU (M6 (bB (jv 1) ji)))))
 c0) c0)
 (cc (cV m (cW (o:=.eq) u (jv 0) js) (cc (bR m (pP (o:=.eq) u (bB (jv 1) ji) (bB (jv 1) ji)))
 c0) c0)
 (cc (bR m (pP (o:=.eq) u (jv 0) js))
 c0))))))
theorem Hh {k:Nat}(T:TT K mg)(Z:Zt K mg)(IH:IT P w base T k):OT P w base T k 17 :=
 dF 17 (fn:=zI) (N:=["word","remembered","parts"]) T IH rfl ⟨rfl,rfl,rfl,by decide +kernel,rfl,by decide +kernel,by decide +kernel⟩ rfl rfl rfl fun bM A outer s H E hr m u c cm ck nd=>by
 exact(cc (cV m (cW (o:=.eq) u (jv 0) js) (cc (bR m (jv 1))
 c0) c0)
 (cc (cV m (cW (o:=.eq) u (jv 0) js) (cc (bR m (MS (jv 1) (lU (bB (jv 2) ji))))
 c0) c0)
 (cc (cV m (cW (o:=.eq) u (jv 0) js) (cc (bR m (oC (jv 1) (lU (bB (jv 2) ji))))
 c0) c0)
 (cc (bR m (MS (bB (jv 2) ji) (lU (oC (jv 1) (lU (bB (jv 2) ji))))))
 c0))))
noncomputable abbrev Aq:List Str:=["self","names","sayings","saying"]
theorem Hd {k:Nat}(T:TT K mg)(Z:Zt K mg)(IH:IT P w base T k):OT P w base T k 18 :=
 dF 18 (fn:=rW) (N:=Aq) T IH rfl ⟨rfl,rfl,rfl,by decide +kernel,rfl,by decide +kernel,by decide +kernel⟩ rfl rfl rfl fun bM A outer s H E hr m u c cm ck nd=>by
 exact(cc (yG m (W "Table") Z.c_Table Z.a_Table_names (bF 0) (jv 1))
 (cc (yG m (W "Table") Z.c_Table Z.a_Table_pieces (bF 0) (bQ (c 4 rfl rfl) (ja (jv 2) an)))
 (cc (yG m (W "Table") Z.c_Table Z.a_Table_rows (bF 0) (jl an))
 (cc (yG m (W "Table") Z.c_Table Z.a_Table_row_of (bF 0) Oz)
 (cc (sC (i:=3) m nd (iv (jv 2)) (cc (sx m (yY (mm:=W "enter") (cm 19 (W "Table") rfl rfl) (bF 0) (ja (jv 3) an)))
 c0))
 (cc (yG m (W "Table") Z.c_Table Z.a_Table_first_memory (bF 0) (mG dI dZ Z.b_tuple (ja (kS m (own:=["piece"]) (cn:=[]) (bG:=[]) (one:=true) (jE (on:=(aR (dN 18)).names) (N:=Aq) (by decide +kernel)) (iv (gJ (W "Table") Z.c_Table Z.a_Table_pieces (bF 0))) (fun _ _ _ _=>(b1 (gn (show(["piece"]:List Str).Nodup by decide +kernel)))) (fun _ _ _ _=>qn) (fun _ _ _ _=>(pP (o:=.eq) u (bB (jv 0) ji) js))) an)))
 (cc (yG m (W "Table") Z.c_Table Z.a_Table_remembered_rows (bF 0) (kS m (own:=["piece"]) (cn:=["self"]) (bG:=[0]) (one:=true) (jE (on:=(aR (dN 18)).names) (N:=Aq) (by decide +kernel)) (iv (gJ (W "Table") Z.c_Table Z.a_Table_pieces (bF 0))) (fun _ _ _ _=>(b1 (gn (show(["piece", "self"]:List Str).Nodup by decide +kernel)))) (fun _ _ _ _=>qn) (fun _ _ _ _=>(yY (mm:=W "remembered_row") ((cm 21 (W "Table") rfl rfl).qI) (bF 1) (ja (jv 0) an)))))
 c0)))))))
noncomputable abbrev Lc:List Str:=["self","saying","part","parts"]
theorem Ji {k:Nat}(T:TT K mg)(Z:Zt K mg)(IH:IT P w base T k):OT P w base T k 19 :=
 dF 19 (fn:=xR) (N:=Lc) T IH rfl ⟨rfl,rfl,rfl,by decide +kernel,rfl,by decide +kernel,by decide +kernel⟩ rfl rfl rfl fun bM A outer s H E hr m u c cm ck nd=>by
 exact(cc (cV m (Pn u (jv 1) (gJ (W "Table") Z.c_Table Z.a_Table_row_of (bF 0))) (cc Pj
 c0) c0)
 (cc (sC (i:=2) m nd (iv (bQ (c 3 rfl rfl) (ja (jv 1) an))) (cc (sx m (yY (mm:=W "enter") (cm 19 (W "Table") rfl rfl) (bF 0) (ja (jv 2) an)))
 c0))
 (cc (VW (i:=3) m nd (own:=["part"]) (cn:=["self"]) (bG:=[0]) (one:=true) (jE (on:=(aR (dN 19)).names) (N:=Lc) (by decide +kernel)) (iv (bQ (c 3 rfl rfl) (ja (jv 1) an))) (fun _ _ _ _=>(b1 (gn (show(["part","self"]:List Str).Nodup by decide +kernel)))) (fun _ _ _ _=>qn) (fun _ _ _ _=>(JD u (gJ (W "Table") Z.c_Table Z.a_Table_row_of (bF 1)) (jv 0))))
 (cc (Lm m u (gJ (W "Table") Z.c_Table Z.a_Table_row_of (bF 0)) (jv 1) (dD bW cU Z.b_len (ja (gJ (W "Table") Z.c_Table Z.a_Table_rows (bF 0)) an)))
 (cc (sx m (lP (gJ (W "Table") Z.c_Table Z.a_Table_rows (bF 0)) (ja (jt m (ja (bB (jv 1) ji) (ja (yY (mm:=W "place_of") (cm 20 (W "Table") rfl rfl) (bF 0) (ja (jv 1) an)) (ja (jv 3) an)))) an)))
 c0)))))
theorem Hm {k:Nat}(T:TT K mg)(Z:Zt K mg)(IH:IT P w base T k):OT P w base T k 20 :=
 dF 20 (fn:=qS) (N:=["self","saying"]) T IH rfl ⟨rfl,rfl,rfl,by decide +kernel,rfl,by decide +kernel,by decide +kernel⟩ rfl rfl rfl fun bM A outer s H E hr m u c cm ck nd=>by
 exact(cc (cV m (cW (o:=.eq) u (bB (jv 1) ji) js) (cc (bR m (OY m u (gJ (W "Table") Z.c_Table Z.a_Table_names (jv 0)) (ja (bB (jv 1) ji) an)))
 c0) c0)
 (cc (cV m (cW (o:=.in_) u (bB (jv 1) ji) (jg Z.g_PAST_WORDS)) (cc (bR m (OY m u (gJ (W "Table") Z.c_Table Z.a_Table_pieces (jv 0)) (ja (jv 1) an)))
 c0) c0)
 (cc (bR m jn)
 c0)))
theorem Jf {k:Nat}(T:TT K mg)(Z:Zt K mg)(IH:IT P w base T k):OT P w base T k 21 :=
 dF 21 (fn:=lX) (N:=["self","piece"]) T IH rfl ⟨rfl,rfl,rfl,by decide +kernel,rfl,by decide +kernel,by decide +kernel⟩ rfl rfl rfl fun bM A outer s H E hr m u c cm ck nd=>by
 exact(cc (cV m (cW (o:=.eq) u (bB (jv 1) ji) js) (cc (bR m (JD u (gJ (W "Table") Z.c_Table Z.a_Table_row_of (jv 0)) (bB (jv 1) ji)))
 c0) c0)
 (cc (bR m (JD u (gJ (W "Table") Z.c_Table Z.a_Table_row_of (jv 0)) (jv 1)))
 c0))
noncomputable abbrev Ll:List Str:=["self","memory","setting","held","word","place","part_rows","parts"]
theorem Kz {k:Nat}(T:TT K mg)(Z:Zt K mg)(IH:IT P w base T k):OT P w base T k 22 :=
 dF 22 (fn:=sS) (N:=Ll) T IH rfl ⟨rfl,rfl,rfl,by decide +kernel,rfl,by decide +kernel,by decide +kernel⟩ rfl rfl rfl fun bM A outer s H E hr m u c cm ck nd=>by
 exact(cc (MR (i:=3) m nd (jl an))
 (cc (sf m (iv (gJ (W "Table") Z.c_Table Z.a_Table_rows (jv 0))) (gt (gc (gn (i:=4) nd) (gc (gn (i:=5) nd) (gc (gn (i:=6) nd) nn)))) (cc (VW (i:=7) m nd (own:=["row"]) (cn:=["held"]) (bG:=[3]) (one:=true) (jE (on:=(aR (dN 22)).names) (N:=Ll) (by decide +kernel)) (iv (jv 6)) (fun _ _ _ _=>(b1 (gn (show(["row","held"]:List Str).Nodup by decide +kernel)))) (fun _ _ _ _=>qn) (fun _ _ _ _=>(bB (bF 1) (jv 0))))
 (cc (cV m (cW (o:=.eq) u (jv 4) js) (cc (sx m (lP (bF 3) (ja (bB (jv 2) (jv 5)) an)))
 c0) (cc (cV m (cW (o:=.in_) u (jv 4) (jg Z.g_PAST_WORDS)) (cc (sx m (lP (bF 3) (ja (bQ (c 17 rfl rfl) (ja (jv 4) (ja (bB (jv 1) (jv 5)) (ja (jv 7) an)))) an)))
 c0) (cc (sx m (lP (bF 3) (ja (bQ (c 16 rfl rfl) (ja (jv 4) (ja (jv 7) an))) an)))
 c0))
 c0))
 c0)))
 (cc (bR m (bF 3))
 c0)))
theorem Kj {k:Nat}(T:TT K mg)(Z:Zt K mg)(IH:IT P w base T k):OT P w base T k 23 :=
 dF 23 (fn:=nE) (N:=["self","held"]) T IH rfl ⟨rfl,rfl,rfl,by decide +kernel,rfl,by decide +kernel,by decide +kernel⟩ rfl rfl rfl fun bM A outer s H E hr m u c cm ck nd=>by
 exact(cc (bR m (mG dI dZ Z.b_tuple (ja (kS m (own:=["row"]) (cn:=["held"]) (bG:=[1]) (one:=true) (jE (on:=(aR (dN 23)).names) (N:=["self", "held"]) (by decide +kernel)) (iv (gJ (W "Table") Z.c_Table Z.a_Table_remembered_rows (jv 0))) (fun _ _ _ _=>(b1 (gn (show(["row","held"]:List Str).Nodup by decide +kernel)))) (fun _ _ _ _=>qn) (fun _ _ _ _=>(bB (bF 1) (jv 0)))) an)))
 c0)
theorem Gn {k:Nat}(T:TT K mg)(Z:Zt K mg)(IH:IT P w base T k):OT P w base T k 24 :=
 dF 24 (fn:=rZ) (N:=["self","book"]) T IH rfl ⟨rfl,rfl,rfl,by decide +kernel,rfl,by decide +kernel,by decide +kernel⟩ rfl rfl rfl fun bM A outer s H E hr m u c cm ck nd=>by
 exact(cc (yG m (W "Rules") Z.c_Rules Z.a_Rules_table (bF 0) (Dg (ck 18 (W "Table") rfl rfl) (ja (cO (op:=.add) (bB (jv 1) ji) (bB (jv 1) ji)) (ja (bQ (c 13 rfl rfl) (ja (bB (jv 1) ji) (ja (bB (jv 1) ji) (ja (bB (jv 1) ji) an)))) an))))
 (cc (yG m (W "Rules") Z.c_Rules Z.a_Rules_promise_rows (bF 0) (kS m (own:=["saying"]) (cn:=["self"]) (bG:=[0]) (one:=true) (jE (on:=(aR (dN 24)).names) (N:=["self", "book"]) (by decide +kernel)) (iv (bB (jv 1) ji)) (fun _ _ _ _=>(b1 (gn (show(["saying", "self"]:List Str).Nodup by decide +kernel)))) (fun _ _ _ _=>qn) (fun _ _ _ _=>(JD u (gJ (W "Table") Z.c_Table Z.a_Table_row_of (gJ (W "Rules") Z.c_Rules Z.a_Rules_table (bF 1))) (jv 0)))))
 (cc (yG m (W "Rules") Z.c_Rules Z.a_Rules_must_rows (bF 0) (kS m (own:=["saying"]) (cn:=["self"]) (bG:=[0]) (one:=true) (jE (on:=(aR (dN 24)).names) (N:=["self", "book"]) (by decide +kernel)) (iv (bB (jv 1) ji)) (fun _ _ _ _=>(b1 (gn (show(["saying", "self"]:List Str).Nodup by decide +kernel)))) (fun _ _ _ _=>qn) (fun _ _ _ _=>(JD u (gJ (W "Table") Z.c_Table Z.a_Table_row_of (gJ (W "Rules") Z.c_Rules Z.a_Rules_table (bF 1))) (jv 0)))))
 (cc (yG m (W "Rules") Z.c_Rules Z.a_Rules_priced_rows (bF 0) (kS m (own:=["wish"]) (cn:=["self"]) (bG:=[0]) (one:=true) (jE (on:=(aR (dN 24)).names) (N:=["self", "book"]) (by decide +kernel)) (iv (bB (jv 1) ji)) (fun _ _ _ _=>(b1 (gn (show(["wish", "self"]:List Str).Nodup by decide +kernel)))) (fun _ _ _ _=>qn) (fun _ _ _ _=>(jt m (ja (bB (jv 0) ji) (ja (JD u (gJ (W "Table") Z.c_Table Z.a_Table_row_of (gJ (W "Rules") Z.c_Rules Z.a_Rules_table (bF 1))) (bB (jv 0) ji)) an))))))
 c0))))
theorem Kl {k:Nat}(T:TT K mg)(Z:Zt K mg)(IH:IT P w base T k):OT P w base T k 25 :=
 dF 25 (fn:=qH) (N:=["self","held"]) T IH rfl ⟨rfl,rfl,rfl,by decide +kernel,rfl,by decide +kernel,by decide +kernel⟩ rfl rfl rfl fun bM A outer s H E hr m u c cm ck nd=>by
 exact(cc (bR m (dD (lB hr.hd) rG Z.b_all (ja (kS m (own:=["row"]) (cn:=["held"]) (bG:=[1]) (one:=true) (jE (on:=(aR (dN 25)).names) (N:=["self", "held"]) (by decide +kernel)) (iv (gJ (W "Rules") Z.c_Rules Z.a_Rules_promise_rows (jv 0))) (fun _ _ _ _=>(b1 (gn (show(["row","held"]:List Str).Nodup by decide +kernel)))) (fun _ _ _ _=>qn) (fun _ _ _ _=>(bB (bF 1) (jv 0)))) an)))
 c0)
theorem Ht {k:Nat}(T:TT K mg)(Z:Zt K mg)(IH:IT P w base T k):OT P w base T k 26 :=
 dF 26 (fn:=nA) (N:=["self","held"]) T IH rfl ⟨rfl,rfl,rfl,by decide +kernel,rfl,by decide +kernel,by decide +kernel⟩ rfl rfl rfl fun bM A outer s H E hr m u c cm ck nd=>by
 exact(cc (bR m (dD (lB hr.hd) rG Z.b_all (ja (kS m (own:=["row"]) (cn:=["held"]) (bG:=[1]) (one:=true) (jE (on:=(aR (dN 26)).names) (N:=["self", "held"]) (by decide +kernel)) (iv (gJ (W "Rules") Z.c_Rules Z.a_Rules_must_rows (jv 0))) (fun _ _ _ _=>(b1 (gn (show(["row","held"]:List Str).Nodup by decide +kernel)))) (fun _ _ _ _=>qn) (fun _ _ _ _=>(bB (bF 1) (jv 0)))) an)))
 c0)
theorem Hg {k:Nat}(T:TT K mg)(Z:Zt K mg)(IH:IT P w base T k):OT P w base T k 27 :=
 dF 27 (fn:=tP) (N:=["self","held"]) T IH rfl ⟨rfl,rfl,rfl,by decide +kernel,rfl,by decide +kernel,by decide +kernel⟩ rfl rfl rfl fun bM A outer s H E hr m u c cm ck nd=>by
 exact(cc (bR m (dD (HE hr.hd) R4 Z.b_sum (ja (kS m (own:=["price", "row"]) (cn:=["held"]) (bG:=[1]) (one:=false) (jE (on:=(aR (dN 27)).names) (N:=["self", "held"]) (by decide +kernel)) (iv (gJ (W "Rules") Z.c_Rules Z.a_Rules_priced_rows (jv 0))) (fun _ _ _ _=>(bt (gc (gn (i:=0) (show(["price","row","held"]:List Str).Nodup by decide +kernel)) (gc (gn (i:=1) (show(["price","row","held"]:List Str).Nodup by decide +kernel)) nn)))) (fun _ _ _ _=>(qc (pM (tp (bB (bF 2) (jv 1)))) qn)) (fun _ _ _ _=>(jv 0))) an)))
 c0)
theorem Iz {k:Nat}(T:TT K mg)(Z:Zt K mg)(IH:IT P w base T k):OT P w base T k 28 :=
 dF 28 (fn:=xU) (N:=["lamps","settings","place","longer","setting"]) T IH rfl ⟨rfl,rfl,rfl,by decide +kernel,rfl,by decide +kernel,by decide +kernel⟩ rfl rfl rfl fun bM A outer s H E hr m u c cm ck nd=>by
 exact(cc (sn (i:=1) m nd (jl (ja (jt m an) an)))
 (cc (sC (i:=2) m nd (IF m Z.b_range (ja (dD bW cU Z.b_len (ja (jv 0) an)) an)) (cc (sn (i:=3) m nd (jl an))
 (cc (sC (i:=4) m nd (iv (jv 1)) (cc (sx m (lP (jv 3) (ja (cO (op:=.add) (jv 4) (jt m (ja jb an))) an)))
 (cc (sx m (lP (jv 3) (ja (cO (op:=.add) (jv 4) (jt m (ja jb an))) an)))
 c0)))
 (cc (sn (i:=1) m nd (jv 3))
 c0))))
 (cc (bR m (jv 1))
 c0)))
theorem Gd {k:Nat}(T:TT K mg)(Z:Zt K mg)(IH:IT P w base T k):OT P w base T k 29 :=
 dF 29 (fn:=mX) (N:=["self","first"]) T IH rfl ⟨rfl,rfl,rfl,by decide +kernel,rfl,by decide +kernel,by decide +kernel⟩ rfl rfl rfl fun bM A outer s H E hr m u c cm ck nd=>by
 exact(cc (yG m (W "Numbering") Z.c_Numbering Z.a_Numbering_met (jv 0) (jl (ja (jv 1) an)))
 (cc (yG m (W "Numbering") Z.c_Numbering Z.a_Numbering_numbers_met (jv 0) (Pe u (jv 1) ji))
 c0))
theorem Jm {k:Nat}(T:TT K mg)(Z:Zt K mg)(IH:IT P w base T k):OT P w base T k 30 :=
 dF 30 (fn:=mQ) (N:=["self","thing"]) T IH rfl ⟨rfl,rfl,rfl,by decide +kernel,rfl,by decide +kernel,by decide +kernel⟩ rfl rfl rfl fun bM A outer s H E hr m u c cm ck nd=>by
 exact(cc (cV m (Pl u (jv 1) (gJ (W "Numbering") Z.c_Numbering Z.a_Numbering_numbers_met (jv 0))) (cc (Lm m u (gJ (W "Numbering") Z.c_Numbering Z.a_Numbering_numbers_met (jv 0)) (jv 1) (dD bW cU Z.b_len (ja (gJ (W "Numbering") Z.c_Numbering Z.a_Numbering_met (jv 0)) an)))
 (cc (sx m (lP (gJ (W "Numbering") Z.c_Numbering Z.a_Numbering_met (jv 0)) (ja (jv 1) an)))
 c0)) c0)
 (cc (bR m (JD u (gJ (W "Numbering") Z.c_Numbering Z.a_Numbering_numbers_met (jv 0)) (jv 1)))
 c0))
noncomputable abbrev Lu:List Str:=["book","rules","memory","friend"]
theorem Jn {k:Nat}(T:TT K mg)(Z:Zt K mg)(IH:IT P w base T k):OT P w base T k 31 :=
 dF 31 (fn:=vG) (N:=Lu) T IH rfl ⟨rfl,rfl,rfl,by decide +kernel,rfl,by decide +kernel,by decide +kernel⟩ rfl rfl rfl fun bM A outer s H E hr m u c cm ck nd=>by
 exact(cc (MR (i:=3) m nd (bB (bQ (c 28 rfl rfl) (ja (bB (jv 0) ji) an)) ji))
 (cc (bR m (kS m (own:=["foe"]) (cn:=["rules","memory","friend"]) (bG:=[1,2,3]) (one:=true) (jE (on:=(aR (dN 31)).names) (N:=Lu) (by decide +kernel)) (iv (bQ (c 28 rfl rfl) (ja (bB (jv 0) ji) an))) (fun _ _ _ _=>(b1 (gn (show(["foe","rules","memory","friend"]:List Str).Nodup by decide +kernel)))) (fun _ _ _ _=>(qc (tp (yY (mm:=W "foe_keeps") ((cm 25 (W "Rules") rfl rfl).qI) (bF 1) (ja (yY (mm:=W "held_at") ((cm 22 (W "Table") rfl rfl).qI) (gJ (W "Rules") Z.c_Rules Z.a_Rules_table (bF 1)) (ja (bF 2) (ja (cO (op:=.add) (jv 0) (bF 3)) an))) an))) qn)) (fun _ _ _ _=>(jv 0))))
 c0))
theorem Gb {k:Nat}(T:TT K mg)(Z:Zt K mg)(IH:IT P w base T k):OT P w base T k 32 :=
 dF 32 (fn:=zO) (N:=["book","rules","numbering","memory","foe","answers","friend","held","node"]) T IH rfl ⟨rfl,rfl,rfl,by decide +kernel,rfl,by decide +kernel,by decide +kernel⟩ rfl rfl rfl fun bM A outer s H E hr m u c cm ck nd=>by
 exact(cc (sn (i:=5) m nd (jl an))
 (cc (sC (i:=6) m nd (iv (bQ (c 28 rfl rfl) (ja (bB (jv 0) ji) an))) (cc (sn (i:=7) m nd (yY (mm:=W "held_at") (cm 22 (W "Table") rfl rfl) (gJ (W "Rules") Z.c_Rules Z.a_Rules_table (jv 1)) (ja (jv 3) (ja (cO (op:=.add) (jv 4) (jv 6)) an))))
 (cc (cV m (tp (yY (mm:=W "friend_keeps") (cm 26 (W "Rules") rfl rfl) (jv 1) (ja (jv 7) an))) (cc (sn (i:=8) m nd (yY (mm:=W "number_of") (cm 30 (W "Numbering") rfl rfl) (jv 2) (ja (yY (mm:=W "memory_after") (cm 23 (W "Table") rfl rfl) (gJ (W "Rules") Z.c_Rules Z.a_Rules_table (jv 1)) (ja (jv 7) an)) an)))
 (cc (sx m (lP (jv 5) (ja (jt m (ja (jv 6) (ja (yY (mm:=W "loss_at") (cm 27 (W "Rules") rfl rfl) (jv 1) (ja (jv 7) an)) (ja (jv 8) an)))) an)))
 c0)) c0)
 c0)))
 (cc (bR m (mG dI dZ Z.b_tuple (ja (jv 5) an)))
 c0)))
theorem Ki {k:Nat}(T:TT K mg)(Z:Zt K mg)(IH:IT P w base T k):OT P w base T k 33 :=
 dF 33 (fn:=PF) (N:=["book","rules","numbering","nodes","memory","moves","foe"]) T IH rfl ⟨rfl,rfl,rfl,by decide +kernel,rfl,by decide +kernel,by decide +kernel⟩ rfl rfl rfl fun bM A outer s H E hr m u c cm ck nd=>by
 exact(cc (sx m (bQ (c 15 rfl rfl) (ja (jv 0) an)))
 (cc (sn (i:=1) m nd (Dg (ck 24 (W "Rules") rfl rfl) (ja (jv 0) an)))
 (cc (sn (i:=2) m nd (Dg (ck 29 (W "Numbering") rfl rfl) (ja (gJ (W "Table") Z.c_Table Z.a_Table_first_memory (gJ (W "Rules") Z.c_Rules Z.a_Rules_table (jv 1))) an)))
 (cc (sn (i:=3) m nd (jl an))
 (cc (sw m (cW (o:=.lt) u (dD bW cU Z.b_len (ja (jv 3) an)) (dD bW cU Z.b_len (ja (gJ (W "Numbering") Z.c_Numbering Z.a_Numbering_met (jv 2)) an))) (cc (sn (i:=4) m nd (bB (gJ (W "Numbering") Z.c_Numbering Z.a_Numbering_met (jv 2)) (dD bW cU Z.b_len (ja (jv 3) an))))
 (cc (sn (i:=5) m nd (jl an))
 (cc (sC (i:=6) m nd (iv (bQ (c 31 rfl rfl) (ja (jv 0) (ja (jv 1) (ja (jv 4) an))))) (cc (sx m (lP (jv 5) (ja (jt m (ja (jv 6) (ja (bQ (c 32 rfl rfl) (ja (jv 0) (ja (jv 1) (ja (jv 2) (ja (jv 4) (ja (jv 6) an)))))) an))) an)))
 c0))
 (cc (sx m (lP (jv 3) (ja (jt m (ja (jv 4) (ja (mG dI dZ Z.b_tuple (ja (jv 5) an)) an))) an)))
 c0)))))
 (cc (bR m (jv 3))
 c0))))))
theorem Gy {k:Nat}(T:TT K mg)(Z:Zt K mg)(IH:IT P w base T k):OT P w base T k 34 :=
 dF 34 (fn:=uR) (N:=["_law_script","_law_k"]) T IH rfl ⟨rfl,rfl,rfl,by decide +kernel,rfl,by decide +kernel,by decide +kernel⟩ rfl rfl rfl fun bM A outer s H E hr m u c cm ck nd=>by
 exact(cc (cV m (cW (o:=.lt) u (jv 1) (dD bW cU Z.b_len (ja (jv 0) an))) (cc (bR m (bB (jv 0) (jv 1)))
 c0) c0)
 (cc (cV m (cW (o:=.eq) u (jv 0) (jl an)) (cc (bR m ji)
 c0) c0)
 (cc (bR m (cO (op:=.add) (cO (op:=.mul) (bB (jv 0) (cO (op:=.mod) (jv 1) (dD bW cU Z.b_len (ja (jv 0) an)))) ji) (jv 1)))
 c0)))
theorem Il {k:Nat}(T:TT K mg)(Z:Zt K mg)(IH:IT P w base T k):OT P w base T k 35 :=
 dF 35 (fn:=zU) (N:=["_law_script","_law_k","_law_many","_law_drawn"]) T IH rfl ⟨rfl,rfl,rfl,by decide +kernel,rfl,by decide +kernel,by decide +kernel⟩ rfl rfl rfl fun bM A outer s H E hr m u c cm ck nd=>by
 exact(cc (sn (i:=3) m nd (cO (op:=.mod) (cO (op:=.mul) (cO (op:=.add) (cO (op:=.add) (bQ (c 34 rfl rfl) (ja (jv 0) (ja (jv 1) an))) (cO (op:=.mul) ji (jv 1))) ji) ji) ji))
 (cc (bR m (cO (op:=.mod) (cO (op:=.mod) (cO (op:=.add) (cO (op:=.add) (cO (op:=.mul) (jv 3) (jv 3)) (cO (op:=.mul) ji (jv 3))) (jv 1)) ji) (jv 2)))
 c0))
theorem Gj {k:Nat}(T:TT K mg)(Z:Zt K mg)(IH:IT P w base T k):OT P w base T k 36 :=
 dF 36 (fn:=BZ) (N:=["_law_script","_law_m","_law_many"]) T IH rfl ⟨rfl,rfl,rfl,by decide +kernel,rfl,by decide +kernel,by decide +kernel⟩ rfl rfl rfl fun bM A outer s H E hr m u c cm ck nd=>by
 exact(cc (sg m (cO (op:=.add) (bB (jv 1) ji) ji) (gi (jv 1) ji))
 (cc (bR m (bQ (c 35 rfl rfl) (ja (jv 0) (ja (bB (jv 1) ji) (ja (jv 2) an)))))
 c0))
theorem Iy {k:Nat}(T:TT K mg)(Z:Zt K mg)(IH:IT P w base T k):OT P w base T k 37 :=
 dF 37 (fn:=zW) (N:=["_law_script","_law_m","_law_some","_law_turn","_law_row","_law_foe","_law_friend"]) T IH rfl ⟨rfl,rfl,rfl,by decide +kernel,rfl,by decide +kernel,by decide +kernel⟩ rfl rfl rfl fun bM A outer s H E hr m u c cm ck nd=>by
 exact(cc (sn (i:=2) m nd (jl (ja js (ja js (ja js (ja js (ja js (ja js (ja js (ja js an))))))))))
 (cc (sn (i:=3) m nd (bQ (c 36 rfl rfl) (ja (jv 0) (ja (jv 1) (ja ji an)))))
 (cc (sn (i:=4) m nd (cO (op:=.add) (K3 (jv 2) (os (jv 3)) on) (K3 (jv 2) on (os (jv 3)))))
 (cc (sn (i:=5) m nd (cO (op:=.add) ji (bQ (c 36 rfl rfl) (ja (jv 0) (ja (jv 1) (ja ji an))))))
 (cc (sn (i:=6) m nd (cO (op:=.add) ji (bQ (c 36 rfl rfl) (ja (jv 0) (ja (jv 1) (ja ji an))))))
 (cc (bR m (jt m (ja (mG dI dZ Z.b_tuple (ja (K3 (jv 4) on (os (jv 5))) an)) (ja (mG dI dZ Z.b_tuple (ja (K3 (jv 4) (os (jv 5)) (os (cO (op:=.add) (jv 5) (jv 6)))) an)) an))))
 c0))))))
theorem Hi {k:Nat}(T:TT K mg)(Z:Zt K mg)(IH:IT P w base T k):OT P w base T k 38 :=
 dF 38 (fn:=xW) (N:=["_law_script","_law_m","_law_names_here","_law_deep","_law_left","_law_way","_law_one"]) T IH rfl ⟨rfl,rfl,rfl,by decide +kernel,rfl,by decide +kernel,by decide +kernel⟩ rfl rfl rfl fun bM A outer s H E hr m u c cm ck nd=>by
 exact(cc (sn (i:=5) m nd (bQ (c 36 rfl rfl) (ja (jv 0) (ja (jv 1) (ja ji an)))))
 (cc (cV m (sW (yH m (cW (o:=.eq) u (jv 3) ji) (sQ (cW (o:=.lt) u (jv 5) ji)))) (cc (bR m (jt m (ja js (ja (bB (jv 2) (bQ (c 36 rfl rfl) (ja (jv 0) (ja (jv 1) (ja (dD bW cU Z.b_len (ja (jv 2) an)) an))))) an))))
 c0) c0)
 (cc (cV m (cW (o:=.eq) u (jv 5) ji) (cc (bR m (jt m (ja (bB (jl (ja js (ja js an))) (bQ (c 36 rfl rfl) (ja (jv 0) (ja (jv 1) (ja ji an))))) an)))
 c0) c0)
 (cc (cV m (sW (VX m (cW (o:=.gt) u (jv 5) ji) (sQ (cW (o:=.gt) u (bB (jv 4) ji) ji)))) (cc (sg m (cO (op:=.sub) (bB (jv 4) ji) ji) (gi (jv 4) ji))
 (cc (sn (i:=6) m nd (bQ (c 38 rfl rfl) (ja (jv 0) (ja (jv 1) (ja (jv 2) (ja (cO (op:=.sub) (jv 3) ji) (ja (jv 4) an)))))))
 (cc (cV m (cW (o:=.eq) u (jv 5) ji) (cc (bR m (jt m (ja js (ja (jv 6) (ja (bQ (c 38 rfl rfl) (ja (jv 0) (ja (jv 1) (ja (jv 2) (ja (cO (op:=.sub) (jv 3) ji) (ja (jv 4) an)))))) an)))))
 c0) c0)
 (cc (bR m (jt m (ja (bB (jl (ja js (ja js (ja js an)))) (cO (op:=.sub) (jv 5) ji)) (ja (jv 6) an))))
 c0)))) c0)
 (cc (sn (i:=6) m nd (bQ (c 38 rfl rfl) (ja (jv 0) (ja (jv 1) (ja (jv 2) (ja (cO (op:=.sub) (jv 3) ji) (ja (jv 4) an)))))))
 (cc (cV m (sW (yH m (cW (o:=.eq) u (jv 5) ji) (sQ (cW (o:=.gt) u (jv 5) ji)))) (cc (bR m (jt m (ja js (ja (jv 6) an))))
 c0) c0)
 (cc (bR m (jt m (ja (bB (jl (ja js (ja js (ja js (ja js an))))) (cO (op:=.sub) (jv 5) ji)) (ja (jv 6) (ja (bQ (c 38 rfl rfl) (ja (jv 0) (ja (jv 1) (ja (jv 2) (ja (cO (op:=.sub) (jv 3) ji) (ja (jv 4) an)))))) an)))))
 c0)))))))
theorem Ku {k:Nat}(T:TT K mg)(Z:Zt K mg)(IH:IT P w base T k):OT P w base T k 39 :=
 dF 39 (fn:=uN) (N:=["_law_script","_law_m","_law_foe","_law_names_here","_law_left","_law_one","_law_other"]) T IH rfl ⟨rfl,rfl,rfl,by decide +kernel,rfl,by decide +kernel,by decide +kernel⟩ rfl rfl rfl fun bM A outer s H E hr m u c cm ck nd=>by
 exact(cc (sn (i:=5) m nd (bQ (c 38 rfl rfl) (ja (jv 0) (ja (jv 1) (ja (jv 2) (ja ji (ja (jl (ja ji an)) an)))))))
 (cc (cV m (sW (VX m (cW (o:=.gt) u (bB (jv 4) ji) ji) (sQ (cW (o:=.eq) u (bQ (c 36 rfl rfl) (ja (jv 0) (ja (jv 1) (ja ji an)))) ji)))) (cc (sg m (cO (op:=.sub) (bB (jv 4) ji) ji) (gi (jv 4) ji))
 (cc (sn (i:=6) m nd (bQ (c 38 rfl rfl) (ja (jv 0) (ja (jv 1) (ja (jv 3) (ja ji (ja (jl (ja ji an)) an)))))))
 (cc (bR m (jt m (ja (bB (jl (ja js (ja js (ja js an)))) (bQ (c 36 rfl rfl) (ja (jv 0) (ja (jv 1) (ja ji an))))) (ja (jt m (ja js (ja (jv 6) an))) (ja (jv 5) an)))))
 c0))) c0)
 (cc (bR m (jv 5))
 c0)))
noncomputable abbrev Fo:List Str:=["_law_script","_law_at","_law_pieces_here","_law_musts","_law_m","_law_foe","_law_friend","_law_names_here","_law_left","_law_wishes","_law_k","_law_price","_law_some","_law_known"]
theorem He {k:Nat}(T:TT K mg)(Z:Zt K mg)(IH:IT P w base T k):OT P w base T k 40 :=
 dF 40 (fn:=BS) (N:=Fo) T IH rfl ⟨rfl,rfl,rfl,by decide +kernel,rfl,by decide +kernel,by decide +kernel⟩ rfl rfl rfl fun bM A outer s H E hr m u c cm ck nd=>by
 exact(cc (MR (i:=4) m nd (jl (ja (jv 1) an)))
 (cc (sg m (bQ (c 37 rfl rfl) (ja (bF 0) (ja (bF 4) an))) (gt (gc (Pb (i:=5) nd) (gc (gn (i:=6) nd) nn))))
 (cc (MR (i:=7) m nd (cO (op:=.add) (bF 5) (jv 6)))
 (cc (MR (i:=8) m nd (jl (ja (bQ (c 36 rfl rfl) (ja (bF 0) (ja (bF 4) (ja (cO (op:=.add) (jv 2) ji) an)))) an)))
 (cc (sn (i:=9) m nd (jl an))
 (cc (sC (i:=10) m nd (IF m Z.b_range (ja (cO (op:=.add) ji (bQ (c 36 rfl rfl) (ja (bF 0) (ja (bF 4) (ja ji an))))) an)) (cc (sn (i:=11) m nd (cO (op:=.add) ji (bQ (c 36 rfl rfl) (ja (bF 0) (ja (bF 4) (ja (bB (jl (ja ji (ja ji (ja ji an)))) (bQ (c 36 rfl rfl) (ja (bF 0) (ja (bF 4) (ja ji an))))) an))))))
 (cc (sx m (lP (jv 9) (ja (jt m (ja (jv 11) (ja (bQ (c 38 rfl rfl) (ja (bF 0) (ja (bF 4) (ja (bF 7) (ja ji (ja (bF 8) an)))))) an))) an)))
 c0)))
 (cc (VW (i:=12) m nd (own:=["_law_k"]) (cn:=["_law_script","_law_m","_law_names_here","_law_left"]) (bG:=[0,4,7,8]) (one:=true) (jE (on:=(aR (dN 40)).names) (N:=Fo) (by decide +kernel)) (IF m Z.b_range (ja (bQ (c 36 rfl rfl) (ja (bF 0) (ja (bF 4) (ja (cO (op:=.add) (jv 3) ji) an)))) an)) (fun _ _ _ _=>(b1 (gn (show(["_law_k","_law_script","_law_m","_law_names_here","_law_left"]:List Str).Nodup by decide +kernel)))) (fun _ _ _ _=>qn) (fun _ _ _ _=>(bQ ((c 38 rfl rfl).qI) (ja (bF 1) (ja (bF 2) (ja (bF 3) (ja ji (ja (bF 4) an))))))))
 (cc (VW (i:=13) m nd (own:=["_law_k"]) (cn:=["_law_script","_law_m","_law_foe","_law_names_here","_law_left"]) (bG:=[0,4,5,7,8]) (one:=true) (jE (on:=(aR (dN 40)).names) (N:=Fo) (by decide +kernel)) (IF m Z.b_range (ja (bQ (c 36 rfl rfl) (ja (bF 0) (ja (bF 4) (ja ji an)))) an)) (fun _ _ _ _=>(b1 (gn (show(["_law_k","_law_script","_law_m","_law_foe","_law_names_here","_law_left"]:List Str).Nodup by decide +kernel)))) (fun _ _ _ _=>qn) (fun _ _ _ _=>(bQ ((c 39 rfl rfl).qI) (ja (bF 1) (ja (bF 2) (ja (bF 3) (ja (bF 4) (ja (bF 5) an))))))))
 (cc (bR m (jt m (ja (bF 5) (ja (jv 6) (ja (mG dI dZ Z.b_tuple (ja (jv 13) an)) (ja (mG dI dZ Z.b_tuple (ja (jv 12) an)) (ja (mG dI dZ Z.b_tuple (ja (jv 9) an)) an)))))))
 c0)))))))))
theorem Ir {k:Nat}(T:TT K mg)(Z:Zt K mg)(IH:IT P w base T k):OT P w base T k 41 :=
 dF 41 (fn:=yC) (N:=["_law_saying_here","_law_found","_law_part"]) T IH rfl ⟨rfl,rfl,rfl,by decide +kernel,rfl,by decide +kernel,by decide +kernel⟩ rfl rfl rfl fun bM A outer s H E hr m u c cm ck nd=>by
 exact(cc (cV m (sW (VX m (cW (o:=.in_) u (bB (jv 0) ji) (jt m (ja js (ja js (ja js (ja js an)))))) (sQ (cW (o:=.fX) u (jv 0) (jv 1))))) (cc (sx m (lP (jv 1) (ja (jv 0) an)))
 c0) c0)
 (cc (cV m (cW (o:=.ne) u (bB (jv 0) ji) js) (cc (sC (i:=2) m nd (iv (K3 (jv 0) (os ji) on)) (cc (sx m (bQ (c 41 rfl rfl) (ja (jv 2) (ja (jv 1) an))))
 c0))
 c0) c0)
 (cc (bR m (jv 1))
 c0)))
noncomputable abbrev Lp:List Str:=["_law_book_here","_law_found","_law_saying_here"]
theorem Hn {k:Nat}(T:TT K mg)(Z:Zt K mg)(IH:IT P w base T k):OT P w base T k 42 :=
 dF 42 (fn:=pJ) (N:=Lp) T IH rfl ⟨rfl,rfl,rfl,by decide +kernel,rfl,by decide +kernel,by decide +kernel⟩ rfl rfl rfl fun bM A outer s H E hr m u c cm ck nd=>by
 exact(cc (sn (i:=1) m nd (jl an))
 (cc (sC (i:=2) m nd (iv (cO (op:=.add) (cO (op:=.add) (bB (jv 0) ji) (bB (jv 0) ji)) (mG dI dZ Z.b_tuple (ja (kS m (own:=["_law_wish"]) (cn:=[]) (bG:=[]) (one:=true) (jE (on:=(aR (dN 42)).names) (N:=Lp) (by decide +kernel)) (iv (bB (jv 0) ji)) (fun _ _ _ _=>(b1 (gn (show(["_law_wish"]:List Str).Nodup by decide +kernel)))) (fun _ _ _ _=>qn) (fun _ _ _ _=>(bB (jv 0) ji))) an)))) (cc (sx m (bQ (c 41 rfl rfl) (ja (jv 2) (ja (jv 1) an))))
 c0))
 (cc (bR m (jv 1))
 c0)))
noncomputable abbrev ZX:List Str:=["_law_names_here","_law_saying_here","_law_play","_law_turn","_law_head","_law_k","_law_one","_law_other"]
theorem Hb {k:Nat}(T:TT K mg)(Z:Zt K mg)(IH:IT P w base T k):OT P w base T k 43 :=
 dF 43 (fn:=yS) (N:=ZX) T IH rfl ⟨rfl,rfl,rfl,by decide +kernel,rfl,by decide +kernel,by decide +kernel⟩ rfl rfl rfl fun bM A outer s H E hr m u c cm ck nd=>by
 exact(cc (sn (i:=4) m nd (bB (bF 1) ji))
 (cc (cV m (cW (o:=.eq) u (jv 4) js) (cc (bR m (bB (bB (bF 2) (jv 3)) (OY m u (bF 0) (ja (bB (bF 1) ji) an))))
 c0) c0)
 (cc (cV m (sW (yH m (cW (o:=.eq) u (jv 4) js) (sQ (cW (o:=.eq) u (jv 4) js)))) (cc (bR m (pP (o:=.eq) u (jv 4) js))
 c0) c0)
 (cc (cV m (cW (o:=.eq) u (jv 4) js) (cc (bR m (oC (pP (o:=.gt) u (jv 3) ji) (lU (bQ (c 43 rfl rfl) (ja (bF 0) (ja (bB (bF 1) ji) (ja (bF 2) (ja (cO (op:=.sub) (jv 3) ji) an))))))))
 c0) c0)
 (cc (cV m (cW (o:=.eq) u (jv 4) js) (cc (bR m (pP (o:=.ne) u (kS m (own:=["_law_k"]) (cn:=["_law_names_here","_law_saying_here","_law_play"]) (bG:=[0,1,2]) (one:=true) (jE (on:=(aR (dN 43)).names) (N:=ZX) (by decide +kernel)) (IF m Z.b_range (ja (cO (op:=.add) (jv 3) ji) an)) (fun _ _ _ _=>(b1 (gn (show(["_law_k","_law_names_here","_law_saying_here","_law_play"]:List Str).Nodup by decide +kernel)))) (fun _ _ _ _=>(qc (tp (bQ ((c 43 rfl rfl).qI) (ja (bF 1) (ja (bB (bF 2) ji) (ja (bF 3) (ja (jv 0) an)))))) qn)) (fun _ _ _ _=>(jv 0))) (jl an)))
 c0) c0)
 (cc (cV m (cW (o:=.eq) u (jv 4) js) (cc (bR m (pP (o:=.eq) u (kS m (own:=["_law_k"]) (cn:=["_law_names_here","_law_saying_here","_law_play"]) (bG:=[0,1,2]) (one:=true) (jE (on:=(aR (dN 43)).names) (N:=ZX) (by decide +kernel)) (IF m Z.b_range (ja (cO (op:=.add) (jv 3) ji) an)) (fun _ _ _ _=>(b1 (gn (show(["_law_k","_law_names_here","_law_saying_here","_law_play"]:List Str).Nodup by decide +kernel)))) (fun _ _ _ _=>(qc (pM (tp (bQ ((c 43 rfl rfl).qI) (ja (bF 1) (ja (bB (bF 2) ji) (ja (bF 3) (ja (jv 0) an))))))) qn)) (fun _ _ _ _=>(jv 0))) (jl an)))
 c0) c0)
 (cc (cV m (cW (o:=.eq) u (jv 4) js) (cc (sC (i:=5) m nd (Pw m Z.b_range (ja (jv 3) (ja (Lf ji) (ja (Lf ji) an)))) (cc (cV m (tp (bQ (c 43 rfl rfl) (ja (bF 0) (ja (bB (bF 1) ji) (ja (bF 2) (ja (jv 5) an)))))) (cc (bR m jb)
 c0) c0)
 (cc (cV m (pM (tp (bQ (c 43 rfl rfl) (ja (bF 0) (ja (bB (bF 1) ji) (ja (bF 2) (ja (jv 5) an))))))) (cc (bR m jb)
 c0) c0)
 c0)))
 (cc (bR m jb)
 c0)) c0)
 (cc (sn (i:=6) m nd (bQ (c 43 rfl rfl) (ja (bF 0) (ja (bB (bF 1) ji) (ja (bF 2) (ja (jv 3) an))))))
 (cc (cV m (cW (o:=.eq) u (jv 4) js) (cc (bR m (M6 (jv 6)))
 c0) c0)
 (cc (sn (i:=7) m nd (bQ (c 43 rfl rfl) (ja (bF 0) (ja (bB (bF 1) ji) (ja (bF 2) (ja (jv 3) an))))))
 (cc (cV m (cW (o:=.eq) u (jv 4) js) (cc (bR m (oC (jv 6) (lU (jv 7))))
 c0) c0)
 (cc (cV m (cW (o:=.eq) u (jv 4) js) (cc (bR m (MS (jv 6) (lU (jv 7))))
 c0) c0)
 (cc (cV m (cW (o:=.eq) u (jv 4) js) (cc (bR m (MS (jv 7) (lU (M6 (jv 6)))))
 c0) c0)
 (cc (bR m (pP (o:=.eq) u (jv 6) (jv 7)))
 c0))))))))))))))
theorem Jc {k:Nat}(T:TT K mg)(Z:Zt K mg)(IH:IT P w base T k):OT P w base T k 44 :=
 dF 44 (fn:=yD) (N:=["_law_book_here","_law_play","_law_names_here","_law_found","_law_piece"]) T IH rfl ⟨rfl,rfl,rfl,by decide +kernel,rfl,by decide +kernel,by decide +kernel⟩ rfl rfl rfl fun bM A outer s H E hr m u c cm ck nd=>by
 exact(cc (sn (i:=2) m nd (cO (op:=.add) (bB (jv 0) ji) (bB (jv 0) ji)))
 (cc (sn (i:=3) m nd (jl an))
 (cc (sC (i:=4) m nd (iv (bQ (c 42 rfl rfl) (ja (jv 0) an))) (cc (cV m (cW (o:=.eq) u (jv 1) (jl an)) (cc (sx m (lP (jv 3) (ja (pP (o:=.eq) u (bB (jv 4) ji) js) an)))
 c0) (cc (cV m (cW (o:=.eq) u (bB (jv 4) ji) js) (cc (sx m (lP (jv 3) (ja (bQ (c 43 rfl rfl) (ja (jv 2) (ja (bB (jv 4) ji) (ja (jv 1) (ja (cO (op:=.sub) (dD bW cU Z.b_len (ja (jv 1) an)) ji) an))))) an)))
 c0) (cc (sx m (lP (jv 3) (ja (bQ (c 43 rfl rfl) (ja (jv 2) (ja (jv 4) (ja (jv 1) (ja (cO (op:=.sub) (dD bW cU Z.b_len (ja (jv 1) an)) ji) an))))) an)))
 c0))
 c0))
 c0))
 (cc (bR m (mG dI dZ Z.b_tuple (ja (jv 3) an)))
 c0))))
noncomputable abbrev Lv:List Str:=["_law_names_here","_law_sayings","_law_play"]
theorem Gz {k:Nat}(T:TT K mg)(Z:Zt K mg)(IH:IT P w base T k):OT P w base T k 45 :=
 dF 45 (fn:=BR) (N:=Lv) T IH rfl ⟨rfl,rfl,rfl,by decide +kernel,rfl,by decide +kernel,by decide +kernel⟩ rfl rfl rfl fun bM A outer s H E hr m u c cm ck nd=>by
 exact(cc (bR m (pP (o:=.eq) u (kS m (own:=["_law_saying_here"]) (cn:=["_law_names_here","_law_play"]) (bG:=[0,2]) (one:=true) (jE (on:=(aR (dN 45)).names) (N:=Lv) (by decide +kernel)) (iv (jv 1)) (fun _ _ _ _=>(b1 (gn (show(["_law_saying_here","_law_names_here","_law_play"]:List Str).Nodup by decide +kernel)))) (fun _ _ _ _=>(qc (pM (tp (bQ ((c 43 rfl rfl).qI) (ja (bF 1) (ja (jv 0) (ja (bF 2) (ja (cO (op:=.sub) (dD bW cU Z.b_len (ja (bF 2) an)) ji) an))))))) qn)) (fun _ _ _ _=>(jv 0))) (jl an)))
 c0)
noncomputable abbrev Lj:List Str:=["_law_book_here","_law_play","_law_names_here"]
theorem Jq {k:Nat}(T:TT K mg)(Z:Zt K mg)(IH:IT P w base T k):OT P w base T k 46 :=
 dF 46 (fn:=B2) (N:=Lj) T IH rfl ⟨rfl,rfl,rfl,by decide +kernel,rfl,by decide +kernel,by decide +kernel⟩ rfl rfl rfl fun bM A outer s H E hr m u c cm ck nd=>by
 exact(cc (MR (i:=2) m nd (cO (op:=.add) (bB (jv 0) ji) (bB (jv 0) ji)))
 (cc (bR m (dD (HE hr.hd) R4 Z.b_sum (ja (kS m (own:=["_law_wish"]) (cn:=["_law_names_here","_law_play"]) (bG:=[2,1]) (one:=true) (jE (on:=(aR (dN 46)).names) (N:=Lj) (by decide +kernel)) (iv (bB (jv 0) ji)) (fun _ _ _ _=>(b1 (gn (show(["_law_wish","_law_names_here","_law_play"]:List Str).Nodup by decide +kernel)))) (fun _ _ _ _=>(qc (pM (tp (bQ ((c 43 rfl rfl).qI) (ja (bF 1) (ja (bB (jv 0) ji) (ja (bF 2) (ja (cO (op:=.sub) (dD bW cU Z.b_len (ja (bF 2) an)) ji) an))))))) qn)) (fun _ _ _ _=>(bB (jv 0) ji))) an)))
 c0))
theorem Kg {k:Nat}(T:TT K mg)(Z:Zt K mg)(IH:IT P w base T k):OT P w base T k 47 :=
 dF 47 (fn:=sY) (N:=["_law_many","_law_rows","_law_turn","_law_more","_law_row"]) T IH rfl ⟨rfl,rfl,rfl,by decide +kernel,rfl,by decide +kernel,by decide +kernel⟩ rfl rfl rfl fun bM A outer s H E hr m u c cm ck nd=>by
 exact(cc (sn (i:=1) m nd (jl (ja (jt m an) an)))
 (cc (sC (i:=2) m nd (IF m Z.b_range (ja (jv 0) an)) (cc (sn (i:=3) m nd (jl an))
 (cc (sC (i:=4) m nd (iv (jv 1)) (cc (sx m (Lg (jv 3) (ja (jl (ja (cO (op:=.add) (jv 4) (jt m (ja jb an))) (ja (cO (op:=.add) (jv 4) (jt m (ja jb an))) an))) an)))
 c0))
 (cc (sn (i:=1) m nd (jv 3))
 c0))))
 (cc (bR m (jv 1))
 c0)))
theorem Jx {k:Nat}(T:TT K mg)(Z:Zt K mg)(IH:IT P w base T k):OT P w base T k 48 :=
 dF 48 (fn:=uY) (N:=["_law_book_here","_law_play","_law_foe","_law_names_here","_law_found","_law_friend","_law_longer"]) T IH rfl ⟨rfl,rfl,rfl,by decide +kernel,rfl,by decide +kernel,by decide +kernel⟩ rfl rfl rfl fun bM A outer s H E hr m u c cm ck nd=>by
 exact(cc (sn (i:=3) m nd (cO (op:=.add) (bB (jv 0) ji) (bB (jv 0) ji)))
 (cc (sn (i:=4) m nd (jl an))
 (cc (sC (i:=5) m nd (iv (bQ (c 47 rfl rfl) (ja (dD bW cU Z.b_len (ja (bB (jv 0) ji) an)) an))) (cc (sn (i:=6) m nd (cO (op:=.add) (jv 1) (jl (ja (cO (op:=.add) (jv 2) (jv 5)) an))))
 (cc (cV m (tp (bQ (c 45 rfl rfl) (ja (jv 3) (ja (bB (jv 0) ji) (ja (jv 6) an))))) (cc (sx m (lP (jv 4) (ja (jt m (ja (jv 5) (ja (bQ (c 46 rfl rfl) (ja (jv 0) (ja (jv 6) an))) (ja (jv 6) an)))) an)))
 c0) c0)
 c0)))
 (cc (bR m (jv 4))
 c0))))
theorem Gx {k:Nat}(T:TT K mg)(Z:Zt K mg)(IH:IT P w base T k):OT P w base T k 49 :=
 dF 49 (fn:=BF) (N:=["_law_book_here","_law_plays","_law_met","_law_nodes","_law_play","_law_moves","_law_foe","_law_answers_here","_law_friend","_law_loss_here","_law_longer","_law_memory_here"]) T IH rfl ⟨rfl,rfl,rfl,by decide +kernel,rfl,by decide +kernel,by decide +kernel⟩ rfl rfl rfl fun bM A outer s H E hr m u c cm ck nd=>by
 exact(cc (sn (i:=1) m nd (jl (ja (jl an) an)))
 (cc (sn (i:=2) m nd (jl (ja (bQ (c 44 rfl rfl) (ja (jv 0) (ja (jl an) an))) an)))
 (cc (sn (i:=3) m nd (jl an))
 (cc (sw m (cW (o:=.lt) u (dD bW cU Z.b_len (ja (jv 3) an)) (dD bW cU Z.b_len (ja (jv 1) an))) (cc (sn (i:=4) m nd (bB (jv 1) (dD bW cU Z.b_len (ja (jv 3) an))))
 (cc (sn (i:=5) m nd (jl an))
 (cc (sC (i:=6) m nd (iv (bQ (c 47 rfl rfl) (ja (dD bW cU Z.b_len (ja (bB (jv 0) ji) an)) an))) (cc (cV m (tp (bQ (c 45 rfl rfl) (ja (cO (op:=.add) (bB (jv 0) ji) (bB (jv 0) ji)) (ja (bB (jv 0) ji) (ja (cO (op:=.add) (jv 4) (jl (ja (cO (op:=.add) (jv 6) (cO (op:=.mul) (jt m (ja jb an)) (dD bW cU Z.b_len (ja (bB (jv 0) ji) an)))) an))) an))))) (cc (sn (i:=7) m nd (jl an))
 (cc (sf m (iv (bQ (c 48 rfl rfl) (ja (jv 0) (ja (jv 4) (ja (jv 6) an))))) (gt (gc (gn (i:=8) nd) (gc (gn (i:=9) nd) (gc (gn (i:=10) nd) nn)))) (cc (sn (i:=11) m nd (bQ (c 44 rfl rfl) (ja (jv 0) (ja (jv 10) an))))
 (cc (cV m (cW (o:=.fX) u (jv 11) (jv 2)) (cc (sx m (lP (jv 2) (ja (jv 11) an)))
 (cc (sx m (lP (jv 1) (ja (jv 10) an)))
 c0)) c0)
 (cc (sx m (lP (jv 7) (ja (jt m (ja (jv 8) (ja (jv 9) (ja (OY m u (jv 2) (ja (jv 11) an)) an)))) an)))
 c0))))
 (cc (sx m (lP (jv 5) (ja (jt m (ja (jv 6) (ja (mG dI dZ Z.b_tuple (ja (jv 7) an)) an))) an)))
 c0))) c0)
 c0))
 (cc (sx m (lP (jv 3) (ja (jt m (ja (bB (jv 2) (dD bW cU Z.b_len (ja (jv 3) an))) (ja (mG dI dZ Z.b_tuple (ja (jv 5) an)) an))) an)))
 c0)))))
 (cc (bR m (jv 3))
 c0)))))
noncomputable abbrev Ld:List Str:=["_law_script","_law_book_here","_law_answer"]
theorem Hk {k:Nat}(T:TT K mg)(Z:Zt K mg)(IH:IT P w base T k):OT P w base T k 50 :=
 dF 50 (fn:=VU) (N:=Ld) T IH rfl ⟨rfl,rfl,rfl,by decide +kernel,rfl,by decide +kernel,by decide +kernel⟩ rfl rfl rfl fun bM A outer s H E hr m u c cm ck nd=>by
 exact(cc (sn (i:=1) m nd (bQ (c 40 rfl rfl) (ja (jv 0) (ja ji (ja ji (ja ji an))))))
 (cc (sn (i:=2) m nd (bQ (c 33 rfl rfl) (ja (jv 1) an)))
 (cc (cV m (sW (yH m (pM (tp (GR (t:=.list) A3 Z.b_isinstance Z.b_list (jv 2)))) (sQ (cW (o:=.ne) u (kS m (own:=["_law_node"]) (cn:=[]) (bG:=[]) (one:=true) (jE (on:=(aR (dN 50)).names) (N:=Ld) (by decide +kernel)) (iv (jv 2)) (fun _ _ _ _=>(b1 (gn (show(["_law_node"]:List Str).Nodup by decide +kernel)))) (fun _ _ _ _=>(qc (pM (tp (GR (t:=.tuple) dZ Z.b_isinstance Z.b_tuple (jv 0)))) qn)) (fun _ _ _ _=>(jv 0))) (jl an))))) (cc (bR m jb)
 c0) c0)
 (cc (bR m (pP (o:=.eq) u (jv 2) (bQ (c 49 rfl rfl) (ja (jv 1) an))))
 c0))))
theorem Pp {k:Nat}(T:CU K mg 51 vM oB nY dN tN)(Z:Zt K mg)(IH:∀ i,i<51->fA P w K mg base iD (2*k) (T.a i) (T.fd i) (nY i) (fN K (aO G k) i)):∀ i,i<51->fA P w K mg base iD (2*k+1+1) (T.a i) (T.fd i) (nY i) (fN K (aO G (k+1)) i)
 |0,_=>Mi T Z IH
 |1,_=>Oj T Z IH
 |2,_=>Nr T Z IH
 |3,_=>Ou T Z IH
 |4,_=>Mc T Z IH
 |5,_=>Om T Z IH
 |6,_=>Mo T Z IH
 |7,_=>Ot T Z IH
 |8,_=>Ox T Z IH
 |9,_=>Of T Z IH
 |10,_=>Im T Z IH
 |11,_=>Ka T Z IH
 |12,_=>Ih T Z IH
 |13,_=>Hl T Z IH
 |14,_=>Js T Z IH
 |15,_=>Ij T Z IH
 |16,_=>Jw T Z IH
 |17,_=>Hh T Z IH
 |18,_=>Hd T Z IH
 |19,_=>Ji T Z IH
 |20,_=>Hm T Z IH
 |21,_=>Jf T Z IH
 |22,_=>Kz T Z IH
 |23,_=>Kj T Z IH
 |24,_=>Gn T Z IH
 |25,_=>Kl T Z IH
 |26,_=>Ht T Z IH
 |27,_=>Hg T Z IH
 |28,_=>Iz T Z IH
 |29,_=>Gd T Z IH
 |30,_=>Jm T Z IH
 |31,_=>Jn T Z IH
 |32,_=>Gb T Z IH
 |33,_=>Ki T Z IH
 |34,_=>Gy T Z IH
 |35,_=>Il T Z IH
 |36,_=>Gj T Z IH
 |37,_=>Iy T Z IH
 |38,_=>Hi T Z IH
 |39,_=>Ku T Z IH
 |40,_=>He T Z IH
 |41,_=>Ir T Z IH
 |42,_=>Hn T Z IH
 |43,_=>Hb T Z IH
 |44,_=>Jc T Z IH
 |45,_=>Gz T Z IH
 |46,_=>Jq T Z IH
 |47,_=>Kg T Z IH
 |48,_=>Jx T Z IH
 |49,_=>Gx T Z IH
 |50,_=>Hk T Z IH
 |n+51,h=>absurd h (by omega)
end
theorem VA:∀ ns:List Int,ns.length<=63->aO G 40 V8 [.bP (ns.map .int)] (fun _=>none) (fun d _=>d=.bl true) fun _ _=>False:=fun ns _ =>
 Kp (k:=24) (G:=G) (il:=V8) (ibo:=BE) (iga:=SH) (ilg:=B3) (inm:=zG) (ic:=vA) (im:=zP) (dM:=fU) (is:=gK) (ipr:=uO) (ibk:=yQ) (ich:=FX) (iti:=qT) (iri:=rC) (ie:=pT) (iw:=iA) (ipo:=sA) (iz:=oT) (irr:=lV) (io:=nG) (ini:=mZ) (ifs:=uM) (ian:=zQ) (kC:=pY) (ifk:=qG) (kU:=nP) (imk:=nO) (ino:=mW) (ima:=nJ) (ilo:=sX) (iph:=zK) (inh:=B6) (ih:=lJ) (ise:=nM) (ik:=uB) (ilo8:=BP) (ilm:=xX) (ia:=vK) (ibp:=pO) (ip:=pW)
 rfl rfl rfl rfl rfl rfl rfl rfl rfl rfl
 (fun b B hs hd hc k st Q E hQ=>OE (G:=G) (ir:=mJ) (iI:=yN) (fG:=lH) (iy:=tV) (ia:=pZ) (iap:=vI) (io:=nG) (il:=BW) (iaw:=zR) (ipi:=oT) (ip:=DE) (iw:=GY) (ibk:=yQ) (ih:=iA) (ib:=pR) rfl rfl rfl rfl rfl rfl rfl rfl rfl rfl rfl rfl rfl rfl rfl B hs hd hc hQ)
 rfl rfl rfl rfl rfl rfl rfl rfl rfl rfl rfl rfl rfl rfl rfl rfl rfl rfl rfl rfl rfl rfl rfl rfl rfl rfl rfl rfl rfl
theorem yI {α:Type}{P:List α->Prop}(h:∀ a0,P [a0]):∀ us:List α,us.length=1->P us
 |[a0],_=>h a0
theorem ln2 {α:Type}{P:List α->Prop}(h:∀ a0 a1,P [a0,a1]):∀ us:List α,us.length=2->P us
 |[a0,a1],_=>h a0 a1
theorem uW {α:Type}{P:List α->Prop}(h:∀ a0 a1 a2,P [a0,a1,a2]):∀ us:List α,us.length=3->P us
 |[a0,a1,a2],_=>h a0 a1 a2
theorem Lk {α:Type}{P:List α->Prop}(h:∀ a0 a1 a2 a3,P [a0,a1,a2,a3]):∀ us:List α,us.length=4->P us
 |[a0,a1,a2,a3],_=>h a0 a1 a2 a3
theorem Ba {α:Type}{P:List α->Prop}(h:∀ a0 a1 a2 a3 a4,P [a0,a1,a2,a3,a4]):∀ us:List α,us.length=5->P us
 |[a0,a1,a2,a3,a4],_=>h a0 a1 a2 a3 a4
theorem Ls:∀ i,i<51->FG (vM i) (oB i) (nY i) (dN i)
 |0,_=>fun _ _ _ _ _ _=>yI fun _=>rfl
 |1,_=>fun _ _ _ _ _ _=>ln2 fun _ _=>rfl
 |2,_=>fun _ _ _ _ _ _=>uW fun _ _ _=>rfl
 |3,_=>fun _ _ _ _ _ _=>yI fun _=>rfl
 |4,_=>fun _ _ _ _ _ _=>yI fun _=>rfl
 |5,_=>fun _ _ _ _ _ _=>uW fun _ _ _=>rfl
 |6,_=>fun _ _ _ _ _ _=>ln2 fun _ _=>rfl
 |7,_=>fun _ _ _ _ _ _=>uW fun _ _ _=>rfl
 |8,_=>fun _ _ _ _ _ _=>ln2 fun _ _=>rfl
 |9,_=>fun _ _ _ _ _ _=>uW fun _ _ _=>rfl
 |10,_=>fun _ _ _ _ _ _=>yI fun _=>rfl
 |11,_=>fun _ _ _ _ _ _=>ln2 fun _ _=>rfl
 |12,_=>fun _ _ _ _ _ _=>ln2 fun _ _=>rfl
 |13,_=>fun _ _ _ _ _ _=>uW fun _ _ _=>rfl
 |14,_=>fun _ _ _ _ _ _=>yI fun _=>rfl
 |15,_=>fun _ _ _ _ _ _=>yI fun _=>rfl
 |16,_=>fun _ _ _ _ _ _=>ln2 fun _ _=>rfl
 |17,_=>fun _ _ _ _ _ _=>uW fun _ _ _=>rfl
 |18,_=>fun _ _ _ _ _ _=>uW fun _ _ _=>rfl
 |19,_=>fun _ _ _ _ _ _=>ln2 fun _ _=>rfl
 |20,_=>fun _ _ _ _ _ _=>ln2 fun _ _=>rfl
 |21,_=>fun _ _ _ _ _ _=>ln2 fun _ _=>rfl
 |22,_=>fun _ _ _ _ _ _=>uW fun _ _ _=>rfl
 |23,_=>fun _ _ _ _ _ _=>ln2 fun _ _=>rfl
 |24,_=>fun _ _ _ _ _ _=>ln2 fun _ _=>rfl
 |25,_=>fun _ _ _ _ _ _=>ln2 fun _ _=>rfl
 |26,_=>fun _ _ _ _ _ _=>ln2 fun _ _=>rfl
 |27,_=>fun _ _ _ _ _ _=>ln2 fun _ _=>rfl
 |28,_=>fun _ _ _ _ _ _=>yI fun _=>rfl
 |29,_=>fun _ _ _ _ _ _=>ln2 fun _ _=>rfl
 |30,_=>fun _ _ _ _ _ _=>ln2 fun _ _=>rfl
 |31,_=>fun _ _ _ _ _ _=>uW fun _ _ _=>rfl
 |32,_=>fun _ _ _ _ _ _=>Ba fun _ _ _ _ _=>rfl
 |33,_=>fun _ _ _ _ _ _=>yI fun _=>rfl
 |34,_=>fun _ _ _ _ _ _=>ln2 fun _ _=>rfl
 |35,_=>fun _ _ _ _ _ _=>uW fun _ _ _=>rfl
 |36,_=>fun _ _ _ _ _ _=>uW fun _ _ _=>rfl
 |37,_=>fun _ _ _ _ _ _=>ln2 fun _ _=>rfl
 |38,_=>fun _ _ _ _ _ _=>Ba fun _ _ _ _ _=>rfl
 |39,_=>fun _ _ _ _ _ _=>Ba fun _ _ _ _ _=>rfl
 |40,_=>fun _ _ _ _ _ _=>Lk fun _ _ _ _=>rfl
 |41,_=>fun _ _ _ _ _ _=>ln2 fun _ _=>rfl
 |42,_=>fun _ _ _ _ _ _=>yI fun _=>rfl
 |43,_=>fun _ _ _ _ _ _=>Lk fun _ _ _ _=>rfl
 |44,_=>fun _ _ _ _ _ _=>ln2 fun _ _=>rfl
 |45,_=>fun _ _ _ _ _ _=>uW fun _ _ _=>rfl
 |46,_=>fun _ _ _ _ _ _=>ln2 fun _ _=>rfl
 |47,_=>fun _ _ _ _ _ _=>yI fun _=>rfl
 |48,_=>fun _ _ _ _ _ _=>uW fun _ _ _=>rfl
 |49,_=>fun _ _ _ _ _ _=>yI fun _=>rfl
 |50,_=>fun _ _ _ _ _ _=>yI fun _=>rfl
 |n+51,h=>absurd h (by omega)
noncomputable abbrev FF (K:ab)(mg:Str->Option Value)(i:Nat):=wL K mg (vM i) (oB i) (dN i) (tN i)
theorem Pm {K:ab}{mg:Str->Option Value}(F0:FF K mg 0)(F1:FF K mg 1)(F2:FF K mg 2)(F3:FF K mg 3)(F4:FF K mg 4)(F5:FF K mg 5)(F6:FF K mg 6)(F7:FF K mg 7)(F8:FF K mg 8)(F9:FF K mg 9)(F10:FF K mg 10)(F11:FF K mg 11)(F12:FF K mg 12)(F13:FF K mg 13)(F14:FF K mg 14)(F15:FF K mg 15)(F16:FF K mg 16)(F17:FF K mg 17)(F18:FF K mg 18)(F19:FF K mg 19)(F20:FF K mg 20)(F21:FF K mg 21)(F22:FF K mg 22)(F23:FF K mg 23)(F24:FF K mg 24)(F25:FF K mg 25)(F26:FF K mg 26)(F27:FF K mg 27)(F28:FF K mg 28)(F29:FF K mg 29)(F30:FF K mg 30)(F31:FF K mg 31)(F32:FF K mg 32)(F33:FF K mg 33)(F34:FF K mg 34)(F35:FF K mg 35)(F36:FF K mg 36)(F37:FF K mg 37)(F38:FF K mg 38)(F39:FF K mg 39)(F40:FF K mg 40)(F41:FF K mg 41)(F42:FF K mg 42)(F43:FF K mg 43)(F44:FF K mg 44)(F45:FF K mg 45)(F46:FF K mg 46)(F47:FF K mg 47)(F48:FF K mg 48)(F49:FF K mg 49)(F50:FF K mg 50):∀ i,i<51->wL K mg (vM i) (oB i) (dN i) (tN i)
 |0,_=>F0
 |1,_=>F1
 |2,_=>F2
 |3,_=>F3
 |4,_=>F4
 |5,_=>F5
 |6,_=>F6
 |7,_=>F7
 |8,_=>F8
 |9,_=>F9
 |10,_=>F10
 |11,_=>F11
 |12,_=>F12
 |13,_=>F13
 |14,_=>F14
 |15,_=>F15
 |16,_=>F16
 |17,_=>F17
 |18,_=>F18
 |19,_=>F19
 |20,_=>F20
 |21,_=>F21
 |22,_=>F22
 |23,_=>F23
 |24,_=>F24
 |25,_=>F25
 |26,_=>F26
 |27,_=>F27
 |28,_=>F28
 |29,_=>F29
 |30,_=>F30
 |31,_=>F31
 |32,_=>F32
 |33,_=>F33
 |34,_=>F34
 |35,_=>F35
 |36,_=>F36
 |37,_=>F37
 |38,_=>F38
 |39,_=>F39
 |40,_=>F40
 |41,_=>F41
 |42,_=>F42
 |43,_=>F43
 |44,_=>F44
 |45,_=>F45
 |46,_=>F46
 |47,_=>F47
 |48,_=>F48
 |49,_=>F49
 |50,_=>F50
 |n+51,h=>absurd h (by omega)
theorem all_mk {P:br}{w:World}{K:ab}{mg:Str->Option Value}{fa:Addr}(hfa:mg "law" = some (.ref fa))(Z:Zt K mg)(F:∀ i,i<51->wL K mg (vM i) (oB i) (dN i) (tN i)):
 ∃ fd:gw,(∀(s:af)(u:Value),w6 s fd ⟨[u],[]⟩ [("_law_script", u)])/\∀ base:Heap,K.In base->base.Ns cj mg->fA P w K mg base iD (2*40) fa fd ["_law_script"] (fN K (aO G 40) 50):=by
 obtain⟨_,d,_⟩:=F 0 (by decide)
 obtain⟨T⟩:=MX 51 Ls F d
 have e:=hfa.symm.trans (show mg "law" = some (.ref (T.a 50))from T.mg 50 (by decide))
 cases e
 exact⟨T.fd 50,NY (T.fn 50 (by decide)) (Ls 50 (by decide)),fun base _ _=>MW T (fun k IH=>Pp T Z IH) 40 50 (by decide)⟩
end L3
open PySem PySem.W PyProof.Rows
local macro_rules|`(tactic| walk_at"ft")=>`(tactic| (refine' L3.Jb (by assumption) (by assumption) ?a ?l ?c ?k;(case a=>k_is);(case l=>k_is);(case c=>k_is);(case k=>k_is)))
local macro_rules|`(tactic| walk_at"fi")=>`(tactic| (refine' L3.Hy (by assumption) (by assumption) ?cl ?mk ?kp ?a ?fn ?l ?cc ?k;(case cl=>k_is);(case mk=>k_is);(case kp=>k_is);(case a=>k_is);(case fn=>k_is);(case l=>k_is);(case cc=>k_is);(case k=>k_is)))
local macro_rules|`(tactic| walk_at"fm")=>`(tactic| (refine' L3.Km (by assumption) (by assumption) ?cl ?pg ?hd ?po ?sa ?a ?fn ?l ?cc ?k;(case cl=>k_is);(case pg=>k_is);(case hd=>k_is);(case po=>k_is);(case sa=>k_is);(case a=>k_is);(case fn=>k_is);(case l=>k_is);(case cc=>k_is);(case k=>k_is)))
local macro_rules|`(tactic| walk_at"fc")=>`(tactic| (refine' L3.Fk ?cl ?pg ?hd ?po ?sa;(case cl=>k_is);(case pg=>k_is);(case hd=>k_is);(case po=>k_is);(case sa=>k_is)))
local macro_rules|`(tactic| walk_at"fa")=>`(tactic| (refine' L3.Dw ?cl ?na;(case cl=>k_is);(case na=>k_is)))
local macro_rules|`(tactic| walk_at"fn")=>`(tactic| (refine' PySem.W.mg_none_of (by assumption) (by assumption) ?x;(case x=>k_is)))
local macro_rules|`(tactic| walk_at"fg")=>`(tactic| (refine' L3.Eg (by assumption) (by assumption) ?a;(case a=>k_is)))
def PySem.W.Fast.tw4944415364208437524:Unit:=()
def PySem.W.Fast.tw14486939955458427823:Unit:=()
def PySem.W.Fast.tw4155219848211032985:Unit:=()
def PySem.W.Fast.tw9418623231790422873:Unit:=()
def PySem.W.Fast.tw2548669944236515118:Unit:=()
def PySem.W.Fast.tw11027011584606470063:Unit:=()
def PySem.W.Fast.tw5591008388232967838:Unit:=()
def PySem.W.Fast.tw17932512291342033026:Unit:=()
def PySem.W.Fast.tw699803950590150287:Unit:=()
def PySem.W.Fast.tw7425402782702320563:Unit:=()
def PySem.W.Fast.tw6095414985805074010:Unit:=()
def PySem.W.Fast.tw5943683980646252608:Unit:=()
def PySem.W.Fast.tw11589194489832968084:Unit:=()
def PySem.W.Fast.tw7295342244712131989:Unit:=()
def PySem.W.Fast.tw9345034303730999457:Unit:=()
def PySem.W.Fast.tw1924642491096786691:Unit:=()
def PySem.W.Fast.tw11522430162150378928:Unit:=()
def PySem.W.Fast.tw1170113398292135333:Unit:=()
def PySem.W.Fast.tw13792678719962455693:Unit:=()
def PySem.W.Fast.tw18096367269872502199:Unit:=()
def PySem.W.Fast.tw16806641867744397631:Unit:=()
def PySem.W.Fast.tw1489107208374272425:Unit:=()
def PySem.W.Fast.tw7356262592087409259:Unit:=()
def PySem.W.Fast.tw327183491664487039:Unit:=()
def PySem.W.Fast.tw6146538674920647031:Unit:=()
def PySem.W.Fast.tw2636083689551951986:Unit:=()
def PySem.W.Fast.tw15842284493129696389:Unit:=()
def PySem.W.Fast.tw4554436860975302646:Unit:=()
def PySem.W.Fast.tw11560229755675804661:Unit:=()
def PySem.W.Fast.tw16365241419752969280:Unit:=()
def PySem.W.Fast.tw8320685961921869954:Unit:=()
def PySem.W.Fast.tw8967229599262625429:Unit:=()
def PySem.W.Fast.tw13156595027919347880:Unit:=()
def PySem.W.Fast.tw17816453931210558100:Unit:=()
def PySem.W.Fast.tw11642108000801646949:Unit:=()
def PySem.W.Fast.tw8389027019272332035:Unit:=()
def PySem.W.Fast.tw2016252882684166125:Unit:=()
def PySem.W.Fast.tw73894739929402979:Unit:=()
def PySem.W.Fast.tw4608819220444218747:Unit:=()
def PySem.W.Fast.tw1158926862025236067:Unit:=()
def PySem.W.Fast.tw16450941843518254133:Unit:=()
def PySem.W.Fast.tw11387155063197093152:Unit:=()
def PySem.W.Fast.tw1723876878789154740:Unit:=()
def PySem.W.Fast.tw4919635532501559332:Unit:=()
def PySem.W.Fast.tw16425053583839355009:Unit:=()
def PySem.W.Fast.tw17736325513642243984:Unit:=()
def PySem.W.Fast.tw854993106928377795:Unit:=()
def PySem.W.Fast.tw17070308025059130620:Unit:=()
def PySem.W.Fast.tw18262674996371555017:Unit:=()
def PySem.W.Fast.tw11342724800087269945:Unit:=()
def PySem.W.Fast.tw9913596199828503054:Unit:=()
def PySem.W.Fast.tw17183337934777554067:Unit:=()
def PySem.W.Fast.tw12992618794383692486:Unit:=()
def PySem.W.Fast.tw11995421503971628221:Unit:=()
def PySem.W.Fast.tw17214502310167000702:Unit:=()
def PySem.W.Fast.tw11827976913742308420:Unit:=()
def PySem.W.Fast.tw7247419712645029599:Unit:=()
def PySem.W.Fast.tw10035827489237556537:Unit:=()
def PySem.W.Fast.tw2731383554261961097:Unit:=()
def PySem.W.Fast.tw17978078259775493289:Unit:=()
def PySem.W.Fast.tw17917733621488879792:Unit:=()
def PySem.W.Fast.tw17621632776063323462:Unit:=()
def PySem.W.Fast.tw11227232234079531334:Unit:=()
def PySem.W.Fast.tw12873159124469580531:Unit:=()
def PySem.W.Fast.tw6618105394938281577:Unit:=()
def PySem.W.Fast.tw9020745374096929840:Unit:=()
def PySem.W.Fast.tw12421146750696806049:Unit:=()
def PySem.W.Fast.tw4000819040725362023:Unit:=()
def PySem.W.Fast.tw16121538008294459012:Unit:=()
def PySem.W.Fast.tw7936299077911690645:Unit:=()
def PySem.W.Fast.tw13968384477095742479:Unit:=()
def PySem.W.Fast.tw7820515684350508288:Unit:=()
def PySem.W.Fast.tw8102616432908329009:Unit:=()
def PySem.W.Fast.tw7705451733749791740:Unit:=()
def PySem.W.Fast.tw5655270125520938785:Unit:=()
def PySem.W.Fast.tw5048825753746505171:Unit:=()
def PySem.W.Fast.tw11350036323471772163:Unit:=()
def PySem.W.Fast.tw10483635458357914068:Unit:=()
def PySem.W.Fast.tw13252184684347641860:Unit:=()
def PySem.W.Fast.tw13309760064012428118:Unit:=()
def PySem.W.Fast.tw1024290601845642045:Unit:=()
def PySem.W.Fast.tw5746545060830498926:Unit:=()
def PySem.W.Fast.tw5261047933210446938:Unit:=()
def PySem.W.Fast.tw11145054055246433288:Unit:=()
def PySem.W.Fast.tw15238439621112296032:Unit:=()
def PySem.W.Fast.tw6410918749239536855:Unit:=()
def PySem.W.Fast.tw6670753273396680411:Unit:=()
def PySem.W.Fast.tw4539050655627406139:Unit:=()
def PySem.W.Fast.tw15410800738623866770:Unit:=()
def PySem.W.Fast.tw3384870841823201055:Unit:=()
def PySem.W.Fast.tw13767635296571462141:Unit:=()
def PySem.W.Fast.tw17347070985294169998:Unit:=()
def PySem.W.Fast.tw9861443644824075968:Unit:=()
def PySem.W.Fast.tw8739056974556438412:Unit:=()
def PySem.W.Fast.tw14767375790893781585:Unit:=()
def PySem.W.Fast.tw10890483182741043447:Unit:=()
def PySem.W.Fast.tw1586229288496554251:Unit:=()
def PySem.W.Fast.tw14401004334632788811:Unit:=()
def PySem.W.Fast.tw16912078410556816873:Unit:=()
def PySem.W.Fast.tw7224867368440559574:Unit:=()
def PySem.W.Fast.tw13148703299665160878:Unit:=()
def PySem.W.Fast.tw2468620419842332980:Unit:=()
def PySem.W.Fast.tw8790176711115755602:Unit:=()
def PySem.W.Fast.tw13260484294247346755:Unit:=()
def PySem.W.Fast.tw12918430599381024483:Unit:=()
def PySem.W.Fast.tw92400354166085643:Unit:=()
set_option maxRecDepth 100000 in
set_option maxHeartbeats 0 in
theorem PySem.Challenge.cw_leastloss_k08_whole_game_holds : PySem.Challenge.rw_leastloss_k08_whole_game.Holds := by
 w_on;o_law;k_head;(case hw=>w_witness2)
 k_fill
 refine L3.Fg (l:=PySem.Challenge.rw_leastloss_k08_whole_game) (x :="_law_script") (r:=2*40) (k:=40) (f:=50) (G:=L3.G) ⟨rfl,by decide,by decide⟩ L3.VA rfl rfl (fun w h Y=>PySem.W.kIn_of Y) ?F
 case F =>
 intro w mg fa h KX G hmg
 refine L3.all_mk hmg ?Z (L3.Pm ?F0 ?F1 ?F2 ?F3 ?F4 ?F5 ?F6 ?F7 ?F8 ?F9 ?F10 ?F11 ?F12 ?F13 ?F14 ?F15 ?F16 ?F17 ?F18 ?F19 ?F20 ?F21 ?F22 ?F23 ?F24 ?F25 ?F26 ?F27 ?F28 ?F29 ?F30 ?F31 ?F32 ?F33 ?F34 ?F35 ?F36 ?F37 ?F38 ?F39 ?F40 ?F41 ?F42 ?F43 ?F44 ?F45 ?F46 ?F47 ?F48 ?F49 ?F50)
 case Z =>
  refine⟨?b_isinstance,?b_str,?b_len,?b_all,?b_tuple,?b_list,?b_reversed,?b_set,?b_any,?b_int,?b_bool,?b_sum,?b_range,?g_NO_NAMES,?g_LONGEST_NAME,?g_LETTERS,?g_DEEPEST,?g_SAYINGS_WITHIN,?g_PAST_WORDS,?g_MOST_LAMPS,?g_MOST_PROMISES,?g_HIGHEST_PRICE,?g_MOST_WISHES,?g_MOST_MUSTS,?g_MOST_PIECES,?c_Table,?c_Rules,?c_Numbering,?a_Table_names,?a_Table_pieces,?a_Table_rows,?a_Table_row_of,?a_Table_first_memory,?a_Table_remembered_rows,?a_Rules_table,?a_Rules_promise_rows,?a_Rules_must_rows,?a_Rules_priced_rows,?a_Numbering_met,?a_Numbering_numbers_met⟩
  case b_isinstance=>walk_at"fn"
  case b_str=>walk_at"fn"
  case b_len=>walk_at"fn"
  case b_all=>walk_at"fn"
  case b_tuple=>walk_at"fn"
  case b_list=>walk_at"fn"
  case b_reversed=>walk_at"fn"
  case b_set=>walk_at"fn"
  case b_any=>walk_at"fn"
  case b_int=>walk_at"fn"
  case b_bool=>walk_at"fn"
  case b_sum=>walk_at"fn"
  case b_range=>walk_at"fn"
  case g_NO_NAMES=>refine' L3.P2 KX G ?NO_NAMESa ?NO_NAMESl ?NO_NAMESf ?NO_NAMESz;(case NO_NAMESa=>k_is);(case NO_NAMESl=>k_is);(case NO_NAMESf=>kernel_rfl);(case NO_NAMESz=>kernel_rfl)
  case g_LONGEST_NAME=>walk_at"fg"
  case g_LETTERS=>refine' L3.Dq KX G ?LETTERSa ?LETTERSe;(case LETTERSa=>k_is);(case LETTERSe=>rfl)
  case g_DEEPEST=>walk_at"fg"
  case g_SAYINGS_WITHIN=>refine' L3.Dr KX G ?SAYINGS_WITHINa ?SAYINGS_WITHINl ?SAYINGS_WITHINf;(case SAYINGS_WITHINa=>k_is);(case SAYINGS_WITHINl=>k_is);(case SAYINGS_WITHINf=>kernel_rfl)
  case g_PAST_WORDS=>refine' L3.P2 KX G ?PAST_WORDSa ?PAST_WORDSl ?PAST_WORDSf ?PAST_WORDSz;(case PAST_WORDSa=>k_is);(case PAST_WORDSl=>k_is);(case PAST_WORDSf=>kernel_rfl);(case PAST_WORDSz=>kernel_rfl)
  case g_MOST_LAMPS=>walk_at"fg"
  case g_MOST_PROMISES=>walk_at"fg"
  case g_HIGHEST_PRICE=>walk_at"fg"
  case g_MOST_WISHES=>walk_at"fg"
  case g_MOST_MUSTS=>walk_at"fg"
  case g_MOST_PIECES=>walk_at"fg"
  case c_Table=>walk_at"fc"
  case c_Rules=>walk_at"fc"
  case c_Numbering=>walk_at"fc"
  case a_Table_names=>walk_at"fa"
  case a_Table_pieces=>walk_at"fa"
  case a_Table_rows=>walk_at"fa"
  case a_Table_row_of=>walk_at"fa"
  case a_Table_first_memory=>walk_at"fa"
  case a_Table_remembered_rows=>walk_at"fa"
  case a_Rules_table=>walk_at"fa"
  case a_Rules_promise_rows=>walk_at"fa"
  case a_Rules_must_rows=>walk_at"fa"
  case a_Rules_priced_rows=>walk_at"fa"
  case a_Numbering_met=>walk_at"fa"
  case a_Numbering_numbers_met=>walk_at"fa"
 case F0=>walk_at"ft"
 case F1=>walk_at"ft"
 case F2=>walk_at"ft"
 case F3=>walk_at"ft"
 case F4=>walk_at"ft"
 case F5=>walk_at"ft"
 case F6=>walk_at"ft"
 case F7=>walk_at"ft"
 case F8=>walk_at"ft"
 case F9=>walk_at"ft"
 case F10=>walk_at"ft"
 case F11=>walk_at"ft"
 case F12=>walk_at"ft"
 case F13=>walk_at"ft"
 case F14=>walk_at"ft"
 case F15=>walk_at"ft"
 case F16=>walk_at"ft"
 case F17=>walk_at"ft"
 case F18=>walk_at"fi"
 case F19=>walk_at"fm"
 case F20=>walk_at"fm"
 case F21=>walk_at"fm"
 case F22=>walk_at"fm"
 case F23=>walk_at"fm"
 case F24=>walk_at"fi"
 case F25=>walk_at"fm"
 case F26=>walk_at"fm"
 case F27=>walk_at"fm"
 case F28=>walk_at"ft"
 case F29=>walk_at"fi"
 case F30=>walk_at"fm"
 case F31=>walk_at"ft"
 case F32=>walk_at"ft"
 case F33=>walk_at"ft"
 case F34=>walk_at"ft"
 case F35=>walk_at"ft"
 case F36=>walk_at"ft"
 case F37=>walk_at"ft"
 case F38=>walk_at"ft"
 case F39=>walk_at"ft"
 case F40=>walk_at"ft"
 case F41=>walk_at"ft"
 case F42=>walk_at"ft"
 case F43=>walk_at"ft"
 case F44=>walk_at"ft"
 case F45=>walk_at"ft"
 case F46=>walk_at"ft"
 case F47=>walk_at"ft"
 case F48=>walk_at"ft"
 case F49=>walk_at"ft"
 case F50=>walk_at"ft"
