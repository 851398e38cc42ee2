import PyProof.Rows.All
import Wide.All
import OpenK.AllK
import Wide.FinOn
import Lean
import PyProof.EqAt
import PyProof.EqKinds
import PyProof.TupleCall
import PySem.Challenge.RW_leastloss_k20_whole_lesser
open PySem.W renaming Frag→aa, findIn→ez, keepIn→fe, kia_one→gk, emptyDict→gv, fnOf→ig, nsIn→iu, instObj→jf, plainGet→ki, codeIn→kj, mg_of→ly, hasDictIn→lz, kla_obj→n4, callWith_K→n6, plainOver→ot, codeHdIn→pq, plainGet_of→qq, isFn→qv, envX→qy, lookIn→rh, methodObj→sv, kitx_bool→tm, cellsFrom_some→uw, takerIn→ve, makesIn→vf, methodCall_KW→vn, codeHd_of_K→xj, handedIn→zj, kitx_int→zp, kitx_str→zq, kitOne→Rc, tabObj→Rj, OpenLaw→Tr
open List renaming length_map→ab, getElem?_eq_getElem→aj, size_toArray→ao, map_cons→aq, replicate→ay, length_cons→a9, range→bb, getElem?_map→be, mem_of_getElem?→bf, length_append→bg, length_nil→bh, mem_singleton→bw, nil_append→b7, map_append→b9, not_mem_nil→cb, mem_cons_of_mem→cg, mem_cons→cu, lookup_cons→c5, getElem?_append_left→c9, mem_cons_self→de, set_cons_zero→di, getD→dm, getElem?_append_right→du, getElem?_replicate→dw, set_cons_succ→eh, drop_eq_getElem_cons→e8, append_nil→fh, mem_append_right→fu, length_range→fw, getElem_mem→gp, lookup→gy, any_cons→iq, getElem?_set_ne→i5, reverse_cons→jd, replicate_succ→jj, getElem?_range→jm, range_succ_eq_map→jo, zip_cons_cons→j0, getElem?_eq_none→j3, of_mem_zip→j7, getElem?_cons_succ→km, cons_append→kq, getElem?_set_self→kr, drop_eq_nil_of_le→lp, idxOf_cons→lx, flatten_cons→l4, mem_append_left→l9, map_nil→mi, map_map→mn, prefix_refl→mo, getElem?_cons_zero→om, any_map→oz, length_replicate→pf, length_take→pj, foldl→pk, all_eq_true→pw, all_cons→p9, map→qd, getElem?_of_mem→qf, foldl_cons→qh, range_succ→qk, filterMap_cons→qo, length_reverse→qs, getElem_of_mem→qt, drop_zero→rz, getElem?_eq_some_iff→sh, extract_eq_take_drop→si, any_eq_false→td, nodup_append→tu, length_drop→ug, all_map→u6, forIn_cons→vg, length_singleton→vp, dropLast_eq_take→vq, length→v7, forIn_nil→wj, range'→wt, drop_succ_cons→xf, flatMap_append→xk, map_congr_left→xn, contains_cons→yf, map_replicate→yg, lookup_append→yi, prefix_append→yj, append_assoc→yt, isEmpty_cons→yv, flatMap_cons→zd, ext_getElem?→ze, idxOf_append→zg, foldl_append→zh, isEmpty_iff→zm, isEmpty_nil→zv, mem_flatMap→zw, length_set→Qk, mem_append→Qo, mem_map→Sk, map_id→Ti
open PySem renaming wpAny_bind→ae, Value→af, Shared→ah, starEach→ai, wpAny_pure→ak, Program→br, Around→cp, mainGlobals→cw, bootBuiltins→cz, wpAny_ite_split→c7, World→dg, backTo→dh, Spec→dr, wpAny_Call_Name_kw→dt, builtinLookup_eq_fast→ek, assignEach→e9, wpAny_call_entry→fk, wpAny_newObj_type→fv, wpAny_callSpecial?_slot→fy, wpAny_field→f6, rawInt→gd, attributeBase→gh, wpAny_holding→gq, intKind→gr, foldedSetIterable→gu, FuncData→gw, mem_of_lookup→gx, typeLookup_type→gz, binaryOp→i9, wpAny_truthy_bool→jc, wpAny_isNot_other→je, sizeLine_eq→jr, wpAny_mono→jw, isSubtype_type→j1, wpAny_passesOwn→j6, wpAny_specialOf→j8, keywordEach→kc, wpAny_of_eq→ke, holding→kg, tupleKind→kh, wpAny_is_other→kl, codeAny→ku, codeAny_mono→kx, wpAny_pyIter_tuple→lh, wpAny_setField_rec→lq, sysModules→l8, wpAny_seqItems→md, swapsWith→mf, wpAny_isInstance→mj, assign→mv, behindInMarks→nr, call_meets→n9, sliceBounds→oj, standAt→oq, backToKw→ou, wpAny_setField→pe, wpAny_standAt→px, swapsWithSole→p0, swappedStores→p8, wpAny_attempt→qa, letOwnedTupleGo→qg, wpAny_updateSeq→qi, codeAny_builtin→qj, Keyword→qw, PassesOwn→qz, pyNext→rg, typeLookup→rl, wpAny_rule→r6, firstArgMember→r8, wpAny_binaryOp_repeat_ref→sd, wpAny_sequenceKey→tj, wpAny_comprehension_free→tz, compareOp→ub, getMethod→uc, NameKind→ue, noFill_tuple_add→uf, scanBound→uq, wpAny_call→uu, IsPart→uy, getItem→uz, wpAny_typeOf→u0, wpAny_Call_method_late→u1, wpAny_execs_nil→vc, wpAny_isTrue_Compare1→vy, pyIter→vz, callWith→v5, seqIndex_of→wa, wpAny_newFunctionEnv→wk, cLine→wo, IsPair→wx, wpAny_updateSeq_pair→wy, spliced→w5, callerA→w8, seq_tuple_add→xo, signature?_of→xv, builtinsNs→xy, typeIs_int→ye, closureFor→yh, Within→yk, wpAny_assign_Name→ym, BindsTo→yp, concat_meets→yq, seqIndex_neg→yr, slot_dict_getitem→yx, wpAny_pyIter_list→yz, lastMarks→zo, entryFor_of_tree→zr, wpAny_pyIter_zip→zu, wpAny_letGo→Qh, wpAny_mkInt→Qi, codeAny_of_tree→Qm, setItem→Qr, ItemsOf→Qt, GenState→Qu, isTrue→Qv, wpAny_Name→Qw, bindArgs→Qx, fitsIndex_both→Qz, PyData→Ra, callType_codes→Rf, argsOk→Rg, isSubtype_stop→Rh, defaultsOf→Ri, rangeSize_one→Rl, intBits_le_64→Rm, evalPart_none→Rn, call_list_seq→Rp, wpAny_handled→Rq, wpAny_onRaise→Rt, cellsFrom→Rx, updateSeq→Rz, Paired→Sa, call_range_1→Sb, Result→Sd, newExc→Sg, raiseNew→Sw, compPost→Ta, entryFor→Tb, truthy→Tj, typeOf→Tn, BoolOp→To, release→Tp, getAttr→Tq
open PySem.Heap renaming get?_push_of_some→ag, get?_push_size→aw, lt_size→bc, size_push→ff, get?_update_other→f9, get?_update_self→gg, SameBut→j9, ExtBut→Qj, IsTuple→Sj
open Bool renaming and_eq_true→ar, false_eq_true→az, and_false→cq, eq_iff_iff→dy, and_self→fq, false_ne_true→g9, false_and→i7, or_eq_true→jh, not_true→ju, true_and→nq, and_true→nz, not_false→ox, or_false→xq, and_assoc→Rb, or_self→Sl
open Nat renaming le_refl→av, lt_of_lt_of_le→bq, le_trans→bu, ne_of_lt→bz, zero_le→cx, lt_irrefl→fj, pow_le_pow_right→f7, lt_succ_self→gm, lt_succ_of_lt→kd, blt→l6, le_of_lt→me, ne_of_gt→mh, zero_add→qx, lt_of_le_of_lt→rp, add_sub_cancel_left→uh, le_max_right→ur, le_max_left→vj, add_min_add_right→vw, mul_le_mul→we, add_left_cancel→xi, mul_comm→yu, pow_succ→zc, le_of_not_lt→zl, succ_le_succ→zx, div_eq_of_lt→zy, le_succ→z9, mul_add_div→Qq, le_of_eq→Se, succ_mul→Sf, lt_trans→Si
open Option.some renaming inj→cy, injEq→zf
open PyProof.Rows renaming callWith_type1→dq, slot_tuple_getitem→gV, subscriptTail_builtinR→ky, envOfC→mz, AllBare→sy, foldl_rep→w6, entry_tuple_getitem→w9, tupleItemsOf_→xp, args_tuple_getitem→yc, IntsAre→Qs, slicePart_none→Qy, subscriptTail→Ro, len_tuple→Rv
open Option renaming map_eq_some_iff→dz, getD_some→kn, getD_none→zk, map_some→Qp
open False renaming elim→d5
open PySem.Builtin.List renaming listTooLong→d7, listExtendWith→jq, listLengthHint→l5, listSameRef→t4, listItems→vb
open True renaming intro→fz
open PySem.Value renaming type→gb, ref→gf, none→g6, bool→rb, isInt→su, str→zi, int→Ru, bytes→Sm, float→Sn
open PySem.Builtin.Tuple renaming tupleExact→gj, tupleItemsOf→jy, tupleTooMany→rq, tupleIsExact→r0
open PySem.Around renaming in1_units→h9, under_plainId→qe, frames_deeper→v8, under→yn
open PySem.Str renaming ofString→ik, length→kf, empty→Rw
open PyProof.Rows.F renaming plain_set_update_loop→jk, entry_set_update_loop→nh
open Ne renaming symm→jn
open PySem.Calls renaming spliced_cons→jx, callWith_builtin→kz, spliced_nil→l0, evalArgs_plain→qb, Name_function_global→rf
open PySem.Obj renaming mapSeq→jz, data_mapFields→j2, isFreed_of_fields→ph, mapFields→xw, cls_mapFields→y9
open PySem.Builtin.Slice renaming slicePlaces→j4, sliceAdjust→mq, sliceApplied→rj
open PySem.Builtin.SmallTypes renaming nextOf→j5, ownedTupleHandOut→nj, ownedTupleIsFree→ny
open List.cons renaming injEq→lu
open Array renaming length_toList→mr, getElem?_eq_getElem→sk, toList_extract→wg, toList→yl
open PySem.Heap.SameBut renaming update→ng
open PySem.F renaming args_tuple_add_2→nk, entry_tuple_add→oi, plainAttrs_list→oo, slot_tuple_add→ow, slot_tuple_iterator_next→r9, slot_tuple_index→ua, slot_list_index→uj, slot_int_rmul→vt, args_list_extend_2→wb, plain_reversed_new→wq, entry_list_extend→xb, plain_extend_loop→xg, slot_list_extend→yd, slot_int_rmul→Ql, slot_zip_next→Qn
open PySem.NameKind renaming free→nv, cell→xt
open ForInStep renaming yield→n5
open Int renaming emod_lt_of_pos→og, emod_nonneg→ql, toNat_of_nonneg→qr, toNat_natCast→tq, le_refl→Th
open PySem.Builtin.Str renaming occurrences→oh, subAt→yw
open Function renaming comp_def→oy
open PyProof.Rows.KTD renaming datumAt→qc, flatLooks→tw, tabLook→wc
open PySem.AutoSeq1 renaming wpAny_loadPart'→tx
open PyProof.Rows.KTD.Dat renaming flat→va
open PySem.PassesOwn renaming never→vh
open Sum renaming inl→wz, inr→w4
open Prod.mk renaming injEq→xx
open PySem.Code renaming isFrame→yo, frames→Ss
open Std.Legacy renaming Range→zt
open PySem.Paired renaming length→Rk
open PySem.Shared renaming TypeIs→Rr, heap→Te
open PySem.SeqAt.EqAt renaming same→Ry, of_refs→Sh
open PySem.IsRange renaming new→Sr
open Prod renaming ext→Su
open PySem.Walks renaming tuple→Sz
open PySem.SeqAt renaming str_beq→Ts
set_option Elab.async false
set_option tactic.hygienic false
set_option genSizeOf false
set_option bootstrap.genMatcherCode false
set_option compiler.extract_closed false
set_option linter.all false
set_option maxRecDepth 100000
set_option maxHeartbeats 4000000
section
namespace L2
open PySem PySem.Spec PyProof.Rows
noncomputable abbrev Key:=Sum Int Str
noncomputable def VR:Key->af->Bool
 |.inl k,v=>su k v
 |.inr x,v=>Value.isStrOf x v
noncomputable def My (w:dg):Key->Int
 |.inl k=>hashInt k
 |.inr x=>hashStr w x
theorem fV:∀{k:Key}{v:af},VR k v=true->(∃ i t,k=wz i/\v=Ru i t)∨(∃ x t,k=w4 x/\v=zi x t)
 |.inl i,v,h=>by
  obtain⟨t,e⟩:=Value.isInt_shape (k:=i) (v:=v) h
  exact .inl ⟨i,t,rfl,e⟩
 |.inr x,v,h=>by
  obtain⟨t,e⟩:=Value.isStrOf_shape (x:=x) (v:=v) h
  exact .inr ⟨x,t,rfl,e⟩
theorem Aa (a b:Int):decide ((wz a:Key)=wz b)=(a==b):=by
 by_cases e:a=b
 ·subst e;simp
 ·have h:¬(wz a:Key)=wz b:=fun q=>e (Sum.inl.inj q)
  rw[decide_eq_false h]
  exact(beq_eq_false_iff_ne.mpr e).symm
theorem Et (a b:Str):decide ((w4 a:Key)=w4 b)=decide (a=b):=by
 by_cases e:a=b
 ·subst e;simp
 ·have h:¬(w4 a:Key)=w4 b:=fun q=>e (Sum.inr.inj q)
  rw[decide_eq_false h,decide_eq_false e]
theorem Cy (a:Int)(b:Str):decide ((wz a:Key)=w4 b)=false:=decide_eq_false (fun q=>nomatch q)
theorem Cu (a:Str)(b:Int):decide ((w4 a:Key)=wz b)=false:=decide_eq_false (fun q=>nomatch q)
noncomputable def DL (prog:br)(w:dg):PySem.KeyKind prog w Key where
 is:=VR
 hash:=My w
 inj:=fun v a b ha hb=>by
  rcases fV ha with⟨i,t,rfl,rfl⟩|⟨x,t,rfl,rfl⟩
  ·rcases fV hb with⟨j,u,rfl,e⟩|⟨y,u,rfl,e⟩
   ·injection e with e1 _;rw[e1]
   ·exact nomatch e
  ·rcases fV hb with⟨j,u,rfl,e⟩|⟨y,u,rfl,e⟩
   ·exact nomatch e
   ·injection e with e1 _;rw[e1]
 byValue:=fun k v h=>by
  rcases fV h with⟨i,t,rfl,rfl⟩|⟨x,t,rfl,rfl⟩<;>rfl
 pyHash:=fun hv h=>by
  rcases fV hv with⟨i,t,rfl,rfl⟩|⟨x,t,rfl,rfl⟩
  ·exact wpAny_pyHash_int h
  ·exact wpAny_pyHash_str h
 eqBool:=fun hu hv h=>by
  rcases fV hu with⟨i,t,rfl,rfl⟩|⟨x,t,rfl,rfl⟩
  ·rcases fV hv with⟨j,u,rfl,rfl⟩|⟨y,u,rfl,rfl⟩
   ·rw[Aa]at h;exact wpAny_eqBool_int h
   ·rw[Cy]at h;exact SeqAt.EqAt.int_str i t y u _ _ _ _ h
  ·rcases fV hv with⟨j,u,rfl,rfl⟩|⟨y,u,rfl,rfl⟩
   ·rw[Cu]at h;exact SeqAt.EqAt.str_int x t j u _ _ _ _ h
   ·rw[Et]at h;exact wpAny_eqBool_str h
 «strs»:=fun k x t v h=>by
  rcases fV h with⟨i,u,rfl,e⟩|⟨y,u,rfl,e⟩
  ·exact nomatch e
  ·injection e with e1 _
   subst e1
   cases v<;>rfl
end L2
namespace L2
open PySem PySem.Spec PyProof.Rows
inductive V where
 |non|bl (b:Bool)|int (i:Int)|str (x:Str)|byt (b:Array UInt8)|flt (b:UInt64)|ref (a:Addr)|ty (n:String)
 deriving DecidableEq
def RelV:V->af->Prop
 |.non,u=>u=g6
 |.bl b,u=>u=rb b
 |.int i,u=>∃ t,u=Ru i t
 |.str x,u=>∃ t,u=zi x t
 |.byt b,u=>∃ t,u=Sm b t
 |.flt b,u=>∃ t,u=Sn b t
 |.ref a,u=>u=gf a
 |.ty n,u=>u=gb n
abbrev aO:List V->List af->Prop:=Sa RelV
theorem aO.length {xs:List V}{us:List af}(r:aO xs us):xs.length=us.length:=Rk r
theorem aO.get:∀{xs:List V}{us:List af}{i:Nat}{x:V},aO xs us->xs[i]? = some x->∃ u,us[i]? = some u/\RelV x u
 |_,_,_,_,.nil,e=>by simp at e
 |_,_,0,_,.cons r _,e=>by simp at e;subst e;exact⟨_,rfl,r⟩
 |_,_,i+1,x,.cons _ t,e=>by
  obtain⟨u,h1,h2⟩:=aO.get (i:=i) (x:=x) t (by simpa using e)
  exact⟨u,by simpa using h1,h2⟩
theorem aO.set {x:V}{u:af}(r:RelV x u):∀{xs:List V}{us:List af}(i:Nat),aO xs us->aO (xs.set i x) (us.set i u)
 |_,_,_,.nil=>.nil
 |_,_,0,.cons _ t=>.cons r t
 |_,_,i+1,.cons q t=>.cons q (aO.set r i t)
theorem aO.append:∀{xs ys:List V}{us ws:List af},aO xs us->aO ys ws->aO (xs++ys) (us++ws)
 |_,_,_,_,.nil,s=>s
 |_,_,_,_,.cons r t,s=>.cons r (aO.append t s)
theorem aO.take:∀{xs:List V}{us:List af}(n:Nat),aO xs us->aO (xs.take n) (us.take n)
 |_,_,0,_=>.nil
 |_,_,_+1,.nil=>.nil
 |_,_,n+1,.cons r t=>.cons r (aO.take n t)
theorem aO.drop:∀{xs:List V}{us:List af}(n:Nat),aO xs us->aO (xs.drop n) (us.drop n)
 |_,_,0,r=>r
 |_,_,_+1,.nil=>.nil
 |_,_,n+1,.cons _ t=>aO.drop n t
def rG:Option V->Option af->Prop
 |some v,some u=>RelV v u
 |none,none=>True
 |_,_=>False
def KV {κ:Type}:List (κ×V)->List (κ×Value)->Prop:=Sa fun(p:κ×V)(q:κ×Value)=>p.1=q.1/\RelV p.2 q.2
noncomputable def kV:Key->V
 |.inl i=>.int i
 |.inr x=>.str x
inductive HO where
 /-- a list -/
 |lst (xs:List V)
 /-- a tuple (never changes) -/
 |tup (xs:List V)
 /-- a dict whose keys are ints and texts; one whose keys are tuples of ints and texts (the empty one is both) -/
 |dK (gY:List (Key×V))|dT (gY:List (List Key×V))
 /-- a set of ints: aD members, aD size -/
 |set (S:Int->Bool)(n:Nat)
 /-- an instance of the class at C, aD dict at dx, aD attributes -/
 |ins (C dx:Addr)(fs:List (Str×V))
 /-- the dict of the instance at x -/
 |own (x:Addr)
 /-- the dict of an exception -/
 |xd (fs:List (Str×V))
 /-- a bound method, f of x -/
 |met (f x:Addr)
 /-- a range object lo, lo + 1, .. below hi -/
 |rng (lo hi:Int)
 /-- a thing that is known to the object (the script; a dict while a loop walks it): read, never written while it is so -/
 |frz (o:Obj)(u:HO)
 /-- a code object's table -/
 |tbl (ps:Array af)
 /-- any other thing, by what is true of aD one object (a def of one's own: SetO a S n := HO.ext fun h => ..) -/
 |ext (φ:br->dg->Heap->Prop)
noncomputable abbrev Hp:=Addr->Option HO
noncomputable def upd (H:Hp)(a:Addr)(o:HO):Hp:=fun b=>if b=a then some o else H b
theorem cS {H:Hp}{a:Addr}{o:HO}:upd H a o a=some o:=by unfold upd;rw[if_pos rfl]
theorem bA {H:Hp}{a b:Addr}{o:HO}(h:b≠a):upd H a o b=H b:=by unfold upd;rw[if_neg h]
theorem MI {H:Hp}{a b:Addr}{o u:HO}(h:H a=some o)(h':H b=some u)(d:o≠u):a≠b:=by
 intro e;subst e;rw[h]at h';exact d (cy h')
theorem hX {H:Hp}{a b:Addr}{o:HO}(h:H a=some o)(h':H b=none):a≠b:=by
 intro e;subst e;rw[h]at h';cases h'
def nD (h:Heap)(a:Addr)(aD:Array af):Prop:=∃ o,h.get? a=some o/\o.cls=.type "tuple" /\ (∃ n,o.data=.seq aD n)/\o.dict=none
theorem nD.tup {h:Heap}{a:Addr}{aD:Array af}:nD h a aD->IsTup h a aD:=fun⟨o,e,c,d,_⟩=>⟨o,e,c,d⟩
theorem nD.lt {h:Heap}{a:Addr}{aD:Array af}(x:nD h a aD):a<h.objs.size:=x.tup.lt
theorem nD.new (h:Heap)(items:Array af):nD (h.push { cls:=.type "tuple", data:=.seq items }) h.objs.size items:=⟨_,aw _ rfl,rfl,⟨_,rfl⟩,rfl⟩
section
variable (P:br)(w:dg)
def jF (H:Hp)(h:Heap)(a:Addr):HO->Prop
 |.lst xs=>xs.length<=sizeLine/\∃(aD:List af)(n:Nat),aO xs aD/\h.get? a=some { cls:=.type "list", data:=.seq aD.toArray n }
 |.tup xs=>xs.length<=sizeLine/\∃ aD:List af,aO xs aD/\nD h a aD.toArray
 |.dK gY=>gY.length<=sizeLine/\(a==l8)=false/\∃ vs,KV gY vs/\h.DictOf (DL P w) a vs
 |.dT gY=>gY.length<=sizeLine/\(a==l8)=false/\∃ xs:List (List Key×Addr×Value),
  Sa (fun(p:List Key×V)(q:List Key×Addr×Value)=>p.1=q.1/\H q.2.1=some (.tup (p.1.map kV))/\RelV p.2 q.2.2) gY xs /\
  ∃ o es ep,h.get? a=some o/\o.ExactDict/\o.data=.dict es ep/\es.toList=xs.map (entryOfKey (kh (DL P w)))/\(xs.map (·.1)).Nodup
 |.set S n=>h.SetOf (gr P w) a S n
 |.ins C dx fs=>H dx=some (.own a)/\fs.length<=1000/\dx≠a/\h.get? a=some (jf C dx) /\
  ∃ mA,h.Ns1 dx mA/\(∀ f,rG (fs.lookup f) (mA f))/\yk mA (fs.map (·.1))
 |.own _=>∃ o,h.get? a=some o
 |.xd fs=>∃ mA,h.Ns1 a mA/\∀ f,rG (fs.lookup f) (mA f)
 |.rng lo hi=>∃ t u v,h.get? a=some { cls:=.type "range", data:=.fields #[.int lo t,.int hi u,.int 1 v] }
 |.frz o u=>h.get? a=some o/\jF H h a u
 |.tbl ps=>h.get? a=some { cls:=.none,data:=.fields ps }
 |.met f x=>h.get? a=some (sv (.ref f) (.ref x))
 |.ext φ=>φ P w h/\(∃ o,h.get? a=some o)/\∀ h1 h2:Heap,φ P w h1->(∀ o,h1.get? a=some o->h2.get? a=some o)->φ P w h2
def gQ (H:Hp)(h:Heap):Prop:=∀ a o,H a=some o->jF P w H h a o
end
section
variable {P:br}{w:dg}{H H':Hp}{h h':Heap}{a:Addr}{o:HO}
theorem jF.lt (x:jF P w H h a o):a<h.objs.size:=by
 cases o with
 |lst xs=>obtain⟨_,_,_,_,e⟩:=x;exact bc e
 |tup xs=>obtain⟨_,_,_,p⟩:=x;exact p.lt
 |dK gY=>obtain⟨_,_,_,_,o,_,_,e,_⟩:=x;exact bc e
 |dT gY=>obtain⟨_,_,_,_,o,_,_,e,_⟩:=x;exact bc e
 |set S n=>obtain⟨o,_,_,_,e,_⟩:=x;exact bc e
 |ins C dx fs=>obtain⟨_,_,_,e,_⟩:=x;exact bc e
 |own y=>obtain⟨_,e⟩:=x;exact bc e
 |xd fs=>obtain⟨_,⟨_,_,_,e,_⟩,_⟩:=x;exact bc e
 |rng lo hi=>obtain⟨_,_,_,e⟩:=x;exact bc e
 |frz ob u=>obtain⟨e,_⟩:=x;exact bc e
 |tbl ps=>exact bc (show h.get? a=some _ from x)
 |met f y=>exact bc (show h.get? a=some _ from x)
 |ext φ=>obtain⟨_,⟨_,e⟩,_⟩:=x;exact bc e
theorem Paired.Bd {α β:Type}{F G:α->β->Prop}:∀{l₁:List α}{l₂:List β},Sa F l₁ l₂->(∀ a b,F a b->G a b)->Sa G l₁ l₂
 |_,_,.nil,_=>.nil
 |_,_,.cons r t,f=>.cons (f _ _ r) (Paired.Bd t f)
theorem jF.nF (x:jF P w H h a o)(k:∀ b u,(b=a∨H b=some (.own a))->h.get? b=some u->h'.get? b=some u)
 (ho:∀ b,H b=some (.own a)->H' b=some (.own a))(ht:∀ b xs,H b=some (.tup xs)->H' b=some (.tup xs)):jF P w H' h' a o:=by
 induction o with
 |lst xs=>obtain⟨z,aD,n,r,e⟩:=x;exact⟨z,aD,n,r,k _ _ (.inl rfl) e⟩
 |tup xs=>obtain⟨z,aD,r,ob,e,c⟩:=x;exact⟨z,aD,r,ob,k _ _ (.inl rfl) e,c⟩
 |dK gY=>obtain⟨z,y,vs,r,ob,es,ep,e,c⟩:=x;exact⟨z,y,vs,r,ob,es,ep,k _ _ (.inl rfl) e,c⟩
 |dT gY =>
 obtain⟨z,y,xs,r,ob,es,ep,e,c⟩:=x
 exact⟨z,y,xs,Paired.Bd r fun p q z=>⟨z.1,ht _ _ z.2.1,z.2.2⟩,ob,es,ep,k _ _ (.inl rfl) e,c⟩
 |set S n=>obtain⟨ob,es,ep,t,e,c⟩:=x;exact⟨ob,es,ep,t,k _ _ (.inl rfl) e,c⟩
 |ins C dx fs =>
 obtain⟨d,z,ne,e,mA,⟨od,es,ep,e2,c⟩,r⟩:=x
 exact⟨ho _ d,z,ne,k _ _ (.inl rfl) e,mA,⟨od,es,ep,k _ _ (.inr d) e2,c⟩,r⟩
 |own y=>obtain⟨ob,e⟩:=x;exact⟨ob,k _ _ (.inl rfl) e⟩
 |xd fs=>obtain⟨mA,⟨od,es,ep,e,c⟩,r⟩:=x;exact⟨mA,⟨od,es,ep,k _ _ (.inl rfl) e,c⟩,r⟩
 |rng lo hi=>obtain⟨t,u,v,e⟩:=x;exact⟨t,u,v,k _ _ (.inl rfl) e⟩
 |frz ob u ih=>obtain⟨e,q⟩:=x;exact⟨k _ _ (.inl rfl) e,ih q⟩
 |tbl ps =>
 have e:h.get? a=some { cls:=.none,data:=.fields ps }:=x
 show h'.get? a=some { cls:=.none,data:=.fields ps }
 exact k a _ (.inl rfl) e
 |met f y =>
 have e:h.get? a=some (sv (.ref f) (.ref y)):=x
 show h'.get? a=some (sv (.ref f) (.ref y))
 exact k a _ (.inl rfl) e
 |ext φ=>obtain⟨p,⟨o,e⟩,st⟩:=x;exact⟨st _ _ p fun o q=>k _ _ (.inl rfl) q,⟨o,k _ _ (.inl rfl) e⟩,st⟩
theorem gQ.lt (x:gQ P w H h)(e:H a=some o):a<h.objs.size:=(x a o e).lt
theorem gQ.fresh (x:gQ P w H h)(e:h.objs.size<=a):H a=none:=by
 cases q:H a with
 |none=>rfl
 |some u=>exact absurd (bq (x.lt q) e) (fj _)
theorem gQ.kept (x:gQ P w H h)(k:∀ b u,h.get? b=some u->h'.get? b=some u):gQ P w H h':=fun a o e =>
 (x a o e).nF (fun b u _ q=>k b u q) (fun _ q=>q) fun _ _ q=>q
theorem gQ.laid (x:gQ P w H h)(k:∀ b u,h.get? b=some u->h'.get? b=some u)(hp:h.objs.size<=a)(new:jF P w (upd H a o) h' a o):gQ P w (upd H a o) h':=fun b u e=>by
 have hn:=x.fresh hp
 by_cases hb:b=a
 ·subst hb;rw[cS]at e;cases e;exact new
 ·rw[bA hb]at e
  exact(x b u e).nF (fun c v _ q=>k c v q) (fun c q=>by rw[bA (hX q hn)];exact q) fun c xs q=>by rw[bA (hX q hn)];exact q
end
def Rd (H:Hp)(a:Addr)(u:HO):Prop:=H a=some u∨∃ o,H a=some (.frz o u)
theorem Rd.ok {P:br}{w:dg}{H:Hp}{h:Heap}{a:Addr}{u:HO}(r:Rd H a u)(x:gQ P w H h):jF P w H h a u:=by
 rcases r with r|⟨o,r⟩
 ·exact x a u r
 ·obtain⟨_,q⟩:=x a _ r
  exact q
def P8:Option HO->Prop
 |some (.lst _)=>True
 |some (.dK _)=>True
 |some (.dT _)=>True
 |some (.set _ _)=>True
 |some (.ins _ _ _)=>True
 |some (.ext _)=>True
 |_=>False
section
variable {P:br}{w:dg}{H:Hp}{h h':Heap}{x e:Addr}{o':HO}
theorem gQ.write (ok:gQ P w H h)(mu:P8 (H x))(he:e=x∨H e=some (.own x))(k:∀ b u,b≠e->h.get? b=some u->h'.get? b=some u)(heo:∃ u,h'.get? e=some u)
  (new:jF P w (upd H x o') h' x o'):gQ P w (upd H x o') h':=fun b u q=>by
 have nown:∀ c y,H c=some (.own y)->c≠x:=fun c y r z=>by subst z;rw[r]at mu;exact mu
 have ntup:∀ c xs,H c=some (.tup xs)->c≠x:=fun c xs r z=>by subst z;rw[r]at mu;exact mu
 by_cases hb:b=x
 ·subst hb;rw[cS]at q;cases q;exact new
 ·rw[bA hb]at q
  by_cases hbe:b=e
  ·have q':H b=some (.own x):=by
    rcases he with z|z
    ·exact absurd (hbe.trans z) hb
    ·rw[hbe];exact z
   rw[q]at q';cases q'
   obtain⟨v,hv⟩:=heo
   exact⟨v,by rw[hbe];exact hv⟩
  ·refine(ok b u q).nF (fun c v hc r=>k c v ?_ r) (fun c r=>by rw[bA (nown c b r)];exact r) fun c xs r=>by rw[bA (ntup c xs r)];exact r
   rcases hc with rfl|hc
   ·exact hbe
   ·rintro rfl
    rcases he with z|z
    ·exact nown c b hc z
    ·rw[hc]at z;cases z;exact hb rfl
end
structure Un (fs ex:List Addr)(H H':Hp)(h h':Heap):Prop where
 keep:∀ b o,h.get? b=some o->H b=none->b∉fs->b∉ex->h'.get? b=some o
 slot:∀ b o,h.get? b=some o->H b=none->b∈fs->b∉ex->∃ sl,h'.get? b=some { o with slots:=sl }
 free:∀ b o,h.get? b=some o->H b=none->b∉ex->H' b=none
 there:∀ b o,h.get? b=some o->b∉ex->∃ o',h'.get? b=some o'
 qH:∀ b xs,H b=some (.tup xs)->H' b=some (.tup xs)
 mR:∀ b o u,H b=some (.frz o u)->H' b=some (.frz o u)
 oV:∀ b ps,H b=some (.tbl ps)->∃ more,H' b=some (.tbl (ps++more))
section
variable {fs fs' ex ex':List Addr}{H H1 H2:Hp}{h h1 h2 h':Heap}{a x e:Addr}{o:HO}
theorem Un.any (u:Un fs ex H H1 h h1){b:Addr}{ob:Obj}(q:h.get? b=some ob)(n:H b=none)(hx:b∉ex):∃ sl,h1.get? b=some { ob with slots:=sl }:=by
 by_cases hb:b∈fs
 ·exact u.slot b ob q n hb hx
 ·exact⟨ob.slots,u.keep b ob q n hb hx⟩
theorem Un.kept (k:∀ b u,h.get? b=some u->h'.get? b=some u):Un fs ex H H h h' :=
 ⟨fun b ob q _ _ _=>k b ob q,fun b ob q _ _ _=>⟨ob.slots,k b ob q⟩,fun _ _ _ n _=>n,fun b ob q _=>⟨ob,k b ob q⟩,fun _ _ q=>q,fun _ _ _ q=>q,fun _ ps q=>⟨#[],by rw[q];simp⟩⟩
theorem Un.refl:Un fs ex H H h h:=Un.kept fun _ _ q=>q
theorem Un.laid (k:∀ b u,h.get? b=some u->h'.get? b=some u)(hp:h.objs.size<=a)(hn:H a=none):Un fs ex H (upd H a o) h h' where
 keep:=fun b u q _ _ _=>k b u q
 slot:=fun b u q _ _ _=>⟨u.slots,k b u q⟩
 free:=fun b u q n _=>by rw[bA (bz (bq (bc q) hp))];exact n
 there:=fun b u q _=>⟨u,k b u q⟩
 qH:=fun b xs q=>by rw[bA (hX q hn)];exact q
 mR:=fun b u xs q=>by rw[bA (hX q hn)];exact q
 oV:=fun b ps q=>⟨#[],by rw[bA (hX q hn),q];simp⟩
theorem Un.write (mu:P8 (H x))(he:e=x∨H e=some (.own x))(k:∀ b u,b≠e->h.get? b=some u->h'.get? b=some u)(heo:∃ u,h'.get? e=some u):Un fs ex H (upd H x o) h h':=by
 have hx:∀ b,H b=none->b≠x:=fun b n z=>by subst z;rw[n]at mu;exact mu
 have hb:∀ b,H b=none->b≠e:=fun b n z=>by
  subst z
  rcases he with r|r
  ·exact hx b n r
  ·rw[n]at r;cases r
 have hm:∀ b u,H b=some u->¬P8 (some u)->b≠x:=fun b u q nm z=>by subst z;rw[q]at mu;exact nm mu
 refine⟨fun b u q n _ _=>k b u (hb b n) q,fun b u q n _ _=>⟨u.slots,k b u (hb b n) q⟩,fun b u q n _=>by rw[bA (hx b n)];exact n,fun b u q _=>?_,
  fun b xs q=>by rw[bA (hm b _ q fun z=>z)];exact q,fun b u xs q=>by rw[bA (hm b _ q fun z=>z)];exact q,fun b ps q=>⟨#[],by rw[bA (hm b _ q fun z=>z),q];simp⟩⟩
 by_cases hbe:b=e
 ·subst hbe;exact heo
 ·exact⟨u,k b u hbe q⟩
end
noncomputable def VA (h:Heap)(H:Hp):List Addr:=(bb h.objs.size).filter fun a=>(H a).isSome
noncomputable def rQ (h:Heap)(H:Hp):Heap:=PySem.W.hideAll h (VA h H)
theorem Q7 (h:Heap)(H:Hp):(rQ h H).objs.size=h.objs.size:=PySem.W.hideAll_size _ _
theorem S7 {h:Heap}{H:Hp}{b:Addr}{o:Obj}(e:h.get? b=some o)(n:H b=none):(rQ h H).get? b=some o :=
 PySem.W.hideAll_get _ e fun hm=>by
 have q:(H b).isSome=true:=(List.mem_filter.mp hm).2
 rw[n]at q;simp at q
theorem ZC {h:Heap}{H:Hp}{b:Addr}{o:Obj}(e:(rQ h H).get? b=some o):h.get? b=some o/\H b=none:=by
 have e':h.get? b=some o:=PySem.W.of_hideAll (VA h H) e
 refine⟨e',?_⟩
 cases q:H b with
 |none=>rfl
 |some x =>
 have hm:b∈VA h H:=List.mem_filter.mpr ⟨List.mem_range.mpr (bc e'),by simp [q]⟩
 have z:(rQ h H).get? b=none:=PySem.W.hideAll_none (VA h H) hm
 rw[z]at e;cases e
noncomputable def W5 (g h:Heap)(L:Addr):List (Addr×Obj):=(bb h.objs.size).filterMap fun a=>if a=L∨(g.get? a).isSome=true then none else(h.get? a).map fun o=>(a,o)
noncomputable def rest (g h:Heap)(L d:Addr):List (Addr×Obj):=(W5 g h L).filter fun p=>decide (p.1≠d)
end L2
namespace L2
open PySem PySem.Spec PyProof.Rows
structure Mod (K:aa)(mg:Str->Option af)(base:Heap):Prop where
 kK:K.In base
 glob:base.Ns cw mg
 blt:∃ mb,base.Ns xy mb/\∀ x:Str,x ≠"__name__" -> mb x=cz x
 nolimit:base.NoLimit
structure Cx where
 prog:br
 w:dg
 K:aa
 mg:Str->Option af
 base:Heap
 A:cp
 N:List Str
 s₀:ah
 H₀:Hp
 env:Env
 outer:List Env
 stack:List Env
 ex:List Addr
 fn:Str->Bool
 calm:Bool
 pn:List (Addr×Obj)
 xe:af->ah->Prop
noncomputable def tB (l:List Env):List Addr:=l.filterMap (·.frame)
noncomputable abbrev Cx.fs (X:Cx):List Addr:=tB X.outer
def U9 (sc:Scope)(x:Str):Prop:=sc.names.lookup x=some .local∨sc.names.lookup x=some .cell∨sc.names.lookup x=some .free
def Loc (sc:Scope)(x:Str):Prop:=sc.names.lookup x=some .local∨sc.names.lookup x=some .cell
def Look (env:Env)(h:Heap)(m:Str->Option af)(x:Str)(u:af):Prop :=
 (env.kindOf x=some .local/\m x=some u)∨((env.kindOf x=some .cell∨env.kindOf x=some .free)/\∃ c,env.cells.lookup x=some c/\h.IsCell c (some u))
structure Cx.Ok (X:Cx):Prop where
 mod:Mod X.K X.mg X.base
 kind:X.env.scope.kind=.function
 glob:X.env.globals=cw
 blt:X.env.builtins=xy
 above:X.s₀.heap.objs.size<=X.env.locals
 inj:∀ x y c,X.env.cells.lookup x=some c->X.env.cells.lookup y=some c->x=y
 has:∀ x,(X.env.kindOf x=some .cell∨X.env.kindOf x=some .free)->∃ c,X.env.cells.lookup x=some c
 cab:∀ x c,X.fn x=true->X.env.cells.lookup x=some c->X.s₀.heap.objs.size<=c
 hd:X.calm=true->X.A.handled=none
 frames:X.A.frames=some X.stack
 stk:X.stack=X.outer∨(X.stack=X.env::X.outer/\X.env.frame=some X.env.locals)
 exf:∀ b∈X.ex,b≠X.env.locals/\∀ x c,X.env.cells.lookup x=some c->c≠b
 bs:∀ b o,X.base.get? b=some o->X.s₀.heap.get? b=some o/\X.H₀ b=none
 bsz:X.base.objs.size<=X.s₀.heap.objs.size
 noex:∀ b o,X.base.get? b=some o->b∉X.ex
 exfs:∀ b∈X.ex,b∉X.fs
 kO:X.s₀.heap.FunFrames X.base X.outer
 frf:∀ b∈X.fs,X.H₀ b=none
structure Inv (X:Cx)(pz:List (Addr×Obj))(σ:List (Option V))(H:Hp)(s:ah):Prop where
 ok:X.Ok
 os:s.os=X.s₀.os
 bare:sy s.gens
 base:Un X.fs X.ex X.H₀ H X.s₀.heap s.heap
 loc:∃ m,s.heap.Ns X.env.locals m/\∀(i:Nat)(x:Str)(v:V),X.N[i]? = some x->σ[i]? = some (some v)->U9 X.env.scope x->∃ u,RelV v u/\Look X.env s.heap m x u
 cell:∀ x c,X.env.cells.lookup x=some c->∃ v,s.heap.IsCell c v
 free:H X.env.locals=none
 jT:∀ x c,X.env.cells.lookup x=some c->H c=none
 pin:∀ p∈X.pn++pz,s.heap.get? p.1=some p.2/\H p.1=none/\p.1≠X.env.locals/\p.1∉X.fs/\∀ v,p.2.data≠.cell v
 bN:gQ X.prog X.w H s.heap
 len:σ.length=X.N.length
section
variable {X:Cx}{pz:List (Addr×Obj)}{σ:List (Option V)}{H H':Hp}{s:ah}{h':Heap}
theorem Cx.Ok.Ng (ok:X.Ok){b:Addr}{o:Obj}(e:X.base.get? b=some o):b∉X.fs:=fun hb=>by
 have:=(ok.kO.mem hb).1
 rw[e]at this;cases this
theorem Inv.bs (I:Inv X pz σ H s):∀ b o,X.base.get? b=some o->s.heap.get? b=some o/\H b=none:=fun b o e =>
 ⟨I.base.keep b o (I.ok.bs b o e).1 (I.ok.bs b o e).2 (I.ok.Ng e) (I.ok.noex b o e),I.base.free b o (I.ok.bs b o e).1 (I.ok.bs b o e).2 (I.ok.noex b o e)⟩
theorem Inv.bk (I:Inv X pz σ H s):∀ b o,X.base.get? b=some o->s.heap.get? b=some o:=fun b o e=>(I.bs b o e).1
theorem Inv.mod (I:Inv X pz σ H s):Mod X.K X.mg X.base:=I.ok.mod
theorem Inv.iN (I:Inv X pz σ H s):X.K.In s.heap:=I.ok.mod.kK.keeps I.bk
theorem Inv.fr (I:Inv X pz σ H s):∃ m,Fr X.base X.env.locals s.heap m :=
 let⟨m,hn,_⟩:=I.loc
 ⟨m,hn,I.bk,bu I.ok.bsz I.ok.above⟩
theorem Inv.lt (I:Inv X pz σ H s):X.env.locals<s.heap.objs.size:=let⟨_,hn,_⟩:=I.loc;hn.lt
theorem Inv.sz (I:Inv X pz σ H s):X.s₀.heap.objs.size<=s.heap.objs.size:=bu I.ok.above (me I.lt)
theorem Inv.Cc (I:Inv X pz σ H s){a:Addr}(h:s.heap.objs.size<=a):a∉X.fs:=fun hb=>by
 obtain⟨_,o,ho,_⟩:=I.ok.kO.mem hb
 exact absurd (bq (bc ho) (bu I.sz h)) (fj _)
theorem Inv.ET (I:Inv X pz σ H s):∀ x c,X.env.cells.lookup x=some c->c≠X.env.locals:=fun x c e z=>by
 obtain⟨v,o,ho,hd⟩:=I.cell x c e
 obtain⟨m,⟨o',es,ep,ho',hd',_⟩,_⟩:=I.loc
 rw[z,ho']at ho;cases ho;rw[hd']at hd;cases hd
theorem Inv.kO (I:Inv X pz σ H s):s.heap.FunFrames X.base X.outer:=by
 have all:∀(l:List Env),(∀ b∈tB l,b∈X.fs)->X.s₀.heap.FunFrames X.base l->s.heap.FunFrames X.base l:=by
  intro l
  induction l with
  |nil=>intro _ _;trivial
  |cons env r ih =>
   intro hs hl
   obtain⟨hk,⟨L,o,hf,hn,ho,hd⟩,hr⟩:=hl
   have hL:L∈X.fs:=hs L (by unfold tB;rw[qo,hf];exact de)
   obtain⟨sl,e⟩:=I.base.slot L o ho (I.ok.frf L hL) hL fun z=>I.ok.exfs L z hL
   exact⟨hk,⟨L,_,hf,hn,e,hd⟩,ih (fun b hb=>hs b (by unfold tB;rw[qo,hf];exact cg _ hb)) hr⟩
 exact all X.outer (fun _ hb=>hb) I.ok.kO
theorem Inv.stack (I:Inv X pz σ H s):s.heap.FunFrames X.base X.stack:=by
 rcases I.ok.stk with e|⟨e,hf⟩
 ·rw[e];exact I.kO
 ·rw[e]
  obtain⟨m,hn,_⟩:=I.loc
  refine .cons (by rw[I.ok.kind];decide) hf hn ?_ I.kO
  exact Heap.get?_none_of_le (bu I.ok.bsz I.ok.above)
theorem Inv.BX (I:Inv X pz σ H s):∀ b∈tB X.stack,b∈X.env.locals::X.fs:=fun b hb=>by
 rcases I.ok.stk with e|⟨e,hf⟩
 ·rw[e]at hb;exact cg _ hb
 ·rw[e]at hb
  unfold tB at hb
  rw[qo,hf]at hb
  exact hb
theorem Inv.LG (I:Inv X pz σ H s):∀ b∈tB X.stack,H b=none:=fun b hb=>by
 rcases List.mem_cons.mp (I.BX b hb)with e|hb
 ·rw[e];exact I.free
 ·obtain⟨_,o,ho,_⟩:=I.ok.kO.mem hb
  exact I.base.free b o ho (I.ok.frf b hb) fun z=>I.ok.exfs b z hb
theorem Inv.step {g':Array Qu}{t':Nat}{d':Drawn}{ch:List Addr}(I:Inv X pz σ H s)
  (hch:∀ b∈ch,(b∈X.ex∨X.s₀.heap.objs.size<=b)/\b≠X.env.locals/\(∀ x c,X.env.cells.lookup x=some c->c≠b)/\∀ p∈X.pn++pz,p.1≠b)
  (keep:∀ b o,b≠X.env.locals->b∉X.fs->b∉ch->s.heap.get? b=some o->H b=none->h'.get? b=some o)
  (slot:∀ b o,b≠X.env.locals->b∈X.fs->b∉ch->s.heap.get? b=some o->H b=none->∃ sl,h'.get? b=some { o with slots:=sl })(free:∀ b o,b∉ch->s.heap.get? b=some o->H b=none->H' b=none)
  (there:∀ b o,b∉ch->s.heap.get? b=some o->∃ o',h'.get? b=some o')
  (qH:∀ b xs,H b=some (.tup xs)->H' b=some (.tup xs))(mR:∀ b o u,H b=some (.frz o u)->H' b=some (.frz o u))(oV:∀ b ps,H b=some (.tbl ps)->∃ more,H' b=some (.tbl (ps++more)))
  (ns:∀ m,s.heap.Ns X.env.locals m->h'.Ns X.env.locals m)(bN:gQ X.prog X.w H' h')(hg:sy g'):
  Inv X pz σ H' { s with heap:=h',gens:=g',drawn:=d',toks:=t' }:=by
 have neL:∀ b o,X.s₀.heap.get? b=some o->b≠X.env.locals:=fun b o e=>bz (bq (bc e) I.ok.above)
 have neC:∀ b o,X.s₀.heap.get? b=some o->b∉X.ex->b∉ch:=fun b o e hx hb=>by
  rcases(hch b hb).1 with z|z
  ·exact hx z
  ·exact absurd (bq (bc e) z) (fj _)
 have cellK:∀ x c,X.env.cells.lookup x=some c->∀ v,s.heap.IsCell c v->h'.IsCell c v:=fun x c e v ⟨o,ho,hd⟩=>by
  have nch:c∉ch:=fun z=>(hch c z).2.2.1 x c e rfl
  by_cases hc:c∈X.fs
  ·obtain⟨sl,q⟩:=slot c o (I.ET x c e) hc nch ho (I.jT x c e)
   exact⟨_,q,hd⟩
  ·exact⟨o,keep c o (I.ET x c e) hc nch ho (I.jT x c e),hd⟩
 refine⟨I.ok,I.os,hg,⟨fun b o e n hb hx=>?_,fun b o e n hb hx=>?_,fun b o e n hx=>?_,fun b o e hx=>?_,fun b xs e=>qH b xs (I.base.qH b xs e),fun b o xs e=>mR b o xs (I.base.mR b o xs e),fun b ps e=>?_⟩,?_,fun x c e=>?_,?_,fun x c e=>?_,fun p hp=>?_,bN,I.len⟩
 ·exact keep b o (neL b o e) hb (neC b o e hx) (I.base.keep b o e n hb hx) (I.base.free b o e n hx)
 ·obtain⟨sl,e1⟩:=I.base.slot b o e n hb hx
  obtain⟨sl',e2⟩:=slot b _ (neL b o e) hb (neC b o e hx) e1 (I.base.free b o e n hx)
  exact⟨sl',e2⟩
 ·obtain⟨o',e1⟩:=I.base.there b o e hx
  exact free b o' (neC b o e hx) e1 (I.base.free b o e n hx)
 ·obtain⟨o',e1⟩:=I.base.there b o e hx
  exact there b o' (neC b o e hx) e1
 ·obtain⟨m1,e1⟩:=I.base.oV b ps e
  obtain⟨m2,e2⟩:=oV b _ e1
  exact⟨m1++m2,by rw[e2,Array.append_assoc]⟩
 ·obtain⟨m,hn,hl⟩:=I.loc
  refine⟨m,ns m hn,fun i x v e1 e2 e3=>?_⟩
  obtain⟨u,r,l⟩:=hl i x v e1 e2 e3
  refine⟨u,r,?_⟩
  rcases l with l|⟨k,c,e,z⟩
  ·exact .inl l
  ·exact .inr ⟨k,c,e,cellK x c e _ z⟩
 ·obtain⟨v,z⟩:=I.cell x c e
  exact⟨v,cellK x c e v z⟩
 ·obtain⟨m,⟨o,_,_,ho,_⟩,_⟩:=I.loc
  exact free _ o (fun z=>(hch _ z).2.1 rfl) ho I.free
 ·obtain⟨v,o,ho,hd⟩:=I.cell x c e
  exact free c o (fun z=>(hch c z).2.2.1 x c e rfl) ho (I.jT x c e)
 ·obtain⟨e,n,ne,nf,d⟩:=I.pin p hp
  have nch:p.1∉ch:=fun z=>(hch p.1 z).2.2.2 p hp rfl
  exact⟨keep p.1 p.2 ne nf nch e n,free p.1 p.2 nch e n,ne,nf,d⟩
theorem Inv.un {t':Nat}(I:Inv X pz σ H s)(u:Un X.fs [] H H' s.heap h')(bN:gQ X.prog X.w H' h'):Inv X pz σ H' { s with heap:=h',toks:=t' }:=by
 obtain⟨m,⟨o,es,ep,ho,r⟩,_⟩:=id I.loc
 obtain⟨sl,hL⟩:=u.any ho I.free (by simp)
 exact I.step (g':=s.gens) (d':=s.drawn) (ch:=[]) (fun _ z=>nomatch z) (fun b o _ hb _ e n=>u.keep b o e n hb (by simp)) (fun b o _ hb _ e n=>u.slot b o e n hb (by simp)) (fun b o _ e n=>u.free b o e n (by simp)) (fun b o _ e=>u.there b o e (by simp)) u.qH u.mR u.oV (fun m' hm=>by
 obtain⟨o',es',ep',ho',r'⟩:=hm
 rw[ho]at ho';cases ho'
 exact⟨_,es',ep',hL,r'⟩) bN I.bare
theorem Inv.call {g':Array Qu}{t':Nat}{d':Drawn}{ch:List Addr}(I:Inv X pz σ H s)(u:Un (tB X.stack) ch H H' s.heap h')(bN:gQ X.prog X.w H' h')(hg:sy g')
 (hch:∀ b∈ch,(b∈X.ex∨X.s₀.heap.objs.size<=b)/\b≠X.env.locals/\(∀ x c,X.env.cells.lookup x=some c->c≠b)/\∀ p∈X.pn++pz,p.1≠b):
 Inv X pz σ H' { s with heap:=h',gens:=g',drawn:=d',toks:=t' }:=by
 obtain⟨m,⟨o,es,ep,ho,r⟩,_⟩:=id I.loc
 obtain⟨sl,hL⟩:=u.any ho I.free fun z=>(hch _ z).2.1 rfl
 exact I.step (ch:=ch) hch (fun b o hL hb hc e n=>u.keep b o e n (fun z=>(List.mem_cons.mp (I.BX b z)).elim hL hb) hc) (fun b o _ _ hc e n=>u.any e n hc) (fun b o hc e n=>u.free b o e n hc) (fun b o hc e=>u.there b o e hc) u.qH u.mR u.oV (fun m' hm=>by
 obtain⟨o',es',ep',ho',r'⟩:=hm
 rw[ho]at ho';cases ho'
 exact⟨_,es',ep',hL,r'⟩) bN hg
theorem Inv.turned {t':Nat}{it:Addr}(I:Inv X pz σ H s)(k:∀ b o,b≠it->s.heap.get? b=some o->h'.get? b=some o)(hn:H it=none)(hL:it≠X.env.locals)
  (h1:it∈X.ex∨X.s₀.heap.objs.size<=it)(h2:∀ x c,X.env.cells.lookup x=some c->c≠it)(h3:∀ p∈X.pn++pz,p.1≠it):Inv X pz σ H { s with heap:=h',toks:=t' }:=by
 have nit:∀ b u,H b=some u->b≠it:=fun b u e z=>by rw[z,hn]at e;cases e
 refine I.step (g':=s.gens) (d':=s.drawn) (ch:=[it]) (fun b hb=>?_) (fun b o _ _ hc e _=>k b o (fun z=>hc (by simp [z])) e) (fun b o _ _ hc e _=>⟨o.slots,k b o (fun z=>hc (by simp [z])) e⟩) (fun _ _ _ _ n=>n)
  (fun b o hc e=>⟨o,k b o (fun z=>hc (by simp [z])) e⟩) (fun _ _ e=>e) (fun _ _ _ e=>e) (fun b ps e=>⟨#[],by rw[e];simp⟩) (fun m hm=>?_) (fun b u e=>?_) I.bare
 ·have e:b=it:=by simpa using hb
  subst e
  exact⟨h1,hL,h2,h3⟩
 ·obtain⟨o,es,ep,ho,r⟩:=hm
  exact⟨o,es,ep,k _ o (jn hL) ho,r⟩
 ·refine(I.bN b u e).nF (fun c v hc q=>k c v ?_ q) (fun _ q=>q) fun _ _ q=>q
  rcases hc with z|z
  ·rw[z];exact nit b u e
  ·exact nit c _ z
theorem Inv.tok (I:Inv X pz σ H s)(t:Nat):Inv X pz σ H { s with toks:=t }:=I.un (h':=s.heap) (t':=t) Un.refl I.bN
theorem Inv.kept {t':Nat}(I:Inv X pz σ H s)(k:∀ b u,s.heap.get? b=some u->h'.get? b=some u):Inv X pz σ H { s with heap:=h',toks:=t' }:=I.un (Un.kept k) (I.bN.kept k)
theorem Inv.laid {a:Addr}{o:HO}{t':Nat}(I:Inv X pz σ H s)(k:∀ b u,s.heap.get? b=some u->h'.get? b=some u)(hp:s.heap.objs.size<=a)(new:jF X.prog X.w (upd H a o) h' a o):
 Inv X pz σ (upd H a o) { s with heap:=h',toks:=t' }:=I.un (Un.laid k hp (I.bN.fresh hp)) (I.bN.laid k hp new)
theorem Inv.write {x e:Addr}{o:HO}{t':Nat}(I:Inv X pz σ H s)(mu:P8 (H x))(he:e=x∨H e=some (.own x))(k:∀ b u,b≠e->s.heap.get? b=some u->h'.get? b=some u)(heo:∃ u,h'.get? e=some u)
 (new:jF X.prog X.w (upd H x o) h' x o):Inv X pz σ (upd H x o) { s with heap:=h',toks:=t' }:=I.un (Un.write mu he k heo) (I.bN.write mu he k heo new)
theorem Inv.weak {σ':List (Option V)}(I:Inv X pz σ H s)(hl:σ'.length=σ.length)(w:∀(i:Nat) v,σ'[i]? = some (some v)->σ[i]? = some (some v)):Inv X pz σ' H s :=
 ⟨I.ok,I.os,I.bare,I.base,let⟨m,hn,hl'⟩:=I.loc;⟨m,hn,fun i x v e1 e2 e3=>hl' i x v e1 (w i v e2) e3⟩,I.cell,I.free,I.jT,I.pin,I.bN,hl.trans I.len⟩
theorem Inv.KP {pz':List (Addr×Obj)}(I:Inv X pz σ H s)(h:∀ p∈pz',s.heap.get? p.1=some p.2/\H p.1=none/\p.1≠X.env.locals/\p.1∉X.fs/\∀ v,p.2.data≠.cell v):Inv X pz' σ H s :=
 ⟨I.ok,I.os,I.bare,I.base,I.loc,I.cell,I.free,I.jT,fun p hp=>(List.mem_append.mp hp).elim (fun z=>I.pin p (l9 _ z)) (h p),I.bN,I.len⟩
theorem G8 {N:List Str}(hN:N.Nodup){i j:Nat}{x:Str}(a:N[i]? = some x)(b:N[j]? = some x):i=j:=by
 obtain⟨h1,e1⟩:=List.getElem?_eq_some_iff.mp a
 obtain⟨h2,e2⟩:=List.getElem?_eq_some_iff.mp b
 exact(List.getElem_inj hN).mp (e1.trans e2.symm)
theorem D4 {M:Model}{A:cp}{E:af->ah->Prop}{i:Nat}{x:Str}{v:V}{u:af}{Q:Unit->ah->Prop}(I:Inv X pz σ H s)(hN:X.N.Nodup)(hi:X.N[i]? = some x)(hx:Loc X.env.scope x)(r:RelV v u)
  (h:∀ s',Inv X pz (σ.set i (some v)) H s'->(∃ a,j9 a s.heap s'.heap/\(a=X.env.locals∨X.env.cells.lookup x=some a))->Q () s')(hf:X.fn x=true∨X.env.scope.names.lookup x=some .local:=by first|exact .inl rfl|exact .inr rfl|assumption):wpAny M A (storeName X.env x u) Q E s:=by
 obtain⟨m,hn,hl⟩:=id I.loc
 have hcls:(X.env.scope.kind == .class||(X.env.scope.kind == .module&&X.env.locals != X.env.globals))=false:=by rw[I.ok.kind];rfl
 have hiσ:i<σ.length:=by rw[I.len];exact(List.getElem?_eq_some_iff.mp hi).1
 have ET:=I.ET
 have tracked:∀{a:Addr}{h':Heap},(∃ o,s.heap.get? a=some o/\H a=none)->j9 a s.heap h'->gQ X.prog X.w H h':=fun{a h'} ha hs b ob e=>by
  obtain⟨_,_,hfree⟩:=ha
  refine(I.bN b ob e).nF (fun c w' hc q=>(hs.2 c ?_).trans q) (fun _ q=>q) fun _ _ q=>q
  rintro rfl
  rcases hc with rfl|hc
  ·rw[hfree]at e;cases e
  ·rw[hfree]at hc;cases hc
 rcases hx with hk|hk
 ·refine wpAny_storeName_local hk hn (fun h' hn' hs=>?_) hcls
  obtain⟨oL,_,_,hoL,_⟩:=id hn
  refine h _ ⟨I.ok,I.os,I.bare,⟨fun b o e n hb hx=>?_,fun b o e n hb hx=>?_,I.base.free,fun b o e hx=>?_,I.base.qH,I.base.mR,I.base.oV⟩,⟨_,hn',fun j y v' e1 e2 e3=>?_⟩,fun y c e=>?_,I.free,I.jT,fun p hp=>?_,tracked ⟨oL,hoL,I.free⟩ hs,by simpa using I.len⟩ ⟨_,hs,.inl rfl⟩
  ·exact(hs.2 b (bz (bq (bc e) I.ok.above))).trans (I.base.keep b o e n hb hx)
  ·obtain⟨sl,e1⟩:=I.base.slot b o e n hb hx
   exact⟨sl,(hs.2 b (bz (bq (bc e) I.ok.above))).trans e1⟩
  ·obtain⟨o',e1⟩:=I.base.there b o e hx
   exact⟨o',(hs.2 b (bz (bq (bc e) I.ok.above))).trans e1⟩
  ·by_cases hj:j=i
   ·subst hj
    rw[hi]at e1;cases e1
    rw[kr hiσ]at e2
    cases e2
    exact⟨u,r,.inl ⟨hk,by simp⟩⟩
   ·rw[i5 (jn hj)]at e2
    obtain⟨u',r',q⟩:=hl j y v' e1 e2 e3
    refine⟨u',r',?_⟩
    rcases q with⟨k,e⟩|⟨k,c,e,z⟩
    ·refine .inl ⟨k,?_⟩
     have:y≠x:=fun e=>hj (G8 hN e1 (e▸hi))
     simp [this,e]
    ·exact .inr ⟨k,c,e,z.sameBut hs (ET y c e)⟩
  ·obtain⟨w',z⟩:=I.cell y c e
   exact⟨w',z.sameBut hs (ET y c e)⟩
  ·obtain⟨e,n,ne,nf,d⟩:=I.pin p hp
   exact⟨(hs.2 p.1 ne).trans e,n,ne,nf,d⟩
 ·have hfn:X.fn x=true:=by
   rcases hf with z|z
   ·exact z
   ·rw[z]at hk;cases hk
  obtain⟨c,hc⟩:=I.ok.has x (.inl hk)
  obtain⟨w',z⟩:=I.cell x c hc
  refine wpAny_storeName_cell I.ok.kind hk hc z (fun h' hc' hs=>?_)
  obtain⟨oc,hoc,hocd⟩:=id z
  refine h { s with heap:=h' } ⟨I.ok,I.os,I.bare,⟨fun b o e n hb hx=>?_,fun b o e n hb hx=>?_,I.base.free,fun b o e hx=>?_,I.base.qH,I.base.mR,I.base.oV⟩,⟨m,hn.sameBut hs (jn (ET x c hc)),fun j y v' e1 e2 e3=>?_⟩,fun y c' e=>?_,I.free,I.jT,fun p hp=>?_,tracked ⟨oc,hoc,I.jT x c hc⟩ hs,by simpa using I.len⟩ ⟨c,hs,.inr hc⟩
  ·exact(hs.2 b (bz (bq (bc e) (I.ok.cab x c hfn hc)))).trans (I.base.keep b o e n hb hx)
  ·obtain⟨sl,e1⟩:=I.base.slot b o e n hb hx
   exact⟨sl,(hs.2 b (bz (bq (bc e) (I.ok.cab x c hfn hc)))).trans e1⟩
  ·obtain⟨o',e1⟩:=I.base.there b o e hx
   exact⟨o',(hs.2 b (bz (bq (bc e) (I.ok.cab x c hfn hc)))).trans e1⟩
  ·by_cases hj:j=i
   ·subst hj
    rw[hi]at e1;cases e1
    rw[kr hiσ]at e2
    cases e2
    exact⟨u,r,.inr ⟨.inl hk,c,hc,hc'⟩⟩
   ·rw[i5 (jn hj)]at e2
    obtain⟨u',r',q⟩:=hl j y v' e1 e2 e3
    refine⟨u',r',?_⟩
    rcases q with q|⟨k,c',e,z'⟩
    ·exact .inl q
    ·refine .inr ⟨k,c',e,z'.sameBut hs ?_⟩
     rintro rfl
     exact hj (G8 hN e1 (I.ok.inj _ _ _ e hc▸hi))
  ·by_cases hcc:c'=c
   ·subst hcc;exact⟨_,hc'⟩
   ·obtain⟨w2,z2⟩:=I.cell y c' e
    exact⟨w2,z2.sameBut hs hcc⟩
  ·obtain⟨e,n,ne,nf,d⟩:=I.pin p hp
   refine⟨(hs.2 p.1 ?_).trans e,n,ne,nf,d⟩
   intro q
   rw[q,hoc]at e
   have q':oc=p.2:=cy e
   exact d w' (by rw[<-q'];exact hocd)
theorem T9 {M:Model}{A:cp}{E:af->ah->Prop}{i:Nat}{x:Str}{v:V}{u:af}{Q:Unit->ah->Prop}(I:Inv X pz σ H s)(hN:X.N.Nodup)(hi:X.N[i]? = some x)(hx:Loc X.env.scope x)(r:RelV v u)
 (h:∀ s',Inv X pz (σ.set i (some v)) H s'->Q () s')(hf:X.fn x=true∨X.env.scope.names.lookup x=some .local:=by first|exact .inl rfl|exact .inr rfl|assumption):wpAny M A (storeName X.env x u) Q E s :=
 D4 I hN hi hx r (fun s' I' _=>h s' I') hf
theorem Inv.UT {s':ah}{ch:List Addr}(I:Inv X pz σ H s)(ho:s'.os=s.os)(u:Un (tB X.stack) ch H H' s.heap s'.heap)(bN:gQ X.prog X.w H' s'.heap)(hg:sy s'.gens)
 (hch:∀ b∈ch,(b∈X.ex∨X.s₀.heap.objs.size<=b)/\b≠X.env.locals/\(∀ x c,X.env.cells.lookup x=some c->c≠b)/\∀ p∈X.pn++pz,p.1≠b):Inv X pz σ H' s':=by
 obtain⟨h',g',d',t',o'⟩:=s'
 have e:o'=s.os:=ho
 subst e
 exact I.call (g':=g') (t':=t') (d':=d') u bN hg hch
end
abbrev XK:=af->Option Addr->Hp->Prop
noncomputable abbrev St:=List (Option V)
abbrev VK:=V->Hp->Prop
abbrev TE:=St->Hp->VK->Prop
abbrev TT:=St->Hp->(Bool->Hp->Prop)->Prop
abbrev TA:=St->Hp->(List V->Hp->Prop)->Prop
structure Ends where
 nx:St->Hp->Prop
 rt:VK
 bk:St->Hp->Prop:=fun _ _=>False
 ct:St->Hp->Prop:=fun _ _=>False
abbrev TS:=Ends->St->Hp->Prop
inductive EP (X:Cx)(pz:List (Addr×Obj))(σ:St)(Q:VK)(u:af)(s':ah):Prop
 |mk (v:V)(H':Hp)(i:Inv X pz σ H' s')(r:RelV v u)(q:Q v H')
inductive TP (X:Cx)(pz:List (Addr×Obj))(σ:St)(Q:Bool->Hp->Prop)(b:Bool)(s':ah):Prop
 |mk (H':Hp)(i:Inv X pz σ H' s')(q:Q b H')
inductive AP (X:Cx)(pz:List (Addr×Obj))(σ:St)(Q:List V->Hp->Prop)(us:List af)(s':ah):Prop
 |mk (vs:List V)(H':Hp)(i:Inv X pz σ H' s')(r:aO vs us)(q:Q vs H')
def SP (X:Cx)(pz:List (Addr×Obj))(D:Ends)(f:Flow)(s':ah):Prop :=
 match f with
 |.next=>∃ σ' H',Inv X pz σ' H' s'/\D.nx σ' H'
 |.brk=>∃ σ' H',Inv X pz σ' H' s'/\D.bk σ' H'
 |.cont=>∃ σ' H',Inv X pz σ' H' s'/\D.ct σ' H'
 |.ret u=>∃ v σ' H',Inv X pz σ' H' s'/\RelV v u/\D.rt v H'
def PE (X:Cx)(e:Expr)(t:TE):Prop :=
 ∀(pz:List (Addr×Obj))(s:ah)(σ:St)(H:Hp)(Q:VK),Inv X pz σ H s->t σ H Q->wpAny (model X.prog X.w) X.A (eval e X.env) (EP X pz σ Q) X.xe s
def PT (X:Cx)(e:Expr)(t:TT):Prop :=
 ∀(pz:List (Addr×Obj))(s:ah)(σ:St)(H:Hp)(Q:Bool->Hp->Prop),Inv X pz σ H s->t σ H Q->wpAny (model X.prog X.w) X.A (Qv e X.env (eval e X.env)) (TP X pz σ Q) X.xe s
def PW (X:Cx)(e:Expr)(t:TT):Prop :=
 ∀(whole:Sem af)(pz:List (Addr×Obj))(s:ah)(σ:St)(H:Hp)(Q:Bool->Hp->Prop),Inv X pz σ H s->t σ H Q->wpAny (model X.prog X.w) X.A (Qv e X.env whole) (TP X pz σ Q) X.xe s
theorem PW.pt {X:Cx}{e:Expr}{t:TT}(h:PW X e t):PT X e t:=h _
def PA (X:Cx)(es:List Expr)(t:TA):Prop :=
 ∀(pos:Pos)(pz:List (Addr×Obj))(s:ah)(σ:St)(H:Hp)(Q:List V->Hp->Prop),Inv X pz σ H s->t σ H Q->wpAny (model X.prog X.w) X.A (w5 (dh pos (ai es X.env))) (AP X pz σ Q) X.xe s
def PS (X:Cx)(st:Stmt)(t:TS):Prop :=
 ∀(pz:List (Addr×Obj))(s:ah)(σ:St)(H:Hp)(D:Ends),Inv X pz σ H s->t D σ H->wpAny (model X.prog X.w) X.A (exec st X.env) (SP X pz D) X.xe s
def kA (X:Cx)(st:List Stmt)(t:TS):Prop :=
 ∀(pz:List (Addr×Obj))(s:ah)(σ:St)(H:Hp)(D:Ends),Inv X pz σ H s->t D σ H->wpAny (model X.prog X.w) X.A (execs st X.env) (SP X pz D) X.xe s
theorem aY {α:Type}{t:Sem α}{Q Q':α->ah->Prop}{M:Model}{A:cp}{E:af->ah->Prop}{s:ah}(h:wpAny M A t Q E s)(hQ:∀ a s,Q a s->Q' a s):wpAny M A t Q' E s:=jw h hQ fun _ _ x=>x
end L2
namespace L2
open PySem PySem.Spec PyProof.Rows
section
variable {X:Cx}
theorem bin {a b:Expr}{ta tb:TE}(ha:PE X a ta)(hb:PE X b tb){pz:List (Addr×Obj)}{s:ah}{σ:St}{H:Hp}{R:V->V->Hp->Prop}(I:Inv X pz σ H s)(h:ta σ H fun x H1=>tb σ H1 fun y H2=>R x y H2)
 {α:Type}{Q:α->ah->Prop}{f:af->af->Sem α}
 (hf:∀ v u s2 x y H2,Inv X pz σ H2 s2->RelV x v->RelV y u->R x y H2->wpAny (model X.prog X.w) X.A (f v u) Q X.xe s2):
 wpAny (model X.prog X.w) X.A (eval a X.env) (fun v s₁=>wpAny (model X.prog X.w) X.A (eval b X.env) (fun u s₂=>wpAny (model X.prog X.w) X.A (f v u) Q X.xe s₂) X.xe s₁) X.xe s:=by
 refine aY (ha pz s σ H _ I h) fun v s1 ⟨x,H1,I1,r1,q1⟩=>?_
 refine aY (hb pz s1 σ H1 _ I1 q1) fun u s2 ⟨y,H2,I2,r2,q2⟩=>?_
 exact hf v u s2 x y H2 I2 r1 r2 q2
noncomputable def SD (i:Nat):TE:=fun σ H Q=>∃ v,σ[i]? = some (some v)/\Q v H
noncomputable def tC (v:V):TE:=fun _ H Q=>Q v H
theorem PB {i:Nat}{x:Str}{pos:Pos}(hN:X.N[i]? = some x)(hv:U9 X.env.scope x)(hd:(x==("__debug__" : Str))=false:=by decide)(hcd:(x==("__classdict__" : Str))=false:=by decide):PE X (.Name x pos) (SD i):=by
 intro pz s σ H Q I h
 obtain⟨v,e,h⟩:=h
 obtain⟨m,hn,hl⟩:=I.loc
 obtain⟨u,r,l⟩:=hl i x v hN e hv
 have fin:EP X pz σ Q u s:=⟨v,H,I,r,h⟩
 rcases l with⟨hk,hm⟩|⟨hk,c,hc,hcell⟩
 ·exact Qw (wpAny_loadName_local I.ok.kind hk hn hm fin) hd
 ·rcases hk with hk|hk
  ·exact Qw (wpAny_loadName_cell I.ok.kind hk hc hcell fin) hd
  ·exact Qw (wpAny_loadName_free I.ok.kind hk hc hcell fin hcd) hd
theorem Ek {i j pos}:PE X (.Constant (.int i) j pos) (tC (.int i)):=fun _ _ _ H _ I h=>wpAny_Constant_int ⟨.int i,H,I.tok _,⟨_,rfl⟩,h⟩
theorem Hv {b j pos}:PE X (.Constant (.bool b) j pos) (tC (.bl b)):=fun _ _ _ H _ I h=>Constant_bool ⟨.bl b,H,I,rfl,h⟩
theorem Eb {x j pos}:PE X (.Constant (.str x) j pos) (tC (.str x)):=fun _ _ _ H _ I h=>Calls.Constant_str ⟨.str x,H,I.tok _,⟨_,rfl⟩,h⟩
def Gl (X:Cx)(x:Str):Prop:=X.env.kindOf x=some .globalImplicit
theorem yH {E:af->ah->Prop}{pz:List (Addr×Obj)}{s:ah}{σ:St}{H:Hp}{x:Str}{u:af}{pos:Pos}{Q:af->ah->Prop}(I:Inv X pz σ H s)(hg:Gl X x)(hm:X.mg x=some u)(h:Q u s)
 (hd:(x==("__debug__" : Str))=false:=by decide):wpAny (model X.prog X.w) X.A (eval (.Name x pos) X.env) Q E s :=
 rf I.ok.kind hg (Calls.loadGlobal_global (by rw[I.ok.glob];exact I.mod.glob.keeps I.bk) hm h) hd
theorem jV {E:af->ah->Prop}{pz:List (Addr×Obj)}{s:ah}{σ:St}{H:Hp}{x:Str}{u:af}{pos:Pos}{Q:af->ah->Prop}(I:Inv X pz σ H s)(hg:Gl X x)(hm:X.mg x=none)(hv:cz x=some u)(h:Q u s)
 (hn:x ≠"__name__":=by decide)(hd:(x==("__debug__" : Str))=false:=by decide):wpAny (model X.prog X.w) X.A (eval (.Name x pos) X.env) Q E s:=by
 obtain⟨mb,h1,h2⟩:=I.mod.blt
 exact rf I.ok.kind hg (Calls.loadGlobal_builtin (by rw[I.ok.glob];exact I.mod.glob.keeps I.bk) hm (by rw[I.ok.blt];exact h1.keeps I.bk) ((h2 x hn).trans hv) h) hd
theorem XH {x:Str}{v:V}{u:af}{pos:Pos}(hg:Gl X x)(hm:X.mg x=some u)(r:RelV v u)(hd:(x==("__debug__" : Str))=false:=by decide):PE X (.Name x pos) (tC v) :=
 fun _ _ _ H _ I h=>yH I hg hm ⟨v,H,I,r,h⟩ hd
theorem W3 {x:Str}{v:V}{u:af}{pos:Pos}(hg:Gl X x)(hm:X.mg x=none)(hv:cz x=some u)(r:RelV v u)(hn:x ≠"__name__":=by decide)(hd:(x==("__debug__" : Str))=false:=by decide):PE X (.Name x pos) (tC v) :=
 fun _ _ _ H _ I h=>jV I hg hm hv ⟨v,H,I,r,h⟩ hn hd
variable {a b:Expr}{ta tb:TE}{pos:Pos}
theorem RelV.R1 {x:V}{v:af}(r:RelV x v):(v==g6)=decide (x=.non):=by
 cases x with
 |non=>cases r;rfl
 |bl _=>cases r;rfl
 |int _=>obtain⟨t,rfl⟩:=r;rfl
 |str _=>obtain⟨t,rfl⟩:=r;rfl
 |byt _=>obtain⟨t,rfl⟩:=r;rfl
 |flt _=>obtain⟨t,rfl⟩:=r;rfl
 |ref _=>cases r;rfl
 |ty _=>cases r;rfl
variable {tA tB':TT}{rest:List Expr}
noncomputable def Lq (t u:TT):TT:=fun σ H Q=>t σ H fun c H1=>if c=true then u σ H1 Q else Q false H1
noncomputable def Px (t u:TT):TT:=fun σ H Q=>t σ H fun c H1=>if c=true then Q true H1 else u σ H1 Q
noncomputable def Nv (t:TT):TT:=fun σ H Q=>t σ H fun c H1=>Q (!c) H1
theorem YT (ha:PT X a tA):PW X (.BoolOp .And [a] pos) tA:=by
 intro wh pz s σ H Q I h
 refine isTrue_and (aY (ha pz s σ H Q I h) fun c s1 e=>?_)
 cases c with
 |true=>exact isTrue_and_nil e
 |false=>exact e
theorem Co (ha:PT X a tA):PW X (.BoolOp .Or [a] pos) tA:=by
 intro wh pz s σ H Q I h
 refine isTrue_or (aY (ha pz s σ H Q I h) fun c s1 e=>?_)
 cases c with
 |false=>exact isTrue_or_nil e
 |true=>exact e
theorem ZM (ha:PT X a tA)(hb:PW X (.BoolOp .And (b::rest) pos) tB'):PW X (.BoolOp .And (a::b::rest) pos) (Lq tA tB'):=by
 intro wh pz s σ H Q I h
 refine isTrue_and (aY (ha pz s σ H _ I h) fun c s1 ⟨H1,I1,q1⟩=>?_)
 cases c with
 |true=>exact hb wh pz s1 σ H1 Q I1 q1
 |false=>exact⟨H1,I1,q1⟩
theorem Gg (ha:PT X a tA)(hb:PW X (.BoolOp .Or (b::rest) pos) tB'):PW X (.BoolOp .Or (a::b::rest) pos) (Px tA tB'):=by
 intro wh pz s σ H Q I h
 refine isTrue_or (aY (ha pz s σ H _ I h) fun c s1 ⟨H1,I1,q1⟩=>?_)
 cases c with
 |true=>exact⟨H1,I1,q1⟩
 |false=>exact hb wh pz s1 σ H1 Q I1 q1
theorem ZV (ha:PT X a tA):PT X (.UnaryOp .Not a pos) (Nv tA):=by
 intro pz s σ H Q I h
 exact isTrue_not (aY (ha pz s σ H (fun c H1=>Q (!c) H1) I h) fun c s1 ⟨H1,I1,q⟩=>⟨H1,I1,q⟩)
theorem Cb {op}{t:TE}(h:PE X a t):PE X (.BoolOp op [a] pos) t:=fun pz s σ H Q I hw=>BoolOp_one (h pz s σ H Q I hw)
end
end L2
namespace L2
open PySem PySem.Spec PyProof.Rows
def eJ (K:aa)(H:Hp)(a:Addr)(xs:List V):Prop :=
 Rd H a (.lst xs) ∨
 ∃(o:Obj)(aD:Array af)(n:Nat),K.lookup a=some o/\o.cls=.type "list" /\ o.dict=none/\o.data=.seq aD n/\aD.size<=sizeLine/\aO xs aD.toList
def cX (K:aa)(H:Hp)(a:Addr)(xs:List V):Prop :=
 Rd H a (.tup xs) ∨
 ∃(o:Obj)(aD:Array af)(n:Nat),K.lookup a=some o/\o.cls=.type "tuple" /\ o.dict=none/\o.data=.seq aD n/\aD.size<=sizeLine/\aO xs aD.toList
noncomputable def Mx:af->Option V
 |.none=>some .non
 |.bool b=>some (.bl b)
 |.int i _=>some (.int i)
 |.str x _=>some (.str x)
 |.bytes b _=>some (.byt b)
 |.float b _=>some (.flt b)
 |.ref a=>some (.ref a)
 |.type n=>some (.ty n)
 |_=>none
theorem RelV.abs {x:V}{u:af}(r:RelV x u):Mx u=some x:=by
 cases x with
 |non=>cases r;rfl
 |bl _=>cases r;rfl
 |int _=>obtain⟨t,rfl⟩:=r;rfl
 |str _=>obtain⟨t,rfl⟩:=r;rfl
 |byt _=>obtain⟨t,rfl⟩:=r;rfl
 |flt _=>obtain⟨t,rfl⟩:=r;rfl
 |ref _=>cases r;rfl
 |ty _=>cases r;rfl
theorem RelV.inj {x y:V}{u:af}(r:RelV x u)(q:RelV y u):x=y:=cy (r.abs.symm.trans q.abs)
theorem aO.inj:∀{xs ys:List V}{us:List af},aO xs us->aO ys us->xs=ys
 |_,_,_,.nil,.nil=>rfl
 |_,_,_,.cons r t,.cons r' t'=>by rw[r.inj r',aO.inj t t']
section
variable {X:Cx}{pz:List (Addr×Obj)}{σ:St}{H:Hp}{s:ah}{a:Addr}{xs ys:List V}
theorem eJ.of {K:aa}(h:H a=some (.lst xs)):eJ K H a xs:=.inl (.inl h)
theorem cX.of {K:aa}(h:H a=some (.tup xs)):cX K H a xs:=.inl (.inl h)
theorem Inv.list (I:Inv X pz σ H s)(h:eJ X.K H a xs):∃ aD:List af,aO xs aD/\PlainL s.heap a aD.toArray/\xs.length<=sizeLine:=by
 rcases h with h|⟨o,aD,n,hk,hc,hd,hs,hz,r⟩
 ·obtain⟨z,aD,n,r,e⟩:=h.ok I.bN
  exact⟨aD,r,⟨_,n,e,rfl,rfl,rfl⟩,z⟩
 ·refine⟨aD.toList,r,⟨o,n,I.iN a o hk,hc,hd,by simpa using hs⟩,?_⟩
  have e:=r.length
  simp only[mr]at e
  omega
theorem Inv.tuple (I:Inv X pz σ H s)(h:cX X.K H a xs):∃ aD:List af,aO xs aD/\IsTup s.heap a aD.toArray/\xs.length<=sizeLine:=by
 rcases h with h|⟨o,aD,n,hk,hc,_,hs,hz,r⟩
 ·obtain⟨z,aD,r,p⟩:=h.ok I.bN
  exact⟨aD,r,p.tup,z⟩
 ·refine⟨aD.toList,r,⟨o,I.iN a o hk,hc,n,by simpa using hs⟩,?_⟩
  have e:=r.length
  simp only[mr]at e
  omega
theorem Inv.pY (I:Inv X pz σ H s)(h:eJ X.K H a xs)(h':eJ X.K H a ys):xs=ys:=by
 obtain⟨aD,r,⟨o,n,e,_,_,d⟩,_⟩:=I.list h
 obtain⟨kD,r',⟨o',n',e',_,_,d'⟩,_⟩:=I.list h'
 rw[e]at e';cases e'
 rw[d]at d'
 injection d' with d1 _
 have:aD=kD:=by simpa using congrArg yl d1
 subst this
 exact r.inj r'
theorem Inv.Jw (I:Inv X pz σ H s)(h:cX X.K H a xs):∃ o,s.heap.get? a=some o/\o.dict=none:=by
 rcases h with h|⟨o,aD,n,hk,hc,hd,hs,hz,r⟩
 ·obtain⟨z,aD,r,o,e,_,_,d⟩:=h.ok I.bN
  exact⟨o,e,d⟩
 ·exact⟨o,I.iN a o hk,hd⟩
theorem Inv.lS (I:Inv X pz σ H s)(h:cX X.K H a xs)(h':cX X.K H a ys):xs=ys:=by
 obtain⟨aD,r,⟨o,e,_,n,d⟩,_⟩:=I.tuple h
 obtain⟨kD,r',⟨o',e',_,n',d'⟩,_⟩:=I.tuple h'
 rw[e]at e';cases e'
 rw[d]at d'
 injection d' with d1 _
 have:aD=kD:=by simpa using congrArg yl d1
 subst this
 exact r.inj r'
end
noncomputable abbrev Cx.rP (X:Cx)(E:af->ah->Prop):Cx:={ X with xe:=E }
noncomputable abbrev Cx.iA (X:Cx):Cx:=X.rP fun _ _=>False
theorem Cx.Ok.rP {X:Cx}(ok:X.Ok)(E:af->ah->Prop):(X.rP E).Ok :=
 ⟨ok.mod,ok.kind,ok.glob,ok.blt,ok.above,ok.inj,ok.has,ok.cab,ok.hd,ok.frames,ok.stk,ok.exf,ok.bs,ok.bsz,ok.noex,ok.exfs,ok.kO,ok.frf⟩
theorem Cx.Ok.nY {X:Cx}{E:af->ah->Prop}(ok:(X.rP E).Ok):X.Ok :=
 ⟨ok.mod,ok.kind,ok.glob,ok.blt,ok.above,ok.inj,ok.has,ok.cab,ok.hd,ok.frames,ok.stk,ok.exf,ok.bs,ok.bsz,ok.noex,ok.exfs,ok.kO,ok.frf⟩
section
variable {X:Cx}{pz:List (Addr×Obj)}{σ:St}{H:Hp}{s:ah}{E:af->ah->Prop}
theorem Inv.rP (I:Inv X pz σ H s)(E:af->ah->Prop):Inv (X.rP E) pz σ H s:=⟨I.ok.rP E,I.os,I.bare,I.base,I.loc,I.cell,I.free,I.jT,I.pin,I.bN,I.len⟩
theorem Inv.nY (I:Inv (X.rP E) pz σ H s):Inv X pz σ H s:=⟨I.ok.nY,I.os,I.bare,I.base,I.loc,I.cell,I.free,I.jT,I.pin,I.bN,I.len⟩
theorem SP.nY {D:Ends}{f:Flow}{s':ah}(h:SP (X.rP E) pz D f s'):SP X pz D f s':=by
 cases f with
 |next=>obtain⟨σ',H',I,q⟩:=h;exact⟨σ',H',I.nY,q⟩
 |brk=>obtain⟨σ',H',I,q⟩:=h;exact⟨σ',H',I.nY,q⟩
 |cont=>obtain⟨σ',H',I,q⟩:=h;exact⟨σ',H',I.nY,q⟩
 |ret u=>obtain⟨v,σ',H',I,r,q⟩:=h;exact⟨v,σ',H',I.nY,r,q⟩
theorem kA.iA {st:List Stmt}{t:TS}(h:kA X.iA st t):kA X st t:=fun pz s σ H D I hw =>
 jw (h pz s σ H D (I.rP _) hw) (fun _ _ q=>q.nY) fun _ _ z=>d5 z
end
section
variable {X:Cx}{st:Stmt}{rest:List Stmt}{t u:TS}{e:Expr}{te:TE}{pos:Pos}
noncomputable def Io:TS:=fun D σ H=>D.nx σ H
noncomputable def Mb (t u:TS):TS:=fun D σ H=>t { D with nx:=u D } σ H
theorem XQ:kA X [] Io:=fun _ _ σ H _ I h=>vc ⟨σ,H,I,h⟩
theorem TK (h1:PS X st t)(h2:kA X rest u):kA X (st::rest) (Mb t u):=by
 intro pz s σ H D I h
 refine wpAny_execs_cons (aY (h1 pz s σ H { D with nx:=u D } I h) fun f s1 q=>?_)
 cases f with
 |next =>
 obtain⟨σ',H',I',q⟩:=q
 exact h2 pz s1 σ' H' D I' q
 |ret v=>exact q
 |brk=>exact q
 |cont=>exact q
theorem Inv.quiet {pz:List (Addr×Obj)}{σ:St}{H:Hp}{s:ah}(I:Inv X pz σ H s):interactive X.env=false:=by simp [interactive,I.ok.kind]
noncomputable def Jg (te:TE):TS:=fun D σ H=>te σ H fun _ H1=>D.nx σ H1
theorem XT (he:PE X e te)(hs:mf e none pos.line X.env=pure false:=by rfl):PS X (.Expr e pos) (Jg te):=by
 intro pz s σ H D I h
 exact wpAny_Expr_any (aY (he pz s σ H _ I h) fun v s1 ⟨x,H1,I1,r1,q1⟩=>⟨σ,H1,I1,q1⟩) I.quiet hs
noncomputable def Nu (te:TE):TS:=fun D σ H=>te σ H D.rt
theorem Z9 (he:PE X e te):PS X (.Return (some e) pos) (Nu te):=by
 intro pz s σ H D I h
 exact wpAny_Return_some (aY (he pz s σ H _ I h) fun v s1 ⟨x,H1,I1,r1,q1⟩=>⟨x,σ,H1,I1,r1,q1⟩)
noncomputable def Lz (c:TT)(t u:TS):TS:=fun D σ H=>c σ H fun b H1=>if b=true then t D σ H1 else u D σ H1
theorem Gw {c:Expr}{a b:List Stmt}{tc:TT}(hc:PT X c tc)(ha:kA X a t)(hb:kA X b u):PS X (.If c a b pos) (Lz tc t u):=by
 intro pz s σ H D I h
 refine wpAny_If (aY (hc pz s σ H _ I h) fun d s1 ⟨H1,I1,q1⟩=>?_)
 cases d with
 |true=>exact ha pz s1 σ H1 D I1 q1
 |false=>exact hb pz s1 σ H1 D I1 q1
noncomputable def Cf:TS:=fun _ _ _=>False
theorem UM:PS X st Cf:=fun _ _ _ _ _ _ h=>h.elim
end
abbrev TG:=V->St->Hp->(St->Hp->Prop)->Prop
abbrev EA:=List V->St->Hp->(St->Hp->Prop)->Prop
def PG (X:Cx)(target:Expr)(t:TG):Prop :=
 ∀(pz:List (Addr×Obj))(s:ah)(σ:St)(H:Hp)(v:V)(u:af)(Q:St->Hp->Prop),Inv X pz σ H s->RelV v u->t v σ H Q ->
 wpAny (model X.prog X.w) X.A (mv target X.env u) (fun _ s'=>∃ σ' H',Inv X pz σ' H' s'/\Q σ' H') X.xe s
def BA (X:Cx)(ts:List Expr)(t:EA):Prop :=
 ∀(pz:List (Addr×Obj))(s:ah)(σ:St)(H:Hp)(vs:List V)(us:List af)(Q:St->Hp->Prop),Inv X pz σ H s->aO vs us->t vs σ H Q ->
 wpAny (model X.prog X.w) X.A (assignInOrder ((e9 ts X.env).map (·.2)) us) (fun _ s'=>∃ σ' H',Inv X pz σ' H' s'/\Q σ' H') X.xe s
abbrev R3:=V->V->V->Hp->(Hp->Prop)->Prop
def Dn (X:Cx)(t:R3):Prop :=
 ∀(pz:List (Addr×Obj))(s:ah)(σ:St)(H:Hp)(o i v:V)(ov iv u:af)(Q:Hp->Prop),Inv X pz σ H s->RelV o ov->RelV i iv->RelV v u->t o i v H Q ->
 wpAny (model X.prog X.w) X.A (Qr ov iv u) (fun _ s'=>∃ H',Inv X pz σ H' s'/\Q H') X.xe s
section
variable {X:Cx}{pos:Pos}
noncomputable def BV (i:Nat):TG:=fun v σ H Q=>Q (σ.set i (some v)) H
theorem sQ {i:Nat}{x:Str}(hN:X.N.Nodup)(hi:X.N[i]? = some x)(hx:Loc X.env.scope x)(hf:X.fn x=true∨X.env.scope.names.lookup x=some .local:=by first|exact .inl rfl|exact .inr rfl|assumption):PG X (.Name x pos) (BV i):=by
 intro pz s σ H v u Q I r h
 exact ym (T9 I hN hi hx r (fun s' I'=>⟨_,H,I',h⟩) hf)
noncomputable def Md:EA:=fun vs σ H Q=>vs=[]/\Q σ H
noncomputable def Hq (t:TG)(u:EA):EA:=fun vs σ H Q=>∃ v r,vs=v::r/\t v σ H fun σ' H'=>u r σ' H' Q
theorem YQ:BA X [] Md:=by
 intro pz s σ H vs us Q I r h
 obtain⟨e,h⟩:=h
 subst e
 cases r
 exact assignInOrder_nil ⟨σ,H,I,h⟩
theorem SM {e:Expr}{es:List Expr}{t:TG}{u:EA}(h1:PG X e t)(h2:BA X es u)
 (hs:(e9 (e::es) X.env).map (·.2)=mv e X.env::(e9 es X.env).map (·.2):=by rfl):BA X (e::es) (Hq t u):=by
 intro pz s σ H vs us Q I r h
 obtain⟨v,vr,e1,h⟩:=h
 subst e1
 cases r with
 |cons r rr =>
 rw[hs]
 refine assignInOrder_cons (aY (h1 pz s σ H _ _ _ I r h) fun _ s1 ⟨σ1,H1,I1,q1⟩=>?_)
 exact h2 pz s1 σ1 H1 _ _ Q I1 rr q1
noncomputable def ZP (K:aa)(n:Nat)(t:EA):TG:=fun v σ H Q=>∃ a xs,v=.ref a/\cX K H a xs/\xs.length=n/\t xs σ H Q
theorem QP {es:List Expr}{k:Nat}{t:EA}{n:Nat}(hc:X.calm=true)(h:BA X es t)
 (hn:(e9 es X.env).length=n:=by rfl)(eV:(e9 es X.env).findIdx? (·.1)=none:=by rfl):PG X (.Tuple es k pos) (ZP X.K n t):=by
 intro pz s σ H v u Q I r hw
 obtain⟨a,xs,e1,hq,hl,hw⟩:=hw
 subst e1
 cases r
 obtain⟨aD,rv,ht,hz⟩:=I.tuple hq
 refine assign_Tuple_tuple (I.ok.hd hc) ht (by simp [hn,<-hl,rv.length]) eV fun h' hx=>?_
 have I1:Inv X pz σ H { s with heap:=h' }:=I.kept (t':=s.toks) fun b o e=>hx b o (bz (bc e)) e
 exact h pz _ σ H xs _ Q I1 (by simpa using rv) hw
noncomputable def Lr (to ti:TE)(t:R3):TG:=fun v σ H Q=>to σ H fun o H1=>ti σ H1 fun i H2=>t o i v H2 fun H3=>Q σ H3
theorem Fi {o i:Expr}{to ti:TE}{t:R3}(ho:PE X o to)(hi:PE X i ti)(hs:Dn X t)
 (ha:∀ v,mv (.Subscript o i pos) X.env v=(do
  let ov <-kg [v] (eval o X.env)
  let iv <-kg [v,ov] (eval i X.env)
  oq pos
  kg [v,ov,iv] (Qr ov iv v)
  Tp [v,ov,iv] []):=by intro _;rfl):PG X (.Subscript o i pos) (Lr to ti t):=by
 intro pz s σ H v u Q I r h
 rw[ha]
 refine ae (gq (aY (ho pz s σ H _ I h) fun ov s1 ⟨x,H1,I1,r1,q1⟩=>?_))
 refine ae (gq (aY (hi pz s1 σ H1 _ I1 q1) fun iv s2 ⟨y,H2,I2,r2,q2⟩=>?_))
 refine ae (px (ae (gq (aY (hs pz s2 σ H2 x y v ov iv u _ I2 r1 r2 r q2) fun _ s3 ⟨H3,I3,q3⟩=>?_))))
 exact wpAny_release ⟨σ,H3,I3,q3⟩
noncomputable def Oe (te:TE)(g:TG):TS:=fun D σ H=>te σ H fun x H1=>g x σ H1 D.nx
theorem Cs {tg e:Expr}{te:TE}{g:TG}(he:PE X e te)(hg:PG X tg g)(hs:p0 [tg] e pos.line X.env=pure false:=by rfl)(hw:p8 [tg] e X.env=pure none:=by rfl)
 (h1:(e9 [tg] X.env).map (·.2)=[mv tg X.env]:=by rfl):PS X (.Assign [tg] e pos) (Oe te g):=by
 intro pz s σ H D I h
 refine wpAny_Assign_stores (aY (he pz s σ H _ I h) fun v s1 ⟨x,H1,I1,r1,q1⟩=>?_) hs hw
 rw[h1]
 exact aY (hg pz s1 σ H1 x v _ I1 r1 q1) fun _ s2 q=>q
end
section
variable {X:Cx}{pos:Pos}
noncomputable def Du (c:TT)(tb:TS):TS:=fun D σ H=>∃ W:Nat->St->Hp->Prop,(∃ m,W m σ H)/\∀ m σ H,W m σ H ->
 c σ H fun b H1=>if b=true then ∃ N:St->Hp->Prop,(∀ σ' H',N σ' H'->∃ m',m'<m/\W m' σ' H')/\tb { D with nx:=N,ct:=N,bk:=D.nx } σ H1 else D.nx σ H1
theorem TY {c:Expr}{body:List Stmt}{tc:TT}{tb:TS}(hp:qz (model X.prog X.w) X.A X.env X.xe)(hc:PT X c tc)(hb:kA X body tb):PS X (.While c body [] pos) (Du tc tb):=by
 intro pz s σ H D I h
 obtain⟨W,⟨m0,w0⟩,turn⟩:=h
 refine wpAny_While (codeAny_whileLoop (fun n s'=>∃ σ' H',Inv X pz σ' H' s'/\W n σ' H') ?_ m0 ⟨σ,H,I,w0⟩)
 rintro n s1 ⟨σ1,H1,I1,w1⟩
 refine j6 hp (aY (hc pz s1 σ1 H1 _ I1 (turn n σ1 H1 w1)) fun b s2 ⟨H2,I2,q2⟩=>?_)
 cases b with
 |true =>
  obtain⟨N,hN,q2⟩:=q2
  rw[if_pos rfl]
  refine j6 hp (aY (hb pz s2 σ1 H2 _ I2 q2) fun f s3 q3=>?_)
  cases f with
  |next =>
   obtain⟨σ3,H3,I3,n3⟩:=q3
   obtain⟨m',hm,w3⟩:=hN σ3 H3 n3
   exact⟨m',hm,σ3,H3,I3,w3⟩
  |cont =>
   obtain⟨σ3,H3,I3,n3⟩:=q3
   obtain⟨m',hm,w3⟩:=hN σ3 H3 n3
   exact⟨m',hm,σ3,H3,I3,w3⟩
  |brk=>exact q3
  |ret v=>exact q3
 |false =>
  rw[if_neg g9]
  exact vc ⟨σ1,H2,I2,q2⟩
end
structure It where
 go:Nat->Hp->Prop
 yld:Nat->Hp->V->Hp->Prop
 stop:Nat->Hp->Prop
def kP (X:Cx)(pz:List (Addr×Obj))(H:Hp)(b:Addr):Prop :=
 H b=none/\b≠X.env.locals/\b∉X.fs/\(b∈X.ex∨X.s₀.heap.objs.size<=b)/\(∀ x c,X.env.cells.lookup x=some c->c≠b)/\∀ p∈X.pn++pz,p.1≠b
theorem Inv.DO {X:Cx}{pz:List (Addr×Obj)}{σ:St}{H H':Hp}{s:ah}{b:Addr}(I:Inv X pz σ H s)(hb:s.heap.objs.size<=b)(hn:H' b=none):kP X pz H' b:=by
 refine⟨hn,mh (bq I.lt hb),I.Cc hb,.inr (bu I.sz hb),fun x c e z=>?_,fun p hp z=>?_⟩
 ·obtain⟨v,q⟩:=I.cell x c e
  exact absurd (bq q.lt (by rw[z];exact hb)) (fj _)
 ·exact absurd (bq (bc (I.pin p hp).1) (by rw[z];exact hb)) (fj _)
structure Turn (P:br)(w:dg)(K:aa)(tg:Expr)(J:It)(fp:List Addr)(it:Addr)(tn:Nat->Heap->Prop):Prop where
 mem:it∈fp
 obj:∀ i h,tn i h->∀ b∈fp,∃ o,h.get? b=some o/\∀ v,o.data≠.cell v
 keep:∀ i h h',tn i h->(∀ b∈fp,∀ o,h.get? b=some o->h'.get? b=some o)->tn i h'
 item:∀(X:Cx),X.prog=P->X.w=w->X.K=K->X.calm=true->∀(i:Nat)(pz:List (Addr×Obj))(s:ah)(σ:St)(H:Hp)(E:af->ah->Prop),Inv X pz σ H s->(∀ b∈fp,kP X pz H b)->tn i s.heap->J.go i H ->
 wpAny (model P w) X.A (rg (.ref it)) (fun r s1=>∃ u,r=some u /\
  wpAny (model P w) X.A (qg tg (.ref it) u) (fun _ s2=>∃ x H',Inv X pz σ H' s2/\RelV x u/\J.yld i H x H'/\tn (i+1) s2.heap/\∀ b∈fp,H' b=none) E s1) E s
 done:∀(X:Cx),X.prog=P->X.w=w->X.K=K->X.calm=true->∀(i:Nat)(pz:List (Addr×Obj))(s:ah)(σ:St)(H:Hp)(E:af->ah->Prop),Inv X pz σ H s->(∀ b∈fp,kP X pz H b)->tn i s.heap->J.stop i H ->
 wpAny (model P w) X.A (rg (.ref it)) (fun r s1=>r=none/\Inv X pz σ H s1) E s
 self:∀(A:cp)(i:Nat)(s:ah)(Q:af->ah->Prop)(E:af->ah->Prop),tn i s.heap->Q (.ref it) s->wpAny (model P w) A (vz (.ref it)) Q E s
abbrev TI:=St->Hp->(It->Hp->Prop)->Prop
def VB (X:Cx)(pz:List (Addr×Obj))(σ:St)(tg:Expr)(R:It->Hp->Prop)(itv:af)(s2:ah):Prop :=
 ∃(it:Addr)(fp:List Addr)(tn:Nat->Heap->Prop)(J:It)(H':Hp),itv=.ref it/\Inv X pz σ H' s2/\Turn X.prog X.w X.K tg J fp it tn/\tn 0 s2.heap/\(∀ b∈fp,kP X pz H' b)/\R J H'
def PI (X:Cx)(tg iter:Expr)(wi:TI):Prop :=
 ∀(pz:List (Addr×Obj))(s:ah)(σ:St)(H:Hp)(R:It->Hp->Prop),Inv X pz σ H s->wi σ H R ->
 wpAny (model X.prog X.w) X.A (eval iter X.env) (fun v s1=>wpAny (model X.prog X.w) X.A (vz v) (VB X pz σ tg R) X.xe s1) X.xe s
theorem FU {M:Model}{A:cp}{E:af->ah->Prop}{s:ah}{tg:Expr}{it:Addr}{u:af}{o:Obj}{n:String}{vs:Array af}{Q:Unit->ah->Prop}(ho:s.heap.get? it=some o)(hc:o.cls=.type n)(hd:o.data=.fields vs)
    (hn:["enumerate","zip","dict_itemiterator","dict_reverseitemiterator","odict_iterator","itertools.zip_longest","itertools.pairwise"].contains n=false)(hQ:Q () s):wpAny M A (qg tg (.ref it) u) Q E s:=by
  unfold qg
  cases tg<;>first
    |exact ak hQ
    |(cases u<;>first
        |exact ak hQ
        | (refine ae (wpAny_load ho ?_)
           rw[hc,hd]
           show wpAny M A (if(["enumerate","zip","dict_itemiterator","dict_reverseitemiterator","odict_iterator","itertools.zip_longest","itertools.pairwise"].contains n&&vs[0]? == some (gd _))=true then _ else _) Q E s
           rw[if_neg (by intro h;rw[hn,i7]at h;cases h)]
           exact ak hQ))
noncomputable def VP (K:aa)(a:Addr):It :=
 ⟨fun i H=>∃ xs x,eJ K H a xs/\xs[i]? = some x,fun i H x H'=>H'=H/\∀ xs,eJ K H a xs->xs[i]? = some x,fun i H=>∃ xs,eJ K H a xs/\xs.length<=i⟩
noncomputable def Ee (K:aa)(a:Addr):It :=
 ⟨fun i H=>∃ xs x,cX K H a xs/\xs[i]? = some x,fun i H x H'=>H'=H/\∀ xs,cX K H a xs->xs[i]? = some x,fun i H=>∃ xs,cX K H a xs/\xs.length<=i⟩
noncomputable def VM (lo:Int)(n:Nat):It:=⟨fun i _=>i<n,fun i H x H'=>H'=H/\x=.int (lo+i),fun i _=>n<=i⟩
theorem N3 {P:br}{w:dg}{K:aa}{tg:Expr}(a it:Addr):Turn P w K tg (VP K a) [it] it (fun i h=>h.IsListIter it a i) where
 mem:=by simp
 obj:=fun i h st b hb=>by
  have e:b=it:=by simpa using hb
  subst e
  obtain⟨o,e,c,d⟩:=st
  exact⟨o,e,fun v z=>by rw[d]at z;cases z⟩
 keep:=fun i h h' st k=>st.at fun o e=>k it (by simp) o e
 item:=by
  intro X hP hw hK hc i pz s σ H E I hf st hg
  subst hP hw hK
  obtain⟨xs,x,hq,hx⟩:=hg
  obtain⟨aD,rv,p,hz⟩:=I.list hq
  obtain⟨u,hu,ru⟩:=rv.get hx
  obtain⟨f0,f1,f2,f3,f4,f5⟩:=hf it (by simp)
  refine wpAny_pyNext_list_item st p.isList (x:=u) (by simpa using hu) fun h' aB sb=>?_
  have I1:Inv X pz σ H { s with heap:=h' }:=I.turned (t':=s.toks) (fun b o hb e=>(sb.2 b hb).trans e) f0 f1 f3 f4 f5
  obtain⟨o,e,c,d⟩:=id aB
  exact⟨u,rfl,FU (s:={ s with heap:=h' }) e c d (by decide) ⟨x,H,I1,ru,⟨rfl,fun ys hy=>by rw[I.pY hy hq];exact hx⟩,aB,fun b hb=>(hf b hb).1⟩⟩
 done:=by
  intro X hP hw hK hc i pz s σ H E I hf st hg
  subst hP hw hK
  obtain⟨xs,hq,hx⟩:=hg
  obtain⟨aD,rv,p,hz⟩:=I.list hq
  obtain⟨f0,f1,f2,f3,f4,f5⟩:=hf it (by simp)
  have hl:=rv.length
  exact wpAny_pyNext_list_end (I.ok.hd hc) st p.isList (by simp;omega) fun h' eb=>⟨rfl,I.turned (t':=s.toks) (fun b o hb e=>eb b o hb e) f0 f1 f3 f4 f5⟩
 self:=fun _ _ _ _ _ st h=>wpAny_pyIter_listiter st h
theorem M8 {P:br}{w:dg}{K:aa}{tg:Expr}(a it:Addr):Turn P w K tg (Ee K a) [it] it (fun i h=>h.IsTupleIter it a i) where
 mem:=by simp
 obj:=fun i h st b hb=>by
  have e:b=it:=by simpa using hb
  subst e
  obtain⟨o,e,c,d⟩:=st
  exact⟨o,e,fun v z=>by rw[d]at z;cases z⟩
 keep:=fun i h h' st k=>st.at fun o e=>k it (by simp) o e
 item:=by
  intro X hP hw hK hc i pz s σ H E I hf st hg
  subst hP hw hK
  obtain⟨xs,x,hq,hx⟩:=hg
  obtain⟨aD,rv,p,hz⟩:=I.tuple hq
  obtain⟨u,hu,ru⟩:=rv.get hx
  obtain⟨f0,f1,f2,f3,f4,f5⟩:=hf it (by simp)
  refine wpAny_pyNext_tuple_item st (show s.heap.IsTuple a aD.toArray from p) (x:=u) (by simpa using hu) fun h' aB sb=>?_
  have I1:Inv X pz σ H { s with heap:=h' }:=I.turned (t':=s.toks) (fun b o hb e=>(sb.2 b hb).trans e) f0 f1 f3 f4 f5
  obtain⟨o,e,c,d⟩:=id aB
  exact⟨u,rfl,FU (s:={ s with heap:=h' }) e c d (by decide) ⟨x,H,I1,ru,⟨rfl,fun ys hy=>by rw[I.lS hy hq];exact hx⟩,aB,fun b hb=>(hf b hb).1⟩⟩
 done:=by
  intro X hP hw hK hc i pz s σ H E I hf st hg
  subst hP hw hK
  obtain⟨xs,hq,hx⟩:=hg
  obtain⟨aD,rv,p,hz⟩:=I.tuple hq
  obtain⟨f0,f1,f2,f3,f4,f5⟩:=hf it (by simp)
  have hl:=rv.length
  exact wpAny_pyNext_tuple_end (I.ok.hd hc) st (show s.heap.IsTuple a aD.toArray from p) (by simp;omega) fun h' eb=>⟨rfl,I.turned (t':=s.toks) (fun b o hb e=>eb b o hb e) f0 f1 f3 f4 f5⟩
 self:=fun _ _ _ _ _ st h=>wpAny_pyIter_tupleiter st h
theorem NA {P:br}{w:dg}{K:aa}{tg:Expr}(it:Addr)(lo:Int)(n:Nat):Turn P w K tg (VM lo n) [it] it (fun i h=>IsRangeIter h it (lo+(i:Nat)*1) ((n:Int)-(i:Nat)) 1) where
 mem:=by simp
 obj:=fun i h st b hb=>by
  have e:b=it:=by simpa using hb
  subst e
  exact⟨_,st,fun v z=>by
   have z':Data.fields _=Data.cell v:=z
   cases z'⟩
 keep:=fun i h h' st k=>k it (by simp) _ st
 item:=by
  intro X hP hw hK hc i pz s σ H E I hf st hg
  subst hP hw hK
  obtain⟨f0,f1,f2,f3,f4,f5⟩:=hf it (by simp)
  have W:=Walks.range (prog:=X.prog) (w:=X.w) (I.ok.hd hc) it lo 1 n
  refine W.item i s _ _ hg st fun v h' tk hv aB kk=>?_
  obtain⟨t,rfl⟩:=hv
  have I1:Inv X pz σ H { s with heap:=h',toks:=tk }:=I.turned (fun b o hb e=>kk b o (by simpa using hb) e) f0 f1 f3 f4 f5
  refine⟨_,rfl,FU (s:={ s with heap:=h',toks:=tk }) (n :="range_iterator") aB rfl rfl (by decide) ⟨.int (lo+i),H,I1,⟨t,?_⟩,⟨rfl,rfl⟩,aB,fun b hb=>(hf b hb).1⟩⟩
  rw[Int.mul_one]
 done:=by
  intro X hP hw hK hc i pz s σ H E I hf st hg
  subst hP hw hK
  obtain⟨f0,f1,f2,f3,f4,f5⟩:=hf it (by simp)
  exact wpAny_pyNext_range_end (I.ok.hd hc) st (by have:n<=i:=hg;omega) fun h' eb=>⟨rfl,I.turned (t':=s.toks) (fun b o hb e=>eb b o hb e) f0 f1 f3 f4 f5⟩
 self:=fun _ _ _ _ _ st h=>wpAny_pyIter_rangeiter st h
end L2
namespace L2
open PySem PySem.Spec PyProof.Rows
section
variable {X:Cx}{tg:Expr}
theorem S5 {pz:List (Addr×Obj)}{σ:St}{H:Hp}{s:ah}{R:It->Hp->Prop}{E:af->ah->Prop}{lo hi:Int}{t u v:Tok}{tk:Nat}(I:Inv X pz σ H s) (h1 : -(2 ^ 62)<=lo)(h2:lo<2 ^ 62) (h3 : -(2 ^ 62)<=hi)(h4:hi<2 ^ 62)
  (q:R (VM lo (hi-lo).toNat) H):wpAny (model X.prog X.w) X.A (vz (.ref s.heap.objs.size)) (VB X pz σ tg R) E { s with heap:=s.heap.push { cls:=.type "range", data:=.fields #[.int lo t,.int hi u,.int 1 v] },toks:=tk }:=by
 refine wpAny_pyIter_range (Sr ..) (small_one h1 h2 h3 h4) ?_
 have I1:Inv X pz σ H { s with heap:=s.heap.push { cls:=.type "range", data:=.fields #[.int lo t,.int hi u,.int 1 v] },toks:=tk }:=I.kept fun b o e=>ag _ e
 refine⟨(s.heap.push { cls:=.type "range", data:=.fields #[.int lo t,.int hi u,.int 1 v] }).objs.size,[(s.heap.push { cls:=.type "range", data:=.fields #[.int lo t,.int hi u,.int 1 v] }).objs.size],_,_,H,rfl,
  I1.kept (t':=tk) fun b o e=>ag _ e,NA _ lo (hi-lo).toNat,?_,fun b hb=>?_,q⟩
 ·have e1:lo+((0:Nat):Int)*1=lo:=by simp
  have e2:(((hi-lo).toNat:Nat):Int)-((0:Nat):Int)=Builtin.Range.rangeSize lo hi 1:=by rw[Rl];split<;>omega
  show IsRangeIter _ _ (lo+((0:Nat):Int)*1) ((((hi-lo).toNat:Nat):Int)-((0:Nat):Int)) 1
  rw[e1,e2]
  exact aw _ rfl
 ·have e:b=(s.heap.push { cls:=.type "range", data:=.fields #[.int lo t,.int hi u,.int 1 v] }).objs.size:=by simpa using hb
  subst e
  exact I1.DO (av _) (I1.bN.fresh (av _))
noncomputable def Gz (ta:TA):TI:=fun σ H R=>ta σ H fun vs H1=>∃ j:Int,vs=[.int j]/\-(2 ^ 62)<=j/\j<2 ^ 62/\R (VM 0 j.toNat) H1
theorem OR {a:Expr}{ta:TA}{p pos:Pos}(hg:Gl X "range")(hm:X.mg "range" = none)(ha:PA X [a] ta)(hs:ai [a] X.env=[(false,eval a X.env)]:=by rfl):PI X tg (.Call (.Name "range" p) [a] [] pos) (Gz ta):=by
 intro pz s σ H R I h
 refine Call_ (jV I hg hm boot_range (dq (aY (ha pos pz s σ H _ I h) fun us s1 ⟨vs,H1,I1,r1,q1⟩=>?_) hs rfl))
 obtain⟨j,e,q1,q2,q⟩:=q1
 subst e
 cases r1 with
 |cons r rr =>
 cases rr
 obtain⟨t,rfl⟩:=r
 exact Sb (S5 I1 (by omega) (by omega) q1 q2 (by simpa using q))
noncomputable def Mi (wi:TI)(g:TG)(tb:TS):TS:=fun D σ H=>wi σ H fun J H1=>∃ W:Nat->Nat->St->Hp->Prop,(∃ m,W 0 m σ H1)/\∀ i m σ H,W i m σ H ->
 (J.stop i H/\D.nx σ H)∨(J.go i H/\∃ N:St->Hp->Prop,(∀ σ' H',N σ' H'->∃ m',m'<m/\W (i+1) m' σ' H')/\∀ x H',J.yld i H x H'->g x σ H' fun σ2 H2=>tb { D with nx:=N,ct:=N,bk:=D.nx } σ2 H2)
noncomputable def vO (fp:List Addr)(h:Heap):List (Addr×Obj):=fp.filterMap fun b=>(h.get? b).map fun o=>(b,o)
theorem uF {fp:List Addr}{h:Heap}{b:Addr}{o:Obj}(hb:b∈fp)(e:h.get? b=some o):(b,o)∈vO fp h:=List.mem_filterMap.mpr ⟨b,hb,by rw[e];rfl⟩
theorem QF {fp:List Addr}{h:Heap}{p:Addr×Obj}(hp:p∈vO fp h):p.1∈fp/\h.get? p.1=some p.2:=by
 obtain⟨b,hb,e⟩:=List.mem_filterMap.mp hp
 cases q:h.get? b with
 |none=>rw[q]at e;cases e
 |some o =>
 rw[q]at e
 have e':(b,o)=p:=cy e
 subst e'
 exact⟨hb,q⟩
theorem Inv.pinned {pz:List (Addr×Obj)}{σ:St}{H:Hp}{s:ah}{fp:List Addr}(I:Inv X pz σ H s)(hf:∀ b∈fp,kP X pz H b)(ho:∀ b∈fp,∃ o,s.heap.get? b=some o/\∀ v,o.data≠.cell v):Inv X (pz++vO fp s.heap) σ H s :=
 I.KP fun p hp=>(List.mem_append.mp hp).elim (fun z=>I.pin p (fu _ z)) fun z=>by
 obtain⟨hb,e⟩:=QF z
 obtain⟨f0,f1,f2,_⟩:=hf p.1 hb
 obtain⟨o,e',d⟩:=ho p.1 hb
 rw[e]at e';cases e'
 exact⟨e,f0,f1,f2,d⟩
theorem Inv.tW {pz pl:List (Addr×Obj)}{σ:St}{H:Hp}{s:ah}(I:Inv X (pz++pl) σ H s):Inv X pz σ H s:=I.KP fun p hp=>I.pin p (fu _ (l9 _ hp))
theorem ZL {iter:Expr}{body:List Stmt}{wi:TI}{g:TG}{tb:TS}{pos:Pos}(hp:qz (model X.prog X.w) X.A X.env X.xe)(hc:X.calm=true)(hi:PI X tg iter wi)(hg:PG X tg g)(hb:kA X body tb)
  (hs:∀ x,gu iter X.env x=pure x:=by intro _;rfl):PS X (.For tg iter body [] pos) (Mi wi g tb):=by
 intro pz s σ H D I h
 refine wpAny_For (aY (hi pz s σ H _ I h) fun v s1 h1=>aY h1 fun itv s2 h2=>?_) hs
 obtain⟨it,fp,tn,J,H2,e,I2,T,aF,f2,W,⟨m0,w0⟩,turn⟩:=h2
 subst e
 have stat:∀{H':Hp},(∀ b∈fp,H' b=none)->∀ b∈fp,kP X pz H' b:=fun hn b hb=>⟨hn b hb,(f2 b hb).2⟩
 refine codeAny_forLoop_any (fun n s'=>∃ i σ' H',Inv X pz σ' H' s'/\tn i s'.heap/\(∀ b∈fp,H' b=none)/\W i n σ' H') ?_ m0 ⟨0,σ,H2,I2,aF,fun b hb=>(f2 b hb).1,w0⟩
 rintro n s3 ⟨i,σ3,H3,I3,bK,fr3,w3⟩
 rcases turn i n σ3 H3 w3 with⟨stop,qn⟩|⟨go,N,hN,step⟩
 ·refine j6 hp (aY (T.done X rfl rfl rfl hc i pz s3 σ3 H3 X.xe I3 (stat fr3) bK stop) fun r s4 ⟨hr,I4⟩=>?_)
  subst hr
  exact vc ⟨σ3,H3,I4,qn⟩
 ·refine j6 hp (aY (T.item X rfl rfl rfl hc i pz s3 σ3 H3 X.xe I3 (stat fr3) bK go) fun r s4 ⟨u,hr,h4⟩=>?_)
  subst hr
  refine j6 hp (aY h4 fun _ s5 ⟨x,H5,I5,r5,y5,dG,fr5⟩=>?_)
  have I5':=I5.pinned (stat fr5) (T.obj _ _ dG)
  refine j6 hp (aY (hg _ s5 σ3 H5 x u _ I5' r5 (step x H5 y5)) fun _ s6 ⟨σ6,H6,I6,q6⟩=>?_)
  refine j6 hp (aY (hb _ s6 σ6 H6 _ I6 q6) fun f s7 q7=>?_)
  have again:∀{σ7:St}{H7:Hp},Inv X (pz++vO fp s5.heap) σ7 H7 s7->N σ7 H7->∃ m,m<n/\∃ i σ' H',Inv X pz σ' H' s7/\tn i s7.heap/\(∀ b∈fp,H' b=none)/\W i m σ' H':=fun{σ7 H7} I7 n7=>by
   obtain⟨m',hm,w7⟩:=hN σ7 H7 n7
   refine⟨m',hm,i+1,σ7,H7,I7.tW,T.keep _ _ _ dG fun b hb o e=>(I7.pin (b,o) (fu _ (fu _ (uF hb e)))).1,fun b hb=>?_,w7⟩
   obtain⟨o,e,d⟩:=T.obj _ _ dG b hb
   exact(I7.pin (b,o) (fu _ (fu _ (uF hb e)))).2.1
  cases f with
  |next=>obtain⟨σ7,H7,I7,n7⟩:=q7;exact again I7 n7
  |cont=>obtain⟨σ7,H7,I7,n7⟩:=q7;exact again I7 n7
  |brk=>obtain⟨σ7,H7,I7,q7⟩:=q7;exact⟨σ7,H7,I7.tW,q7⟩
  |ret v=>obtain⟨x7,σ7,H7,I7,r7,q7⟩:=q7;exact⟨x7,σ7,H7,I7.tW,r7,q7⟩
end
end L2
namespace L2
open PySem PySem.Spec PyProof.Rows
abbrev R2:=V->V->Hp->VK->Prop
def gW (X:Cx)(f:af->af->Sem af)(r:R2):Prop :=
 ∀(pz:List (Addr×Obj))(s:ah)(σ:St)(H:Hp)(x y:V)(v u:af)(Q:VK),Inv X pz σ H s->RelV x v->RelV y u->r x y H Q ->
 wpAny (model X.prog X.w) X.A (f v u) (EP X pz σ Q) X.xe s
def uC (X:Cx)(f:af)(r:List V->Hp->VK->Prop):Prop :=
 ∀(pz:List (Addr×Obj))(s:ah)(σ:St)(H:Hp)(xs:List V)(us:List af)(Q:VK),Inv X pz σ H s->aO xs us->r xs H Q ->
 wpAny (model X.prog X.w) X.A (call f us) (EP X pz σ Q) X.xe s
def Ml (X:Cx)(r:V->Hp->(Bool->Hp->Prop)->Prop):Prop :=
 ∀(pz:List (Addr×Obj))(s:ah)(σ:St)(H:Hp)(x:V)(v:af)(Q:Bool->Hp->Prop),Inv X pz σ H s->RelV x v->r x H Q ->
 wpAny (model X.prog X.w) X.A (Tj v) (TP X pz σ Q) X.xe s
noncomputable def Bu (r:R2)(ta tb:TE):TE:=fun σ H Q=>ta σ H fun x H1=>tb σ H1 fun y H2=>r x y H2 Q
noncomputable def rI (C:Int->Int->Prop)(g:Int->Int->V):R2:=fun x y H Q=>∃ i j,x=.int i/\y=.int j/\C i j/\Q (g i j) H
noncomputable def JR (g:Int->Int->V):R2:=fun x y H Q=>∃ i j,x=.int i/\y=.int j/\Q (g i j) H
section
variable {X:Cx}{a b c:Expr}{ta tb tc:TE}{pos:Pos}
theorem Z1 (ha:PE X a ta)(hb:PE X b tb){pz:List (Addr×Obj)}{s:ah}{σ:St}{H:Hp}{R:V->V->Hp->Prop}(I:Inv X pz σ H s)
 (h:ta σ H fun x H1=>tb σ H1 fun y H2=>R x y H2){Q:af->ah->Prop}{f:af->af->Sem af}
 (hf:∀ v u s2 x y H2,Inv X pz σ H2 s2->RelV x v->RelV y u->R x y H2->wpAny (model X.prog X.w) X.A (f v u) Q X.xe s2):
 wpAny (model X.prog X.w) X.A (eval a X.env) (fun v s₁=>wpAny (model X.prog X.w) X.A (eval b X.env) (fun u s₂=>wpAny (model X.prog X.w) X.A (f v u) Q X.xe s₂) X.xe s₁) X.xe s:=by
 refine aY (ha pz s σ H _ I h) fun v s1 ⟨x,H1,I1,r1,q1⟩=>?_
 refine aY (hb pz s1 σ H1 _ I1 q1) fun u s2 ⟨y,H2,I2,r2,q2⟩=>?_
 exact hf v u s2 x y H2 I2 r1 r2 q2
theorem Iy {op:Operator}{r:R2}(ho:gW X (i9 op) r)(ha:PE X a ta)(hb:PE X b tb):PE X (.BinOp a op b pos) (Bu r ta tb):=by
 intro pz s σ H Q I h
 exact wpAny_BinOp (Z1 ha hb I h fun v u s2 x y H2 I2 rx ry q=>ho pz s2 σ H2 x y v u Q I2 rx ry q)
theorem VQ {f:af->af->Sem af}{C:Int->Int->Prop}{g:Int->Int->Int}
 (rule:∀(i j:Int)(t u:Tok)(s:ah)(Q:af->ah->Prop)(E:af->ah->Prop),C i j->Q (.int (g i j) s.toks) { s with toks:=s.toks+1 }->wpAny (model X.prog X.w) X.A (f (.int i t) (.int j u)) Q E s):
 gW X f (rI C fun i j=>.int (g i j)):=by
 intro pz s σ H x y v u Q I rx ry h
 obtain⟨i,j,rfl,rfl,hc,q⟩:=h
 obtain⟨t,rfl⟩:=rx
 obtain⟨t',rfl⟩:=ry
 exact rule i j t t' s _ _ hc ⟨.int (g i j),H,I.tok _,⟨_,rfl⟩,q⟩
theorem Bz {f:af->af->Sem af}{g:Int->Int->Int}
 (rule:∀(i j:Int)(t u:Tok)(s:ah)(Q:af->ah->Prop)(E:af->ah->Prop),Q (.int (g i j) s.toks) { s with toks:=s.toks+1 }->wpAny (model X.prog X.w) X.A (f (.int i t) (.int j u)) Q E s):
 gW X f (JR fun i j=>.int (g i j)):=by
 intro pz s σ H x y v u Q I rx ry h
 obtain⟨i,j,rfl,rfl,q⟩:=h
 obtain⟨t,rfl⟩:=rx
 obtain⟨t',rfl⟩:=ry
 exact rule i j t t' s _ _ ⟨.int (g i j),H,I.tok _,⟨_,rfl⟩,q⟩
def Cw (i j:Int):Prop:=0<j/\j<1073741824
def Cp (i j:Int):Prop:=0<=j/\j<=1000000/\i.natAbs<2 ^ 64
def ML (i j:Int):Prop:=(-(2 ^ 64)<i/\i<2 ^ 64)∨(-(2 ^ 64)<j/\j<2 ^ 64)
theorem ML.ok {i j:Int}(h:ML i j):IntMulOk i j:=by
 rcases h with⟨h1,h2⟩|⟨h1,h2⟩
 ·exact .of_left (Rm h1 h2)
 ·exact .of_right (Rm h1 h2)
theorem ZK:gW X (i9 .Add) (JR fun i j=>.int (i+j)):=Bz fun _ _ _ _ _ _ _ q=>add_int q
theorem Cz:gW X (i9 .Sub) (JR fun i j=>.int (i-j)):=Bz fun _ _ _ _ _ _ _ q=>sub_int q
theorem Am:gW X (i9 .Mult) (rI ML fun i j=>.int (i*j)):=VQ fun _ _ _ _ _ _ _ hc q=>mul_int q hc.ok
theorem X3:gW X (i9 .FloorDiv) (rI Cw fun i j=>.int (i / j)):=VQ fun i j _ _ _ _ _ hc q=>by
 have h1:(0:Int)<j:=hc.1
 have h2:j<1073741824:=hc.2
 exact floordiv_int (by omega) (by rw[Int.fdiv_eq_ediv_of_nonneg i (by omega)];exact q) (.inl (PyProof.noPylong_small (by omega)))
theorem ZU:gW X (i9 .Mod) (rI (fun _ j=>0<j) fun i j=>.int (i % j)):=VQ fun i j _ _ _ _ _ hc q=>by
 have h1:(0:Int)<j:=hc
 exact mod_int' (by omega) (by rw[Int.fmod_eq_emod_of_nonneg i (by omega)];exact q)
theorem Ai:gW X (i9 .Pow) (rI Cp fun i j=>.int (i ^ j.toNat)):=VQ fun _ _ _ _ _ _ _ hc q=>pow_int_small hc.1 hc.2.1 hc.2.2 q
end
section
variable {X:Cx}{a b c:Expr}{ta tb tc:TE}{pos:Pos}
theorem Ed {pz:List (Addr×Obj)}{σ:St}{H:Hp}{s:ah}{Q:VK}{k k':Bool}(I:Inv X pz σ H s)(q:Q (.bl k) H)(e:k=k'):EP X pz σ Q (.bool k') s:=by
 subst e
 exact⟨.bl k,H,I,rfl,q⟩
theorem P5:gW X (ub .In) (fun x y H Q=>∃ i j,x=.str i/\y=.str j/\Q (.bl (!(oh j i 0 j.length 1).isEmpty)) H):=by
 intro pz s σ H x y v u Q I rx ry h
 obtain⟨i,j,rfl,rfl,q⟩:=h
 obtain⟨t,rfl⟩:=rx
 obtain⟨t',rfl⟩:=ry
 exact in_str (Ed I q rfl)
theorem gW.or {f:af->af->Sem af}{r r':R2}(h:gW X f r)(h':gW X f r'):gW X f (fun x y H Q=>r x y H Q∨r' x y H Q):=by
 intro pz s σ H x y v u Q I rx ry q
 rcases q with q|q
 ·exact h pz s σ H x y v u Q I rx ry q
 ·exact h' pz s σ H x y v u Q I rx ry q
def SQ (K:aa)(x:V)(H:Hp)(k:Bool):Prop :=
 match x with
 |.non=>k=false
 |.bl b=>k=b
 |.int i=>k=(i != 0)
 |.str y=>y.length<=sizeLine/\k=((y.length:Int) != 0)
 |.byt y=>y.size<=sizeLine/\k=((y.size:Int) != 0)
 |.ref p=>(∃ xs,eJ K H p xs/\k = !xs.isEmpty)∨(∃ xs,cX K H p xs/\k = !xs.isEmpty)∨∃ gY,H p=some (.dK gY)/\k = !gY.isEmpty
 |_=>False
theorem MN {κ:Type}{gY:List (κ×V)}{vs:List (κ×Value)}(r:KV gY vs):(!vs.isEmpty) = !gY.isEmpty:=by
 cases r<;>rfl
theorem BQ {xs:List V}{aD:List af}(r:aO xs aD):(!aD.toArray.isEmpty) = !xs.isEmpty:=by
 cases r<;>simp
theorem qF:(sizeLine:Nat)<2 ^ 63:=by rw[jr];decide
theorem HG:Ml X (fun x H Q=>∃ k,SQ X.K x H k/\Q k H):=by
 intro pz s σ H x v Q I rx h
 obtain⟨k,e,q⟩:=h
 have hl:=qF
 have hs:sizeLine=16777216:=jr
 cases x with
 |non =>
 cases rx
 have e':k=false:=e
 subst e'
 exact truthy_none ⟨H,I,q⟩
 |bl b =>
 cases rx
 have e':k=b:=e
 subst e'
 exact jc ⟨H,I,q⟩
 |int i =>
 obtain⟨t,rfl⟩:=rx
 have e':k=(i != 0):=e
 subst e'
 exact PySem.P.truthy_int ⟨H,I,q⟩
 |str y =>
 obtain⟨t,rfl⟩:=rx
 obtain⟨hy,e'⟩:y.length<=sizeLine/\k=((y.length:Int) != 0):=e
 subst e'
 exact PySem.P.truthy_str (by omega) ⟨H,I.tok _,q⟩
 |byt y =>
 obtain⟨t,rfl⟩:=rx
 obtain⟨hy,e'⟩:y.size<=sizeLine/\k=((y.size:Int) != 0):=e
 subst e'
 exact PySem.W.truthy_bytes (by omega) ⟨H,I.tok _,q⟩
 |ref p =>
 cases rx
 have e':(∃ xs,eJ X.K H p xs/\k = !xs.isEmpty)∨(∃ xs,cX X.K H p xs/\k = !xs.isEmpty)∨∃ gY,H p=some (.dK gY)/\k = !gY.isEmpty:=e
 rcases e' with⟨xs,hx,e'⟩|⟨xs,hx,e'⟩|⟨gY,hx,e'⟩
 ·subst e'
  obtain⟨aD,r,pl,hz⟩:=I.list hx
  have hlen:=r.length
  exact wpAny_truthy_list pl.isList (by simp only[ao];omega) ⟨H,I.tok _,by rw[BQ r];exact q⟩
 ·subst e'
  obtain⟨aD,r,pl,hz⟩:=I.tuple hx
  have hlen:=r.length
  exact truthy_tuple pl (by simp only[ao];omega) ⟨H,I.tok _,by rw[BQ r];exact q⟩
 ·subst e'
  obtain⟨hz,hS,vs,r,m⟩:gY.length<=sizeLine/\(p==l8)=false/\∃ vs,KV gY vs/\s.heap.DictOf (DL X.prog X.w) p vs:=I.bN p _ hx
  have hlen:gY.length=vs.length:=Rk r
  exact wpAny_truthy_dict hS m (by omega) ⟨H,I.tok _,by rw[MN r];exact q⟩
 |_=>exact(show False from e).elim
theorem SO (ha:PE X a ta)(he:∀ whole,Qv a X.env whole=(do let v <-whole;oq a.pos;kg [v] (Tj v))):
 PT X a (fun σ H Q=>ta σ H fun x H'=>∃ k,SQ X.K x H' k/\Q k H'):=by
 intro pz s σ H Q I h
 exact isTrue_plain (aY (ha pz s σ H _ I h) fun v s1 ⟨x,H1,I1,r1,q1⟩=>HG pz s1 σ H1 x v Q I1 r1 q1) (he _)
theorem M5:gW X (i9 .Add) (fun x y H Q=>∃ i j,x=.str i/\y=.str j/\i.length+j.length<=sizeLine/\Q (.str (i++j)) H):=by
 intro pz s σ H x y v u Q I rx ry h
 obtain⟨i,j,rfl,rfl,hz,q⟩:=h
 obtain⟨t,rfl⟩:=rx
 obtain⟨t',rfl⟩:=ry
 exact add_str (fun t' tk=>⟨.str (i++j),H,I.tok _,⟨_,rfl⟩,q⟩) hz
theorem vals1 {x:V}{us:List af}(r:aO [x] us):∃ u,us=[u]/\RelV x u:=by
 cases r with
 |cons r1 r2=>cases r2;exact⟨_,rfl,r1⟩
def Z8 (K:aa)(x:V)(H:Hp)(n:Nat):Prop :=
 match x with
 |.str y=>y.length<=sizeLine/\n=y.length
 |.byt y=>y.size<=sizeLine/\n=y.size
 |.ref p=>(∃ xs,eJ K H p xs/\n=xs.length)∨∃ xs,cX K H p xs/\n=xs.length
 |_=>False
theorem TU:uC X (.builtin "len") (fun xs H Q=>∃ x n,xs=[x]/\Z8 X.K x H n/\Q (.int n) H):=by
 intro pz s σ H xs us Q I r h
 obtain⟨x,n,rfl,e,q⟩:=h
 obtain⟨u,rfl,rx⟩:=vals1 r
 have hl:=qF
 have hs:sizeLine=16777216:=jr
 cases x with
 |str y =>
 obtain⟨t,rfl⟩:=rx
 obtain⟨hy,e'⟩:y.length<=sizeLine/\n=y.length:=e
 subst e'
 exact len_str (by omega) ⟨.int _,H,I.tok _,⟨_,rfl⟩,q⟩
 |byt y =>
 obtain⟨t,rfl⟩:=rx
 obtain⟨hy,e'⟩:y.size<=sizeLine/\n=y.size:=e
 subst e'
 exact PySem.W.len_bytes (by omega) ⟨.int _,H,I.tok _,⟨_,rfl⟩,q⟩
 |ref p =>
 cases rx
 have e':(∃ xs,eJ X.K H p xs/\n=xs.length)∨∃ xs,cX X.K H p xs/\n=xs.length:=e
 rcases e' with⟨xs,hx,e'⟩|⟨xs,hx,e'⟩
 ·subst e'
  obtain⟨aD,r',pl,hz⟩:=I.list hx
  have hlen:=r'.length
  exact Calls.call_len_list pl.isList (by simp only[ao];omega) ⟨.int xs.length,H,I.tok _,⟨_,by simp only[ao];rw[hlen]⟩,q⟩
 ·subst e'
  obtain⟨aD,r',pl,hz⟩:=I.tuple hx
  have hlen:=r'.length
  exact Rv pl (by simp only[ao];omega) ⟨.int xs.length,H,I.tok _,⟨_,by simp only[ao];rw[hlen]⟩,q⟩
 |_=>exact(show False from e).elim
end
end L2
namespace L2
open PySem PySem.Spec PyProof.Rows
structure AV (h:Heap)(x dx C:Addr)(mA:Str->Option af):Prop where
 obj:h.get? x=some (jf C dx)
 ns:h.Ns1 dx mA
 ne:dx≠x
set_option tactic.hygienic true in
theorem PQ {h:Heap}{dx:Addr}{mA:Str->Option af}(n:h.Ns1 dx mA):∃ od,h.get? dx=some od/\∀ name,rh name od=some (mA name):=by
 obtain⟨o,es,ep,ho,hd,hk,_,hm⟩:=n
 refine⟨o,ho,fun name=>?_⟩
 have e:=hm name
 unfold nsFind findBy at e
 rw[<-Array.find?_toList]at e
 unfold rh
 rw[hd]
 dsimp only
 split
 ·rename_i y q
  rw[q]at e
  exact congrArg some e
 ·rename_i q
  rw[q]at e
  have a:es.toList.any (·.refKey)=false:=by
   rw[td]
   intro y hy
   obtain⟨z,t,hkey⟩:=hk y (Array.mem_toList_iff.mp hy)
   simp [DictEntry.refKey,hkey]
  have a':¬es.toList.any (·.refKey)=true:=by rw[a];exact g9
  rw[if_neg a']
  exact congrArg some e
theorem AV.look {h:Heap}{x dx C:Addr}{mA:Str->Option af}(I:AV h x dx C mA):∃ od,PySem.W.InstAt h x (jf C dx) C (some od)/\∀ name,rh name od=some (mA name) :=
 let⟨od,ho,hl⟩:=PQ I.ns
 ⟨od,⟨I.obj,rfl,rfl,ho⟩,hl⟩
section
variable {prog:br}{w:dg}{A:cp}{E:af->ah->Prop}{s:ah}{K:aa}{x dx C f:Addr}{mA:Str->Option af}{name:Str}{v:af}
theorem get_map {expr:Bool}{Q:af->ah->Prop}(X:K.In s.heap)(I:AV s.heap x dx C mA)(hg:ki K C name=true)(hh:lz K C=true)
 (ha:ez K (.ref C) name=some none)(hv:mA name=some v)(hv':zj v=true)(h:Q v { s with toks:=s.toks+1 }):
 wpAny (model prog w) A (Tq (.ref x) name expr) Q E s:=by
 obtain⟨od,J,hl⟩:=I.look
 exact PySem.W.get_value X J (qq hg).1 (PySem.W.findObj_own hh ha rfl (by rw[hl,hv])) hv' h
theorem RR {pl:Sem Bool}{Q:Value×List af->ah->Prop}(X:K.In s.heap)(I:AV s.heap x dx C mA)(hg:ki K C name=true)
 (hf:ez K (.ref C) name=some (some (.ref f)))(ht:qv K (.ref f)=true)(hv:mA name=none)(h:Q (.ref f,[.ref x]) s):
 wpAny (model prog w) A (uc (.ref x) name pl) Q E s:=by
 obtain⟨od,J,hl⟩:=I.look
 exact PySem.W.method_fn X J (qq hg).1 (qq hg).2 hf (beq_iff_eq.mp ht) (by show(rh name od).map (·.isSome)=some false;rw[hl,hv];rfl) h
theorem X2 {ns:List Str}{Q:Unit->ah->Prop}(X:K.In s.heap)(I:AV s.heap x dx C mA)
 (hs:ez K (.ref C) "__setattr__" = some (some (.builtin "object.__setattr__")))(hp:ot K C=true)(ht:ve K C name=some none)(hh:lz K C=true)
 (hw:yk mA ns)(iD:ns.length<=sizeLine)
 (h:∀ h',AV h' x dx C (fun y=>if y=name then some v else mA y)->j9 dx s.heap h'->Q () { s with heap:=h',toks:=s.toks+2 }):
 wpAny (model prog w) A (setAttr (.ref x) name v) Q E s:=by
 obtain⟨od,J,hl⟩:=I.look
 refine PySem.W.set_plain X J hs (PySem.W.osa_open (s:={ s with toks:=s.toks+1 }) (r:=none) X J hp ht fun b=>?_)
 obtain⟨cd,hc,hd'⟩:=PySem.W.any_some hh
 have hx:s.heap.get? x=some ⟨.ref C,some dx,.plain,#[]⟩:=I.obj
 refine ae (ak (ae (ae (wpAny_loadPart hx (ae (PySem.W.Looks.here (s:={ s with toks:=s.toks+1 }) (PySem.W.looks_clsIn X hc) ?_))))))
 rw[hd']
 refine ak (a:=some dx) (ae (ak (ae ?_)))
 refine wpAny_nsSet1 (s:={ s with toks:=s.toks+1 }) I.ns fun h' hn2 hs2=>?_
 obtain⟨oD,esD,epD,hoD,hdD,hcD⟩:=hn2.count (PySem.Within.cons name v hw)
 refine ae (wpAny_lookBehind hoD (by rw[hdD];exact pastItsLine_dict (bu hcD (by rw[a9];omega))) ?_)
 exact ak (h _ ⟨(hs2.2 _ (jn I.ne)).trans I.obj,hn2,I.ne⟩ hs2)
theorem UJ {R:Sd->ah->Prop}{vs:List af}{kw:List (Str×Value)}(X:K.In s.heap)(hm:vf K C=true)
 (hi:ez K (.ref C) "__init__" = some (some (.ref f)))(hf:PySem.W.typeIn K (.ref f)=some (.type "function"))
 (h:ku (model prog w) (A.under (.builtin "type.__call__" ⟨.ref C::vs,kw⟩)) (.call (.ref f) ⟨.ref (s.heap.objs.size+1)::vs,kw⟩) (PySem.W.InitBack (s.heap.objs.size+1) R)
  { s with heap:=(s.heap.push gv).push (jf C s.heap.objs.size) }):
 ku (model prog w) A (.call (.ref C) ⟨vs,kw⟩) R s:=by
 obtain⟨hh,g,d,t,os⟩:=s
 exact PySem.W.make_core (PySem.W.makes_of X hm) (PySem.W.looks_findIn X hi) (fun self=>PySem.W.bind_fn X self hf) (.inl rfl) h
end
noncomputable def iE (f:Str)(v:V):List (Str×V)->List (Str×V)
 |[]=>[(f,v)]
 |(g,x)::r=>if g=f then(g,v)::r else(g,x)::iE f v r
theorem yY (f g:Str)(v:V):∀ fs:List (Str×V),(iE f v fs).lookup g=if g=f then some v else fs.lookup g
 |[]=>by
  show gy g [(f,v)]=_
  by_cases h:g=f
  ·have hb:(g==f)=true:=beq_iff_eq.mpr h
   simp only[gy,hb,if_pos h]
  ·have hb:(g==f)=false:=beq_eq_false_iff_ne.mpr h
   simp only[gy,hb,if_neg h]
 |(k,x)::r=>by
  have ih:=yY f g v r
  rw[show iE f v ((k,x)::r)=(if k=f then(k,v)::r else(k,x)::iE f v r)from rfl]
  by_cases hk:k=f
  ·rw[if_pos hk]
   by_cases h:g=k
   ·have hb:(g==k)=true:=beq_iff_eq.mpr h
    simp only[gy,hb,if_pos (h.trans hk)]
   ·have hb:(g==k)=false:=beq_eq_false_iff_ne.mpr h
    simp only[gy,hb,if_neg (fun e:g=f=>h (e.trans hk.symm))]
  ·rw[if_neg hk]
   by_cases h:g=k
   ·have hb:(g==k)=true:=beq_iff_eq.mpr h
    simp only[gy,hb,if_neg (fun e:g=f=>hk (h.symm.trans e))]
   ·have hb:(g==k)=false:=beq_eq_false_iff_ne.mpr h
    simp only[gy,hb]
    exact ih
theorem xH (f:Str)(v:V):∀ fs:List (Str×V),f∈(iE f v fs).map (·.1)/\∀ g,g∈fs.map (·.1)->g∈(iE f v fs).map (·.1)
 |[]=>⟨by simp [iE],fun g h=>by simp at h⟩
 |(k,x)::r=>by
  obtain⟨i1,i2⟩:=xH f v r
  rw[show iE f v ((k,x)::r)=(if k=f then(k,v)::r else(k,x)::iE f v r)from rfl]
  by_cases hk:k=f
  ·rw[if_pos hk]
   subst hk
   exact⟨by simp,fun g h=>by simpa using h⟩
  ·rw[if_neg hk]
   refine⟨?_,fun g h=>?_⟩
   ·rw[aq]
    exact cg _ i1
   ·rw[aq]at h ⊢
    rcases List.mem_cons.mp h with e|e
    ·exact List.mem_cons.mpr (.inl e)
    ·exact cg _ (i2 g e)
theorem zL (f:Str)(v:V):∀ fs:List (Str×V),(iE f v fs).length<=fs.length+1
 |[]=>by simp [iE]
 |(k,x)::r=>by
  have ih:=zL f v r
  rw[show iE f v ((k,x)::r)=(if k=f then(k,v)::r else(k,x)::iE f v r)from rfl]
  by_cases hk:k=f
  ·rw[if_pos hk,a9,a9];omega
  ·rw[if_neg hk,a9,a9];omega
theorem rG.some_of {v:V}{o:Option af}(r:rG (some v) o):∃ u,o=some u/\RelV v u:=by
 cases o with
 |none=>exact(show False from r).elim
 |some u=>exact⟨u,rfl,r⟩
theorem rG.none_of {o:Option af}(r:rG none o):o=none:=by
 cases o with
 |none=>rfl
 |some u=>exact(show False from r).elim
theorem OA {v:V}{u:af}(r:RelV v u):zj u=true:=by
 cases v with
 |non=>cases (show u=g6 from r);rfl
 |bl b=>cases (show u=rb b from r);rfl
 |int i=>obtain⟨t,e⟩:=(show ∃ t,u=Ru i t from r);cases e;rfl
 |str x=>obtain⟨t,e⟩:=(show ∃ t,u=zi x t from r);cases e;rfl
 |byt b=>obtain⟨t,e⟩:=(show ∃ t,u=Sm b t from r);cases e;rfl
 |flt b=>obtain⟨t,e⟩:=(show ∃ t,u=Sn b t from r);cases e;rfl
 |ref a=>cases (show u=gf a from r);rfl
 |ty n=>cases (show u=gb n from r);rfl
section
variable {P:br}{w:dg}{H H':Hp}{h h':Heap}{a C dx:Addr}{fs fs':List (Str×V)}
theorem DI (bN:gQ P w H h)(e:H a=some (.ins C dx fs)):∃ mA,AV h a dx C mA/\(∀ f,rG (fs.lookup f) (mA f))/\yk mA (fs.map (·.1))/\fs.length<=1000/\H dx=some (.own a):=by
 obtain⟨d,z,ne,ob,mA,n,r,q⟩:=(show jF P w H h a (.ins C dx fs)from bN a _ e)
 exact⟨mA,⟨ob,n,ne⟩,r,q,z,d⟩
end
structure sW (K:aa)(C:Addr):Prop where
 pg:ki K C Rw=true
 hd:lz K C=true
 po:ot K C=true
 sa:ez K (.ref C) "__setattr__" = some (some (.builtin "object.__setattr__"))
theorem sW.get {K:aa}{C:Addr}(c:sW K C)(f:Str):ki K C f=true:=c.pg
def pZ (K:aa)(C:Addr)(f:Str):Prop:=ez K (.ref C) f=some none
theorem pZ.Hi {K:aa}{C:Addr}{f:Str}(n:pZ K C f):ve K C f=some none:=by
 unfold ve
 rw[show ez K (.ref C) f=some none from n]
 rfl
structure DK (K:aa)(C:Addr)(m:Str)(f:Addr):Prop where
 at_:ez K (.ref C) m=some (some (.ref f))
 fn:qv K (.ref f)=true
 kp:fe K (.ref f)=true
section
variable {X:Cx}{pz:List (Addr×Obj)}{σ:St}{H:Hp}{s:ah}{a C dx:Addr}{fs:List (Str×V)}{f:Str}{v:V}{A:cp}{E:af->ah->Prop}
theorem NB {b:Bool}{Q:af->ah->Prop}(I:Inv X pz σ H s)(e:H a=some (.ins C dx fs))(c:sW X.K C)(n:pZ X.K C f)(l:fs.lookup f=some v)
 (h:∀ u s',Inv X pz σ H s'->RelV v u->Q u s'):wpAny (model X.prog X.w) A (Tq (.ref a) f b) Q E s:=by
 obtain⟨mA,O,r,_,_,_⟩:=DI I.bN e
 obtain⟨u,hu,ru⟩:=rG.some_of (v:=v) (o:=mA f) (by rw[<-l];exact r f)
 exact get_map I.iN O (c.get f) c.hd n hu (OA ru) (h u _ (I.tok _) ru)
theorem BR {m:Str}{g:Addr}{pl:Sem Bool}{Q:Value×List af->ah->Prop}(I:Inv X pz σ H s)(e:H a=some (.ins C dx fs))(c:sW X.K C)(k:DK X.K C m g)(l:fs.lookup m=none)
 (h:Q (.ref g,[.ref a]) s):wpAny (model X.prog X.w) A (uc (.ref a) m pl) Q E s:=by
 obtain⟨mA,O,r,_,_,_⟩:=DI I.bN e
 have hn:mA m=none:=rG.none_of (by rw[<-l];exact r m)
 exact RR I.iN O (c.get m) k.at_ k.fn hn h
theorem MC {y:V}{u:af}{Q:Unit->ah->Prop}(I:Inv X pz σ H s)(e:H a=some (.ins C dx fs))(c:sW X.K C)(n:pZ X.K C f)(hl:fs.length<1000)(ry:RelV y u)
  (h:∀ s',Inv X pz σ (upd H a (.ins C dx (iE f y fs))) s'->Q () s'):wpAny (model X.prog X.w) A (setAttr (.ref a) f u) Q E s:=by
 obtain⟨mA,O,r,wi,_,ho⟩:=DI I.bN e
 have hz:(fs.map (·.1)).length<=sizeLine:=by rw[ab,jr];omega
 refine X2 I.iN O c.sa c.po n.Hi c.hd wi hz fun h' O' sb=>h _ ?_
 have hd:∃ o,h'.get? dx=some o:=let⟨o,_,_,e',_⟩:=O'.ns;⟨o,e'⟩
 refine I.write (x:=a) (e:=dx) (by rw[e];exact fz) (.inr ho) (fun b q hb z=>(sb.2 b hb).trans z) hd ?_
 refine⟨by rw[bA O.ne];exact ho,?_,O.ne,O'.obj,_,O'.ns,fun g=>?_,fun g hg=>?_⟩
 ·have:=zL f y fs;omega
 ·show rG ((iE f y fs).lookup g) (if g=f then some u else mA g)
  rw[yY]
  by_cases q:g=f
  ·rw[if_pos q,if_pos q];exact ry
  ·rw[if_neg q,if_neg q];exact r g
 ·by_cases q:g=f
  ·rw[q];exact(xH f y fs).1
  ·refine(xH f y fs).2 g (wi g fun z=>hg ?_)
   show(if g=f then some u else mA g)=none
   rw[if_neg q];exact z
theorem Inv.made (I:Inv X pz σ H s):Inv X pz σ (upd (upd H s.heap.objs.size (.own (s.heap.objs.size+1))) (s.heap.objs.size+1) (.ins C s.heap.objs.size []))
  { s with heap:=(s.heap.push gv).push (jf C s.heap.objs.size) }:=by
 have e1:(s.heap.push gv).get? s.heap.objs.size=some gv:=aw s.heap rfl
 have e2:((s.heap.push gv).push (jf C s.heap.objs.size)).get? (s.heap.objs.size+1)=some (jf C s.heap.objs.size):=by
  have:=aw (s.heap.push gv) (o:=jf C s.heap.objs.size) rfl
  rwa [ff]at this
 have e3:(s.heap.push gv).Ns s.heap.objs.size (fun _=>none):=⟨PySem.W.emptyDict,#[],_,e1,rfl,(fun e he=>absurd he (by simp)),fun _=>rfl⟩
 have I1:=I.laid (a:=s.heap.objs.size) (o:=.own (s.heap.objs.size+1)) (h':=s.heap.push gv) (t':=s.toks) (fun b u q=>ag _ q) (av _) ⟨_,e1⟩
 refine I1.laid (a:=s.heap.objs.size+1) (o:=.ins C s.heap.objs.size []) (t':=s.toks) (fun b u q=>ag _ q) (Se (ff _ _)) ?_
 have ne:s.heap.objs.size≠s.heap.objs.size+1:=bz (gm _)
 refine⟨by rw[bA ne,cS],cx _,ne,e2,fun _=>none,(Heap.Ns1.of_empty e3).at fun o q=>ag _ q,fun _=>fz,fun y hy=>absurd rfl hy⟩
theorem YU {prog:br}{w:dg}{env:Env}{e:Expr}{f:Str}{pos:Pos}{s:ah}{Q:af->ah->Prop}(hb:gh e f env (eval e env)=eval e env)
 (h:wpAny (model prog w) A (eval e env) (fun o s₁=>wpAny (model prog w) A (Tq o f true) Q E s₁) E s):wpAny (model prog w) A (eval (.Attribute e f pos) env) Q E s :=
 Attribute_any_ h (by rw[arm_eval_Attribute,hb])
end
noncomputable def Ls (K:aa)(ta:TE)(f:Str):TE:=fun σ H Q=>ta σ H fun x H1=>∃ a C dx fs v,x=.ref a/\H1 a=some (.ins C dx fs)/\sW K C/\pZ K C f/\fs.lookup f=some v/\Q v H1
noncomputable def Nk (K:aa)(ta tv:TE)(f:Str):TS:=fun D σ H=>tv σ H fun y H1=>ta σ H1 fun x H2=>∃ a C dx fs,x=.ref a/\H2 a=some (.ins C dx fs)/\sW K C/\pZ K C f/\fs.length<1000 /\
 D.nx σ (upd H2 a (.ins C dx (iE f y fs)))
section
variable {X:Cx}{o e value:Expr}{f:Str}{pos pos' tpos:Pos}{ta tv:TE}
theorem Ci (he:PE X e ta)(hb:gh e f X.env (eval e X.env)=eval e X.env):PE X (.Attribute e f pos) (Ls X.K ta f):=by
 intro pz s σ H Q I h
 refine YU hb (aY (he pz s σ H _ I h) fun u s1 ⟨x,H1,I1,rx,a,C,dx,fs,v,ex,ea,c,n,l,q⟩=>?_)
 subst ex
 obtain rfl:u=gf a:=rx
 exact NB I1 ea c n l fun u' s2 I2 ru=>⟨v,H1,I2,ru,q⟩
theorem Ag (ha:PE X o ta)(hv:PE X value tv)(hs:mf value (some (.Attribute o f pos')) pos.line X.env=pure false):PS X (.Assign [.Attribute o f pos'] value pos) (Nk X.K ta tv f):=by
 intro pz s σ H D I h
 refine plainObj_wpAny_Assign_Attribute (aY (hv pz s σ H _ I h) fun u s1 ⟨y,H1,I1,ry,q⟩=>aY (ha pz s1 σ H1 _ I1 q) fun ov s2 ⟨x,H2,I2,rx,a,C,dx,fs,ex,ea,c,n,l,q2⟩=>?_) hs
 subst ex
 obtain rfl:ov=gf a:=rx
 exact MC I2 ea c n l ry fun s3 I3=>⟨σ,_,I3,q2⟩
theorem Fq {pl:Sem Bool}{m:Str}{apos:Pos}{args:List Expr}{pz:List (Addr×Obj)}{s:ah}{σ:St}{H:Hp}{Q:af->ah->Prop}{te:TE}(he:PE X e te)(I:Inv X pz σ H s)
 (h:te σ H fun x H1=>∃ a C dx fs g,x=.ref a/\H1 a=some (.ins C dx fs)/\sW X.K C/\DK X.K C m g/\fs.lookup m=none /\
  ∀ s1,Inv X pz σ H1 s1->wpAny (model X.prog X.w) X.A (v5 pos (.ref g) [.ref a] (dh pos (ai args X.env)) (ou pos (kc [] X.env))) Q X.xe s1)
 (ht:eval (.Call (.Attribute e m apos) args [] pos) X.env=(do
  let ov <-eval e X.env
  oq apos.atName
  let(f,first) <-kg [ov] (uc ov m pl)
  v5 pos f first (dh pos (ai args X.env)) (ou pos (kc [] X.env)))):
 wpAny (model X.prog X.w) X.A (eval (.Call (.Attribute e m apos) args [] pos) X.env) Q X.xe s:=by
 refine vn (pl:=pl) (aY (he pz s σ H _ I h) fun u s1 ⟨x,H1,I1,rx,a,C,dx,fs,g,ex,ea,c,k,l,q⟩=>?_) ht
 subst ex
 obtain rfl:u=gf a:=rx
 exact BR I1 ea c k l (q s1 I1)
end
end L2
namespace L2
open PySem PySem.Spec PyProof.Rows
structure cR (k:Nat)(A:cp):Prop where
 hd:A.handled=none
 dp:A.depth+3*k+5<recursionLimit
 un:A.units+16*k+200<cLine
theorem cR.mono {j k:Nat}{A:cp}(r:cR k A)(h:j<=k):cR j A:=⟨r.hd,by have:=r.dp;omega,by have:=r.un;omega⟩
theorem cR.deeper {k:Nat}{A:cp}(r:cR (k+1) A)(env:Env):cR k (A.deeper env) :=
 ⟨r.hd,by have:=r.dp;show A.depth+1+3*k+5<_;omega,by have:=r.un;show A.units+3+16*k+200<_;omega⟩
theorem MY {A:cp}{C:Addr}{us:List af}{kw:List (Str×Value)}:(A.under (.builtin "type.__call__" ⟨.ref C::us,kw⟩)).depth=A.depth+1:=by
 first|rfl|simp [yn,Code.weight,Code.isCreation,Code.isGuard,Code.isCaller,Ss,yo,guardIds]
theorem NG {A:cp}{C:Addr}{us:List af}{kw:List (Str×Value)}:(A.under (.builtin "type.__call__" ⟨.ref C::us,kw⟩)).units=A.units+1:=by
 first|rfl|simp [yn,Code.cUnits,Ss,yo]
theorem cR.make {k:Nat}{A:cp}(r:cR (k+1) A)(C:Addr)(us:List af)(kw:List (Str×Value)):cR k (A.under (.builtin "type.__call__" ⟨.ref C::us,kw⟩)) :=
 ⟨r.hd,by have:=r.dp;rw[MY];omega,by have:=r.un;rw[NG];omega⟩
theorem cR.depth {k:Nat}{A:cp}(r:cR k A):A.depth<recursionLimit:=by have:=r.dp;omega
noncomputable def Mg:TA:=fun _ H Q=>Q [] H
noncomputable def Ia (ta:TE)(tr:TA):TA:=fun σ H Q=>ta σ H fun x H1=>tr σ H1 fun xs H2=>Q (x::xs) H2
section
variable {X:Cx}{e:Expr}{es:List Expr}{te:TE}{t:TA}{pos:Pos}
theorem OE:PA X [] Mg:=fun _ _ _ _ H Q I h=>l0 ⟨[],H,I,.nil,h⟩
theorem DB (ha:PE X e te)(hr:PA X es t)(hs:ai (e::es) X.env=(false,eval e X.env)::ai es X.env:=by rfl):PA X (e::es) (Ia te t):=by
 intro pos pz s σ H Q I h
 rw[hs]
 show wpAny _ _ (w5 ((false,eval e X.env)::dh pos (ai es X.env))) _ _ s
 refine jx (aY (ha pz s σ H _ I h) fun u s1 ⟨x,H1,I1,r1,q1⟩=>?_)
 exact aY (hr pos pz s1 σ H1 _ I1 q1) fun us s2 ⟨xs,H2,I2,r2,q2⟩=>⟨x::xs,H2,I2,.cons r1 r2,q2⟩
noncomputable def Mw (t:TA):TE:=fun σ H Q=>t σ H fun xs H1=>xs.length<=sizeLine/\∀ p,H1 p=none->Q (.ref p) (upd H1 p (.tup xs))
noncomputable def Mq (t:TA):TE:=fun σ H Q=>t σ H fun xs H1=>xs.length<=sizeLine/\∀ p,H1 p=none->Q (.ref p) (upd H1 p (.lst xs))
theorem Fb {x1}(h:PA X es t):PE X (.Tuple es x1 pos) (Mw t):=by
 intro pz s σ H Q I hq
 refine wpAny_Tuple_spliced (aY (h pos pz s σ H _ I hq) fun us s1 ⟨xs,H1,I1,r,z,q⟩=>⟨by rw[<-r.length];exact z,?_⟩)
 have hf:H1 s1.heap.objs.size=none:=I1.bN.fresh (av _)
 refine⟨.ref s1.heap.objs.size,upd H1 s1.heap.objs.size (.tup xs),I1.laid (t':=s1.toks) (fun b u e=>ag _ e) (av _) ?_,rfl,q _ hf⟩
 exact⟨z,us,r,nD.new _ _⟩
theorem Bp (h:PA X es t):PE X (.List es pos) (Mq t):=by
 intro pz s σ H Q I hq
 refine wpAny_List_spliced (aY (h pos pz s σ H _ I hq) fun us s1 ⟨xs,H1,I1,r,z,q⟩=>⟨by rw[<-r.length];exact z,?_⟩)
 have hf:H1 s1.heap.objs.size=none:=I1.bN.fresh (av _)
 refine⟨.ref s1.heap.objs.size,upd H1 s1.heap.objs.size (.lst xs),I1.laid (t':=s1.toks) (fun b u e=>ag _ e) (av _) ?_,rfl,q _ hf⟩
 exact⟨z,us,0,r,aw _ rfl⟩
end
abbrev Sp:=List V->Hp->VK->XK->Prop
abbrev zP:=List Env->Hp->ah->XK->af->ah->Prop
structure rN (P:br)(w:dg)(K:aa)(mg:Str->Option af)(base:Heap)(A:cp)(outer:List Env)(s:ah)(H:Hp):Prop where
 frames:A.frames=some outer
 mod:Mod K mg base
 bs:∀ b o,base.get? b=some o->s.heap.get? b=some o/\H b=none
 bsz:base.objs.size<=s.heap.objs.size
 kO:s.heap.FunFrames base outer
 frf:∀ b∈tB outer,H b=none
 bN:gQ P w H s.heap
 bare:sy s.gens
inductive CE (outer:List Env)(P:br)(w:dg)(H:Hp)(s:ah)(Q:VK)(u:af)(s':ah):Prop
 |mk (v:V)(H':Hp)(a:s'.os=s.os)(b:sy s'.gens)(c:Un (tB outer) [] H H' s.heap s'.heap)(d:gQ P w H' s'.heap)(r:RelV v u)(q:Q v H')
def CR (CX:zP)(outer:List Env)(P:br)(w:dg)(H:Hp)(s:ah)(Q:VK)(E:XK)(r:Sd)(s':ah):Prop :=
 match r with
 |.ok (.ret u)=>CE outer P w H s Q u s'
 |.ok _=>False
 |.error e=>CX outer H s E e s'
structure fJ (P:br)(w:dg)(K:aa)(mg:Str->Option af)(base:Heap)(CX:zP)(k:Nat)(f:Addr)(fd:gw)(ps:List Str)(sp:Sp):Prop where
 len:∀ vs H Q E,sp vs H Q E->vs.length=ps.length
 run:∀(A:cp)(outer:List Env)(s:ah)(H:Hp)(args:Args)(us:List af)(vs:List V)(Q:VK)(E:XK),cR k A->rN P w K mg base A outer s H->yp s fd args (ps.zip us)->aO vs us->sp vs H Q E ->
 ku (model P w) A (.call (.ref f) args) (CR CX outer P w H s Q E) s
theorem rN.make {P:br}{w:dg}{K:aa}{mg:Str->Option af}{base:Heap}{A:cp}{outer:List Env}{s:ah}{H:Hp}(e:rN P w K mg base A outer s H)(C:Addr)(us:List af)(kw:List (Str×Value)):
 rN P w K mg base (A.under (.builtin "type.__call__" ⟨.ref C::us,kw⟩)) outer s H:=⟨by first|exact e.frames|(simpa [yn,Code.envs,yo,pushEnvs]using e.frames),e.mod,e.bs,e.bsz,e.kO,e.frf,e.bN,e.bare⟩
section
variable {X:Cx}{pz:List (Addr×Obj)}{σ:St}{H:Hp}{s s':ah}
theorem Inv.L9 (I:Inv X pz σ H s):rN X.prog X.w X.K X.mg X.base X.A X.stack s H :=
 ⟨I.ok.frames,I.ok.mod,I.bs,bu I.ok.bsz I.sz,I.stack,I.LG,I.bN,I.bare⟩
theorem Inv.after {Q:VK}{u:af}(I:Inv X pz σ H s)(h:CE X.stack X.prog X.w H s Q u s'):EP X pz σ Q u s':=by
 obtain⟨v,H',os,bare,un,bN,r,q⟩:=h
 obtain⟨hh,g,d,t,os'⟩:=s'
 obtain rfl:os'=s.os:=os
 exact⟨v,H',I.call (h':=hh) (g':=g) (d':=d) (t':=t) (ch:=[]) un bN bare (fun b z=>absurd z (by simp)),r,q⟩
end
noncomputable def Jz (sp:Sp)(dvs:List V)(E:XK)(t:TA):TE:=fun σ H Q=>t σ H fun vs H1=>sp (vs++dvs) H1 Q E
noncomputable def Jq (C:Addr)(m:Str)(sp:Sp)(dvs:List V)(E:XK)(ta:TE)(t:TA):TE:=fun σ H Q=>ta σ H fun x H1=>∃ a dx fs,x=.ref a/\H1 a=some (.ins C dx fs)/\fs.lookup m=none /\
 t σ H1 fun vs H2=>sp (x::(vs++dvs)) H2 Q E
noncomputable def Ka (C:Addr)(sp:Sp)(dvs:List V)(E:XK)(t:TA):TE:=fun σ H Q=>t σ H fun vs H1=>∀ x dx,H1 x=none->H1 dx=none->dx≠x ->
 sp (.ref x::(vs++dvs)) (upd (upd H1 dx (.own x)) x (.ins C dx [])) (fun v H2=>v=.non/\Q (.ref x) H2) E
def Binds (K:aa)(fd:gw)(ps:List Str)(ds:List af):Prop :=
 ∀(s:ah)(us:List af),K.In s.heap->(us++ds).length=ps.length->yp s fd ⟨us,[]⟩ (ps.zip (us++ds))
theorem Binds.all {K:aa}{fd:gw}{ps:List Str}(h:∀ us:List af,us.length=ps.length->Qx fd ⟨us,[]⟩=pure (ps.zip us)):Binds K fd ps []:=fun s us _ hl=>by
 rw[fh]at hl ⊢
 exact .of_eq (h us hl)
def oH (CX:zP)(X:Cx)(E:XK):Prop:=∀(pz:List (Addr×Obj))(σ:St)(H:Hp)(s:ah)(e:af)(s':ah),Inv X pz σ H s->CX X.stack H s E e s'->X.xe e s'
section
variable {X:Cx}{CX:zP}{k:Nat}{f C:Addr}{fd:gw}{ps:List Str}{sp:Sp}{dvs:List V}{ds:List af}{E:XK}{x m:Str}{p pos apos:Pos}{e o:Expr}{es:List Expr}{ta:TE}{t:TA}
theorem P2 {pz:List (Addr×Obj)}{σ:St}{H:Hp}{s:ah}{Q:VK}{us:List af}{vs:List V}(F:fJ X.prog X.w X.K X.mg X.base CX k f fd ps sp)(hr:cR k X.A)(hb:Binds X.K fd ps ds)(hd:aO dvs ds)(hx:oH CX X E)
 (I:Inv X pz σ H s)(r:aO vs us)(h:sp (vs++dvs) H Q E):wpAny (model X.prog X.w) X.A (call (.ref f) us) (EP X pz σ Q) X.xe s:=by
 have r2:aO (vs++dvs) (us++ds):=r.append hd
 have hl:(us++ds).length=ps.length:=by rw[<-r2.length];exact F.len _ _ _ _ h
 refine uu (kx (F.run X.A X.stack s H ⟨us,[]⟩ (us++ds) (vs++dvs) Q E hr I.L9 (hb s us I.iN hl) r2 h) fun r s' hq=>?_)
 cases r with
 |error e=>exact hx pz σ H s e s' I hq
 |ok fl =>
 cases fl with
 |ret u=>exact I.after hq
 |next=>exact d5 hq
 |brk=>exact d5 hq
 |cont=>exact d5 hq
theorem VZ (F:fJ X.prog X.w X.K X.mg X.base CX k f fd ps sp)(hr:cR k X.A)(hg:Gl X x)(hm:X.mg x=some (.ref f))(hk:fe X.K (.ref f)=true)(hb:Binds X.K fd ps ds)(hd:aO dvs ds)(hx:oH CX X E)
 (ha:PA X (e::es) t)(hdb:(x==("__debug__" : Str))=false:=by decide)(he:ai (e::es) X.env=(false,eval e X.env)::ai es X.env:=by rfl)(dC:(dh pos (ai es X.env)).any (·.1)=false:=by rfl):
 PE X (.Call (.Name x p) (e::es) [] pos) (Jz sp dvs E t):=by
 intro pz s σ H Q I h
 refine dt (yH I hg hm ?_ hdb)
 refine n6 (h₀:=X.base) I.ok.mod.kK hk (aY (ha pos pz s σ H _ I h) fun us s1 ⟨vs,H1,I1,r,q⟩=>⟨I1.iN,?_⟩) he dC
 exact P2 F hr hb hd hx I1 r q
theorem WL {pl:Sem Bool}(he:PE X o ta)(c:sW X.K C)(hm:DK X.K C m f)(F:fJ X.prog X.w X.K X.mg X.base CX k f fd ps sp)(hr:cR k X.A)(hb:Binds X.K fd ps ds)(hd:aO dvs ds)(hx:oH CX X E)(ha:PA X (e::es) t)
 (eV:ai (e::es) X.env=(false,eval e X.env)::ai es X.env:=by rfl)(dC:(dh pos (ai es X.env)).any (·.1)=false:=by rfl)
 (ht:eval (.Call (.Attribute o m apos) (e::es) [] pos) X.env=(do
  let ov <-eval o X.env
  oq apos.atName
  let(f,first) <-kg [ov] (uc ov m pl)
  v5 pos f first (dh pos (ai (e::es) X.env)) (ou pos (kc [] X.env))):=by rfl):
 PE X (.Call (.Attribute o m apos) (e::es) [] pos) (Jq C m sp dvs E ta t):=by
 intro pz s σ H Q I h
 refine vn (pl:=pl) (aY (he pz s σ H _ I h) fun u s1 ⟨x,H1,I1,rx,a,dx,fs,ex,ea,l,q⟩=>?_) ht
 subst ex
 obtain rfl:u=gf a:=rx
 refine BR I1 ea c hm l ?_
 refine n6 (first:=[.ref a]) (h₀:=X.base) I.ok.mod.kK hm.kp (aY (ha pos pz s1 σ H1 _ I1 q) fun us s2 ⟨vs,H2,I2,r,q2⟩=>⟨I2.iN,?_⟩) eV dC
 exact P2 (us:=.ref a::us) (vs:=.ref a::vs) F hr hb hd hx I2 (.cons rfl r) q2
structure Mk (K:aa)(C f:Addr):Prop where
 makes:vf K C=true
 init:ez K (.ref C) "__init__" = some (some (.ref f))
 fn:qv K (.ref f)=true
 kp:fe K (.ref C)=true
theorem SY {pz:List (Addr×Obj)}{σ:St}{H:Hp}{s:ah}{Q:VK}{us:List af}{vs:List V}(M:Mk X.K C f)(F:fJ X.prog X.w X.K X.mg X.base CX k f fd ps sp)(hr:cR (k+1) X.A)(hb:Binds X.K fd ps ds)(hd:aO dvs ds)
  (hx:oH CX X E)(I:Inv X pz σ H s)(r:aO vs us)
  (h:∀ x dx,H x=none->H dx=none->dx≠x->sp (.ref x::(vs++dvs)) (upd (upd H dx (.own x)) x (.ins C dx [])) (fun v H2=>v=.non/\Q (.ref x) H2) E):
  wpAny (model X.prog X.w) X.A (call (.ref C) us) (EP X pz σ Q) X.xe s:=by
 have hq:=h (s.heap.objs.size+1) s.heap.objs.size (I.bN.fresh (z9 _)) (I.bN.fresh (av _)) (bz (gm _))
 have I2:=Inv.made (C:=C) I
 have r2:aO (V.ref (s.heap.objs.size+1)::(vs++dvs)) (gf (s.heap.objs.size+1)::(us++ds)):=.cons rfl (r.append hd)
 have hl:(gf (s.heap.objs.size+1)::us++ds).length=ps.length:=by
  have e:=r2.length
  rw[F.len _ _ _ _ hq]at e
  exact e.symm
 refine uu (UJ (f:=f) I.iN M.makes M.init (beq_iff_eq.mp M.fn) (kx (F.run _ X.stack _ _ ⟨Value.ref (s.heap.objs.size+1)::us,[]⟩ (gf (s.heap.objs.size+1)::(us++ds)) _ _ E (hr.make C us [])
  (I2.L9.make C us []) (hb _ (gf (s.heap.objs.size+1)::us) I2.iN hl) r2 hq) fun r s' hq'=>?_))
 cases r with
 |error e=>exact hx pz σ _ _ e s' I2 hq'
 |ok fl =>
  cases fl with
  |ret u =>
   obtain⟨v,H',I3,rv,ev,q3⟩:=I2.after hq'
   subst ev
   exact⟨rv,⟨V.ref (s.heap.objs.size+1),H',I3,rfl,q3⟩⟩
  |next=>exact d5 hq'
  |brk=>exact d5 hq'
  |cont=>exact d5 hq'
theorem X1 (M:Mk X.K C f)(F:fJ X.prog X.w X.K X.mg X.base CX k f fd ps sp)(hr:cR (k+1) X.A)(hg:Gl X x)(hm:X.mg x=some (.ref C))(hb:Binds X.K fd ps ds)(hd:aO dvs ds)(hx:oH CX X E)
 (ha:PA X (e::es) t)(hdb:(x==("__debug__" : Str))=false:=by decide)(he:ai (e::es) X.env=(false,eval e X.env)::ai es X.env:=by rfl)(dC:(dh pos (ai es X.env)).any (·.1)=false:=by rfl):
 PE X (.Call (.Name x p) (e::es) [] pos) (Ka C sp dvs E t):=by
 intro pz s σ H Q I h
 refine dt (yH I hg hm ?_ hdb)
 refine n6 (h₀:=X.base) I.ok.mod.kK M.kp (aY (ha pos pz s σ H _ I h) fun us s1 ⟨vs,H1,I1,r,q⟩=>⟨I1.iN,?_⟩) he dC
 exact SY M F hr hb hd hx I1 r q
end
structure lJ (N P:List Str)(sc:Scope):Prop where
 kind:sc.kind=.function
 co:sc.isCoroutine=false
 gen:sc.isGenerator=false
 nd:N.Nodup
 pre:N.take P.length=P
 par:∀ x∈P,sc.names.lookup x=some .local∨sc.names.lookup x=some .cell
 nofree:∀ y∈sc.names,y.2≠.free
theorem D7 {kindOf:Str->Option ue}{x:Str}:∀{binds:List (Str×Value)}{m:Str->Option af},(∀ v,(x,v)∉binds)->bindL kindOf binds m x=m x
 |[],_,_=>rfl
 |(n,v)::r,m,h=>by
  unfold bindL
  rw[D7 fun w hw=>h w (cg _ hw)]
  split
  ·have:x≠n:=by rintro rfl;exact h v de
   simp [this]
  ·rfl
theorem EW {kindOf:Str->Option ue}{x:Str}:∀{binds:List (Str×Value)}{m:Str->Option af},(∀ v,(x,v)∉binds)->bindC kindOf binds m x=m x
 |[],_,_=>rfl
 |(n,v)::r,m,h=>by
  unfold bindC
  rw[EW fun w hw=>h w (cg _ hw)]
  split
  ·rfl
  ·have:x≠n:=by rintro rfl;exact h v de
   simp [this]
theorem D2 {kindOf:Str->Option ue}{x:Str}{v:af}:∀{P:List Str}{vs:List af}{i:Nat}{m:Str->Option af},P.Nodup->P[i]? = some x->vs[i]? = some v->kindOf x=some .local ->
  bindL kindOf (P.zip vs) m x=some v
 |[],_,_,_,_,h,_,_=>by simp at h
 |_::_,[],_,_,_,_,h,_=>by simp at h
 |p::P,w::vs,0,m,nd,h1,h2,hk=>by
  simp at h1 h2;subst h1;subst h2
  show bindL kindOf ((p,w)::P.zip vs) m p=_
  unfold bindL
  rw[D7 fun v hv=>(List.nodup_cons.mp nd).1 (j7 hv).1,if_pos hk]
  simp
 |p::P,w::vs,i+1,m,nd,h1,h2,hk=>by
  show bindL kindOf ((p,w)::P.zip vs) m x=_
  unfold bindL
  exact D2 (i:=i) (List.nodup_cons.mp nd).2 (by simpa using h1) (by simpa using h2) hk
theorem EI {kindOf:Str->Option ue}{x:Str}{v:af}:∀{P:List Str}{vs:List af}{i:Nat}{m:Str->Option af},P.Nodup->P[i]? = some x->vs[i]? = some v->kindOf x≠some .local ->
  bindC kindOf (P.zip vs) m x=some v
 |[],_,_,_,_,h,_,_=>by simp at h
 |_::_,[],_,_,_,_,h,_=>by simp at h
 |p::P,w::vs,0,m,nd,h1,h2,hk=>by
  simp at h1 h2;subst h1;subst h2
  show bindC kindOf ((p,w)::P.zip vs) m p=_
  unfold bindC
  rw[EW fun v hv=>(List.nodup_cons.mp nd).1 (j7 hv).1,if_neg hk]
  simp
 |p::P,w::vs,i+1,m,nd,h1,h2,hk=>by
  show bindC kindOf ((p,w)::P.zip vs) m x=_
  unfold bindC
  exact EI (i:=i) (List.nodup_cons.mp nd).2 (by simpa using h1) (by simpa using h2) hk
noncomputable def start (N:List Str)(vs:List V):St:=vs.map some++ay (N.length-vs.length) none
noncomputable def eY (CX:zP)(P:br)(w:dg)(K:aa)(mg:Str->Option af)(base:Heap)(N:List Str)(qual:Str)(scope:Scope)(f:Addr)(cd:af)(A:cp)(outer:List Env)(s:ah)(H:Hp)(E:XK):Cx where
 prog:=P
 w:=w
 K:=K
 mg:=mg
 base:=base
 A:=A.deeper (mz qual scope s.heap.objs.size f cd)
 N:=N
 s₀:=s
 H₀:=H
 env:=mz qual scope s.heap.objs.size f cd
 outer:=outer
 stack:=mz qual scope s.heap.objs.size f cd::outer
 ex:=[]
 calm:=true
 fn:=fun _=>true
 pn:=[]
 xe:=fun e s'=>wpAny (model P w) (A.deeper (mz qual scope s.heap.objs.size f cd)) (leaving (mz qual scope s.heap.objs.size f cd) e) (fun _ s''=>CX outer H s E e s'') (fun e' s''=>CX outer H s E e' s'') s'
theorem HV {sc:Scope}{n:Nat}{x:Str}(h:sc.names.lookup x=some .cell):∃ c,(Rx n sc.names []).lookup x=some c:=by
 have q:=uw sc.names n [] (.inl h)
 exact Option.isSome_iff_exists.mp q
theorem QG {CX:zP}{P:br}{w:dg}{K:aa}{mg:Str->Option af}{base:Heap}{N ps:List Str}{qual:Str}{scope:Scope}{f:Addr}{cd:af}{A:cp}{outer:List Env}{s s1:ah}{H:Hp}{E:XK}{us:List af}{vs:List V}
  (S:lJ N ps scope)(hd:A.handled=none)(e0:rN P w K mg base A outer s H)(hl:vs.length=ps.length)(r:aO vs us)
  (x:InCallC s s.heap.objs.size (bindL (mz qual scope s.heap.objs.size f cd).kindOf (ps.zip us) fun _=>none) (Rx (s.heap.objs.size+1) scope.names []) (bindC (mz qual scope s.heap.objs.size f cd).kindOf (ps.zip us) fun _=>none) s1):
  Inv (eY CX P w K mg base N qual scope f cd A outer s H E) [] (start N vs) H s1:=by
 have dC:ps.length<=N.length:=by have:=congrArg v7 S.pre;rw[pj]at this;omega
 obtain⟨h1,tk,rfl,hk⟩:=x.done
 have noA:∀ b:Addr,b∉(eY CX P w K mg base N qual scope f cd A outer s H E).ex:=fun b z=>absurd (show b∈([]:List Addr)from z) (by simp)
 refine⟨⟨e0.mod,S.kind,rfl,rfl,av _,fun y z c h1 h2=>?_,fun y hy=>?_,fun y c _ h=>?_,fun _=>hd,v8 e0.frames,.inr ⟨rfl,rfl⟩,fun b z=>absurd z (noA b),e0.bs,e0.bsz,fun b _ _=>noA b,fun b z=>absurd z (noA b),e0.kO,e0.frf⟩,
  rfl,e0.bare,Un.kept hk,⟨_,x.toInCall.ns,fun i y v h1 h2 h3=>?_⟩,fun y c h=>⟨_,x.cell y c h⟩,e0.bN.fresh (av _),fun y c h=>?_,fun p hp=>absurd (show p∈([]:List (Addr×Obj))from hp) (by simp),e0.bN.kept hk,?_⟩
 ·exact name_of_addr x.apart (gx h1) (gx h2)
 ·have hy:scope.names.lookup y=some .cell∨scope.names.lookup y=some .free:=hy
  rcases hy with hy|hy
  ·exact HV hy
  ·exact absurd rfl (S.nofree _ (gx hy))
 ·exact me (x.above y c (gx h))
 ·have hi:i<vs.length:=by
   unfold start at h2
   by_cases hi:i<vs.length
   ·exact hi
   ·rw[du (by simpa using hi)]at h2
    rw[dw]at h2
    split at h2<;>cases h2
  have ha:vs[i]? = some v:=by
   unfold start at h2
   rw[c9 (by simpa using hi),be]at h2
   cases e:vs[i]? with
   |none=>rw[e]at h2;cases h2
   |some a=>rw[e]at h2;cases h2;rfl
  obtain⟨u,hu,rv⟩:=r.get ha
  have hp:ps[i]? = some y:=by
   rw[<-S.pre,List.getElem?_take_of_lt (by omega)];exact h1
  have ndP:ps.Nodup:=by rw[<-S.pre];exact S.nd.sublist (List.take_sublist _ _)
  refine⟨u,rv,?_⟩
  rcases S.par y (bf hp)with k|k
  ·exact .inl ⟨k,D2 ndP hp hu k⟩
  ·obtain⟨c,e⟩:=HV (n:=s.heap.objs.size+1) k
   refine .inr ⟨.inl k,c,e,?_⟩
   have q:=x.cell y c e
   rw[EI ndP hp hu (by show scope.names.lookup y≠_;rw[k];decide)]at q
   exact q
 ·exact e0.bN.fresh (me (x.above y c (gx h)))
 ·unfold start
  show _=N.length
  rw[bg,ab,pf]
  omega
theorem VV {CX:zP}{P:br}{w:dg}{K:aa}{mg:Str->Option af}{base:Heap}{k:Nat}{f:Addr}{name qual:Str}{params:Arguments}{body:List Stmt}{scope:Scope}{dV kV doc pm bE ct oc:af}{an od:Option Addr}
  {osl:Array (Option af)}{N ps:List Str}{sp:Sp}(lk:K.lookup f=some ⟨oc,od,.func (ig name qual params body scope dV kV doc pm an bE ct),osl⟩)(hcd:kj K bE qual=true)(S:lJ N ps scope)
  (len:∀ vs H Q E,sp vs H Q E->vs.length=ps.length)
  (hbody:∀(A:cp)(outer:List Env)(s:ah)(H:Hp)(vs:List V)(Q:VK)(E:XK),cR k (A.deeper (mz qual scope s.heap.objs.size f bE))->sp vs H Q E ->
   ∃ t,kA (eY CX P w K mg base N qual scope f bE A outer s H E) body t/\t { nx:=fun _ H'=>Q .non H',rt:=Q } (start N vs) H):
  fJ P w K mg base CX (k+1) f (ig name qual params body scope dV kV doc pm an bE ct) ps sp:=by
 refine⟨len,fun A outer s H args us vs Q E hr e0 hb r hsp=>?_⟩
 have hl:=len _ _ _ _ hsp
 have KX:K.In s.heap:=e0.mod.kK.keeps fun b o e=>(e0.bs b o e).1
 have lim:s.heap.NoLimit:=e0.mod.nolimit.keeps fun b o e=>(e0.bs b o e).1
 have hkind:∀ y∈ps.zip us,scope.names.lookup y.1=some .local∨(scope.names.lookup y.1=some .cell/\((Rx (s.heap.objs.size+1) scope.names []).lookup y.1).isSome=true):=fun⟨n,v⟩ hy=>by
  rcases S.par n (j7 hy).1 with q|q
  ·exact .inl q
  ·exact .inr ⟨q,uw _ _ _ (.inl q)⟩
 refine codeAny_call_function hr.depth (KX _ _ lk) rfl S.co S.gen rfl (PySem.W.codeRec_of KX hcd) (hb _ _ _ _ ?_)
 refine wpAny_newFunctionEnv_cells S.kind hkind fun env he s1 x=>?_
 subst he
 refine⟨lim.keeps x.toInCall.keep,codeAny_func ?_⟩
 obtain⟨t,ht,hq⟩:=hbody A outer s H vs Q E (hr.deeper _) hsp
 have I:Inv (eY CX P w K mg base N qual scope f bE A outer s H E) [] (start N vs) H s1:=QG S hr.hd e0 hl r x
 refine jw (ht [] s1 (start N vs) H _ I hq) (fun fl s' hs=>?_) fun e s' hs=>hs
 have fin:∀{σ':St}{H':Hp}{v:V}{u:af},Inv (eY CX P w K mg base N qual scope f bE A outer s H E) [] σ' H' s'->RelV v u->Q v H'->CE outer P w H s Q u s' :=
  fun{σ' H' v u} J rv q=>⟨v,H',J.os,J.bare,J.base,J.bN,rv,q⟩
 cases fl with
 |ret u =>
  obtain⟨v,σ',H',J,rv,q⟩:=hs
  exact fin J rv q
 |next =>
  obtain⟨σ',H',J,q⟩:=hs
  exact fin (v:=V.non) (u:=g6) J rfl q
 |brk =>
  obtain⟨_,_,_,q⟩:=hs
  exact d5 q
 |cont =>
  obtain⟨_,_,_,q⟩:=hs
  exact d5 q
end L2
namespace L2
open PySem PySem.Spec PyProof.Rows
section
variable {X:Cx}{x:Str}{p pos:Pos}{e:Expr}{es:List Expr}{t:TA}{id T:String}{r:List V->Hp->VK->Prop}
noncomputable def Ef (r:List V->Hp->VK->Prop)(t:TA):TE:=fun σ H Q=>t σ H fun vs H1=>r vs H1 Q
theorem IX (hc:uC X (.builtin id) r)(hg:Gl X x)(hm:X.mg x=none)(hv:cz x=some (.builtin id))(ha:PA X (e::es) t)(hn:x ≠"__name__":=by decide)(hdb:(x==("__debug__" : Str))=false:=by decide)
 (he:ai (e::es) X.env=(false,eval e X.env)::ai es X.env:=by rfl)(dC:(dh pos (ai es X.env)).any (·.1)=false:=by rfl):PE X (.Call (.Name x p) (e::es) [] pos) (Ef r t):=by
 intro pz s σ H Q I h
 refine dt (jV I hg hm hv ?_ hn hdb)
 exact PyProof.Rows.callWith_builtin1 (aY (ha pos pz s σ H _ I h) fun us s1 ⟨vs,H1,I1,r1,q1⟩=>hc pz s1 σ H1 vs us Q I1 r1 q1) he dC
theorem PC (hc:uC X (.type T) r)(hg:Gl X x)(hm:X.mg x=none)(hv:cz x=some (.type T))(ha:PA X (e::es) t)(hn:x ≠"__name__":=by decide)(hdb:(x==("__debug__" : Str))=false:=by decide)
 (he:ai (e::es) X.env=(false,eval e X.env)::ai es X.env:=by rfl)(dC:(dh pos (ai es X.env)).any (·.1)=false:=by rfl):PE X (.Call (.Name x p) (e::es) [] pos) (Ef r t):=by
 intro pz s σ H Q I h
 refine dt (jV I hg hm hv ?_ hn hdb)
 exact dq (aY (ha pos pz s σ H _ I h) fun us s1 ⟨vs,H1,I1,r1,q1⟩=>hc pz s1 σ H1 vs us Q I1 r1 q1) he dC
end
end L2
namespace HT
open PySem PyProof.Rows
section
variable {prog:br}{w:dg}{A:cp}{E:af->ah->Prop}{s:ah}
theorem WC {t b:Addr}{vs ws:List af}{Q:af->ah->Prop}(ht:IsTup s.heap t vs.toArray)(hb:IsTup s.heap b ws.toArray)(hv:vs≠[])
  (h1:ws=[]->Q (.ref t) s)(h2:ws≠[]->Q (.ref s.heap.objs.size) { s with heap:=s.heap.push { cls:=.type "tuple", data:=.seq (vs++ws).toArray } })
  (iD:vs.length+ws.length<=sizeLine):wpAny (model prog w) A (i9 .Add (.ref t) (.ref b)) Q E s:=by
 obtain⟨⟨cls,dd,data,sl⟩,ho,hc,n,hd⟩:=id ht
 obtain⟨⟨cls2,dd2,data2,sl2⟩,ho2,hc2,n2,hd2⟩:=id hb
 simp only at hc hd hc2 hd2
 subst hc hd hc2 hd2
 have e:vs.toArray++ws.toArray=(vs++ws).toArray:=by simp
 by_cases hw:ws=[]
 ·exact yq ⟨_,ho,rfl⟩ ⟨_,ho2,rfl⟩ uf xo ow oi (nk _ _)
   (tuple_addW1 t b vs.toArray ws.toArray n n2 dd dd2 sl sl2 (by simpa using hv) (by simp [hw])) ⟨ho,ho2,h1 hw⟩
 ·refine yq ⟨_,ho,rfl⟩ ⟨_,ho2,rfl⟩ uf xo ow oi (nk _ _)
   (tuple_addW2 t b vs.toArray ws.toArray n n2 dd dd2 sl sl2 (by simpa using hv) (by simpa using hw) (by rw[ao,ao];exact iD)) ⟨ho,ho2,?_⟩
  rw[e]
  exact h2 hw
noncomputable def cA (n d:Nat):Option Int->Nat
 |none=>d
 |some v=>if v<0 then(v+(n:Int)).toNat else min v.toNat n
theorem Dl (n d:Nat)(hd:d<=n)(o:Option Int):cA n d o<=n:=by
 cases o with
 |none=>exact hd
 |some v =>
 show(if v<0 then(v+(n:Int)).toNat else min v.toNat n)<=n
 by_cases hv:v<0
 ·rw[if_pos hv];omega
 ·rw[if_neg hv];exact Nat.min_le_right _ _
theorem LI (v:Int)(n d:Nat):(if v<0 then max (v+(n:Int)) 0 else min v (n:Int))=((cA n d (some v):Nat):Int):=by
 show(if v<0 then max (v+(n:Int)) 0 else min v (n:Int))=(((if v<0 then(v+(n:Int)).toNat else min v.toNat n):Nat):Int)
 by_cases hv:v<0
 ·simp only[if_pos hv];omega
 ·simp only[if_neg hv];omega
theorem M7 (lo hi:Option Int)(n:Nat):mq lo hi 1 (n:Int)=(((cA n 0 lo:Nat):Int),((cA n n hi:Nat):Int)):=by
 have h1:¬((1:Int)<0):=by omega
 unfold mq
 simp only[h1,if_false]
 refine Su ?_ ?_
 ·cases lo with
 |none=>rfl
 |some v=>exact LI v n 0
 ·cases hi with
 |none=>rfl
 |some v=>exact LI v n n
theorem M6 (i j:Nat):j4 (i:Int) (j:Int) 1=j-i:=by
 unfold j4
 have h1:(1:Int)>0:=by omega
 simp only[h1,if_true,Int.ediv_one]
 split<;>omega
theorem A8 {v:af}{o:Option Int}{Q:Option Int->ah->Prop}(p:uy v o)(h:Q o s):wpAny (model prog w) A (Builtin.Slice.slicePartIndex v) Q E s:=by
 cases p with
 |none=>exact Qy h
 |int i t=>exact slicePart_int h
theorem pL {sl:Addr}{vl vu:af}{lo hi:Option Int}{n:Nat}{Q:Int×Int×Nat->ah->Prop}(hs:s.heap.IsSliceOf sl vl vu .none)(pl:uy vl lo)(pu:uy vu hi)
 (h:Q (((cA n 0 lo:Nat):Int),1,cA n n hi-cA n 0 lo) s):wpAny (model prog w) A (rj (.ref sl) (pure (n:Int))) Q E s:=by
 obtain⟨os,hos,hcs,hds⟩:=id hs
 unfold rj Builtin.Slice.sliceFields
 refine ae (ae (f6 hos hds (x:=vl) rfl (ae (f6 hos hds (x:=vu) rfl (ae (f6 hos hds (x:=.none) rfl (ak ?_)))))))
 refine ae (Qy ?_)
 show wpAny _ _ (if((1:Int)==0)=true then _ else _) _ _ s
 rw[if_neg (by decide)]
 refine ae (A8 pl (ae (A8 pu (ae (ak ?_)))))
 show wpAny _ _ (match mq lo hi 1 (n:Int)with|(lo,hi)=>pure (lo,(1:Int),j4 lo hi 1)) _ _ s
 rw[M7 lo hi n]
 show wpAny _ _ (pure (((cA n 0 lo:Nat):Int),(1:Int),j4 ((cA n 0 lo:Nat):Int) ((cA n n hi:Nat):Int) 1)) _ _ s
 rw[M6]
 exact ak h
theorem UN (xs:Array af)(i k:Nat):((bb k).filterMap fun(m:Nat)=>xs[((i:Int)+(m:Int)*1).toNat]?).toArray=((xs.toList.drop i).take k).toArray:=by
 have e:(fun(m:Nat)=>xs[((i:Int)+(m:Int)*1).toNat]?)=fun m=>xs[i+m]?:=by
  funext m
  have:((i:Int)+(m:Int)*1).toNat=i+m:=by omega
  rw[this]
 rw[e]
 have:=pick_run xs i k
 rw[List.filterMap_map]at this
 have e2:((fun x=>xs[x]?)∘fun x=>i+x)=fun m=>xs[i+m]?:=rfl
 rw[e2]at this
 rw[this]
theorem yU {t sl:Addr}{items:Array af}{vl vu:af}{lo hi:Option Int}{Q:af->ah->Prop}(ht:IsTup s.heap t items)(hs:s.heap.IsSliceOf sl vl vu .none)(pl:uy vl lo)(pu:uy vu hi)
  (hw:¬(cA items.size 0 lo=0/\cA items.size items.size hi=items.size))
  (h:Q (.ref s.heap.objs.size) { s with heap:=s.heap.push { cls:=.type "tuple", data:=.seq ((items.toList.drop (cA items.size 0 lo)).take (cA items.size items.size hi-cA items.size 0 lo)).toArray } })
  (iD:items.size<=sizeLine):wpAny (model prog w) A (uz (.ref t) (.ref sl)) Q E s:=by
 have htake:sizeOk (.seq ((items.toList.drop (cA items.size 0 lo)).take (cA items.size items.size hi-cA items.size 0 lo)).toArray):=by
  show((items.toList.drop (cA items.size 0 lo)).take (cA items.size items.size hi-cA items.size 0 lo)).toArray.size<=sizeLine
  rw[ao,pj,ug,mr]
  omega
 have hj:cA items.size items.size hi<=items.size:=Dl _ _ (av _) hi
 obtain⟨os,hos,hcs,hds⟩:=id hs
 have hTs:s.TypeIs (.ref sl) "slice":=⟨os,hos,hcs⟩
 unfold uz
 try with_reducible refine gq ?_
 first|refine ae (ak ?_)|skip
 refine ae (tj ht.typeIs (by decide) ?_)
 refine ae (fy (name:=ik "__getitem__") ht.typeIs gV
  (fk gV ht.typeIs w9 ?_ (yc _ _)))
 show wpAny _ _ (jy (.ref t) >>= _) _ _ s
 refine ae (xp ht ?_)
 refine ae (u0 hTs ?_)
 rw[if_pos (by decide)]
 refine ae (pL hs pl pu ?_)
 have hno:¬((((cA items.size 0 lo:Nat):Int)==0&&(1:Int)==1&&(cA items.size items.size hi-cA items.size 0 lo)==items.size)=true):=by
  intro q
  rw[ar,ar]at q
  have q1:((cA items.size 0 lo:Nat):Int)=0:=eq_of_beq q.1.1
  have q2:cA items.size items.size hi-cA items.size 0 lo=items.size:=eq_of_beq q.2
  exact hw ⟨by omega,by omega⟩
 show wpAny _ _ (if(((cA items.size 0 lo:Nat):Int)==0&&(1:Int)==1&&(cA items.size items.size hi-cA items.size 0 lo)==items.size)=true then _ else _) _ _ s
 rw[if_neg hno,UN]
 first
  |exact ae (m:=gj _) (fv (ak ⟨_,rfl,ak h⟩) htake)
  |exact ae (m:=gj _) (fv (ae (ak (ak ⟨_,rfl,ak h⟩))) htake)
  |exact ae (ae (m:=gj _) (fv (ak (ak ⟨_,rfl,ak h⟩)) htake))
  |exact ae (ae (m:=gj _) (fv (ak ⟨_,rfl,ak h⟩) htake))
end
end HT
namespace L2
open PySem PySem.Spec PyProof.Rows
abbrev TO:=St->Hp->(Option Int->Hp->Prop)->Prop
def PO (X:Cx)(e:Option Expr)(t:TO):Prop :=
 ∀(pz:List (Addr×Obj))(s:ah)(σ:St)(H:Hp)(Q:Option Int->Hp->Prop),Inv X pz σ H s->t σ H Q ->
 wpAny (model X.prog X.w) X.A (evalPart e X.env) (fun u s'=>∃ o H',Inv X pz σ H' s'/\uy u o/\Q o H') X.xe s
noncomputable def W9:TO:=fun _ H Q=>Q none H
noncomputable def Iw (t:TE):TO:=fun σ H Q=>t σ H fun x H1=>∃ i,x=.int i/\Q (some i) H1
section
variable {X:Cx}{e:Expr}{te:TE}{lo hi:Option Expr}{tl th:TO}{pos p2:Pos}
theorem X7:PO X none W9:=by
 intro pz s σ H Q I h
 rw[Rn]
 exact ak ⟨none,H,I,.none,h⟩
theorem WS (h:PE X e te):PO X (some e) (Iw te):=by
 intro pz s σ H Q I hw
 rw[evalPart_some]
 refine aY (h pz s σ H _ I hw) fun u s1 ⟨x,H1,I1,r1,q1⟩=>?_
 obtain⟨i,rfl,q⟩:=q1
 obtain⟨t,rfl⟩:=r1
 exact⟨some i,H1,I1,.int i t,q⟩
def wY (X:Cx)(r:V->Option Int->Option Int->Hp->VK->Prop):Prop :=
 ∀(pz:List (Addr×Obj))(s:ah)(σ:St)(H:Hp)(x:V)(v vl vu:af)(lo hi:Option Int)(sl:Addr)(Q:VK),Inv X pz σ H s->RelV x v->s.heap.IsSliceOf sl vl vu .none->uy vl lo->uy vu hi->r x lo hi H Q ->
 ∃ T id,rl (.type T) "__getitem__" = pure (some (.builtin id))/\s.TypeIs v T/\wpAny (model X.prog X.w) X.A (uz v (.ref sl)) (EP X pz σ Q) X.xe s
theorem wY.or {r r':V->Option Int->Option Int->Hp->VK->Prop}(h:wY X r)(h':wY X r'):wY X (fun x lo hi H Q=>r x lo hi H Q∨r' x lo hi H Q):=by
 intro pz s σ H x v vl vu lo hi sl Q I rx hs pl pu q
 rcases q with q|q
 ·exact h pz s σ H x v vl vu lo hi sl Q I rx hs pl pu q
 ·exact h' pz s σ H x v vl vu lo hi sl Q I rx hs pl pu q
noncomputable def Oq (r:V->Option Int->Option Int->Hp->VK->Prop)(te:TE)(tl th:TO):TE:=fun σ H Q=>te σ H fun x H1=>tl σ H1 fun l H2=>th σ H2 fun u H3=>r x l u H3 Q
theorem SR {r:V->Option Int->Option Int->Hp->VK->Prop}(hr:wY X r)(he:PE X e te)(hl:PO X lo tl)(hu:PO X hi th):PE X (.Subscript e (.Slice lo hi none p2) pos) (Oq r te tl th):=by
 intro pz s σ H Q I h
 refine Subscript_ (aY (he pz s σ H _ I h) fun v s1 ⟨x,H1,I1,r1,q1⟩=>?_)
 refine wpAny_Slice (aY (hl pz s1 σ H1 _ I1 q1) fun vl s2 ⟨l,H2,I2,pl,q2⟩=>aY (hu pz s2 σ H2 _ I2 q2) fun vu s3 ⟨u,H3,I3,pu,q3⟩=>?_)
 rw[Rn]
 refine ak ?_
 have I4:Inv X pz σ H3 { s3 with heap:=s3.heap.push { cls:=.type "slice", data:=.fields #[vl,vu,.none] } }:=I3.kept (t':=s3.toks) fun b ob q=>ag _ q
 obtain⟨T,id,hT,ht,hg⟩:=hr pz { s3 with heap:=s3.heap.push { cls:=.type "slice", data:=.fields #[vl,vu,.none] } } σ H3 x v vl vu l u s3.heap.objs.size Q I4 r1 (Heap.IsSliceOf.new ..) pl pu q3
 show wpAny (model X.prog X.w) X.A (Ro e (.Slice lo hi none p2) v (.ref s3.heap.objs.size)) (EP X pz σ Q) X.xe { s3 with heap:=s3.heap.push { cls:=.type "slice", data:=.fields #[vl,vu,.none] } }
 exact tail_any (ops:=[.ref s3.heap.objs.size,v]) ht hT hg (by with_unfolding_all rfl)
noncomputable def DC (xs:List V)(lo hi:Option Int):List V:=(xs.drop (HT.cA xs.length 0 lo)).take (HT.cA xs.length xs.length hi-HT.cA xs.length 0 lo)
theorem zM (xs:List V)(lo hi:Option Int):(DC xs lo hi).length<=xs.length:=by
 unfold DC
 rw[pj,ug]
 omega
def Dt (K:aa):V->Option Int->Option Int->Hp->VK->Prop:=fun x lo hi H Q=>∃ a xs,x=.ref a/\cX K H a xs /\
 ¬(HT.cA xs.length 0 lo=0/\HT.cA xs.length xs.length hi=xs.length)/\∀ p,H p=none->Q (.ref p) (upd H p (.tup (DC xs lo hi)))
theorem HL:wY X (Dt X.K):=by
 intro pz s σ H x v vl vu lo hi sl Q I rx hs pl pu h
 obtain⟨a,xs,rfl,hx,hw,q⟩:=h
 cases rx
 obtain⟨aD,r,ht,hz⟩:=I.tuple hx
 have hlen:aD.toArray.size=xs.length:=by rw[ao];exact r.length.symm
 refine⟨"tuple", _,PyProof.Rows.slot_tuple_getitem.lookup,ht.typeIs,?_⟩
 refine HT.yU ht hs pl pu (by rw[hlen];exact hw) ?_ (by rw[hlen];exact hz)
 rw[hlen]
 refine⟨.ref s.heap.objs.size,_,I.laid (t':=s.toks) (o:=.tup (DC xs lo hi)) (fun b ob q=>ag _ q) (av _) ?_,rfl,q _ (I.bN.fresh (av _))⟩
 exact⟨Nat.le_trans (zM xs lo hi) hz,_,(r.drop (HT.cA xs.length 0 lo)).take (HT.cA xs.length xs.length hi-HT.cA xs.length 0 lo),nD.new _ _⟩
noncomputable def VC (K:aa):R2:=fun x y H Q=>∃ a b xs ys,x=.ref a/\y=.ref b/\cX K H a xs/\cX K H b ys/\xs≠[]/\xs.length+ys.length<=sizeLine /\
 (ys=[]->Q (.ref a) H)/\(ys≠[]->∀ p,H p=none->Q (.ref p) (upd H p (.tup (xs++ys))))
theorem aO.yQ {xs:List V}{us:List af}(r:aO xs us):us=[]↔xs=[]:=by
 cases r with
 |nil=>simp
 |cons _ _=>simp
theorem XX:gW X (i9 .Add) (VC X.K):=by
 intro pz s σ H x y v u Q I rx ry h
 obtain⟨a,b,xs,ys,rfl,rfl,ha,hb,hx,hz,q1,q2⟩:=h
 cases rx
 cases ry
 obtain⟨aD,r1,p1,_⟩:=I.tuple ha
 obtain⟨mS,r2,p2,_⟩:=I.tuple hb
 refine HT.WC p1 p2 (fun z=>hx (r1.yQ.mp z)) (fun z=>⟨.ref a,H,I,rfl,q1 (r2.yQ.mp z)⟩) (fun z=>?_) (by rw[<-r1.length,<-r2.length];exact hz)
 refine⟨.ref s.heap.objs.size,_,I.laid (t':=s.toks) (o:=.tup (xs++ys)) (fun b ob q=>ag _ q) (av _) ?_,rfl,q2 (fun w=>z (r2.yQ.mpr w)) _ (I.bN.fresh (av _))⟩
 exact⟨by rw[bg];exact hz,_,r1.append r2,nD.new _ _⟩
end
end L2
namespace L2
open PySem PySem.Spec PyProof.Rows
noncomputable def mV (n:Nat)(i:Int):Option Nat:=if 0<=i then(if i<n then some i.toNat else none)else if -(n:Int)<=i then some (i+n).toNat else none
noncomputable def eM {α:Type}(xs:List α)(i:Int):Option α:=(mV xs.length i).bind fun j=>xs[j]?
theorem LR {n:Nat}{i:Int}{j:Nat}(h:mV n i=some j):seqIndex? i n=some j/\j<n/\-(n:Int)<=i/\i<n:=by
 unfold mV at h
 by_cases h0:0<=i
 ·rw[if_pos h0]at h
  by_cases h1:i<n
  ·rw[if_pos h1]at h
   have e:i.toNat=j:=cy h
   exact⟨by rw[wa h0 h1,e],by omega,by omega,h1⟩
  ·rw[if_neg h1]at h;cases h
 ·rw[if_neg h0]at h
  by_cases h1 : -(n:Int)<=i
  ·rw[if_pos h1]at h
   have e:(i+n).toNat=j:=cy h
   exact⟨by rw[yr (by omega) h1,e],by omega,h1,by omega⟩
  ·rw[if_neg h1]at h;cases h
theorem DJ {α:Type}{xs:List α}{i:Int}{v:α}(h:eM xs i=some v):∃ j,seqIndex? i xs.length=some j/\xs[j]? = some v/\j<xs.length/\-(xs.length:Int)<=i/\i<xs.length:=by
 unfold eM at h
 cases e:mV xs.length i with
 |none=>rw[e]at h;cases h
 |some j =>
 rw[e]at h
 obtain⟨h1,h2,h3,h4⟩:=LR e
 exact⟨j,h1,h,h2,h3,h4⟩
theorem gD {α:Type}{xs:List α}{j:Nat}{v:α}(h:xs[j]? = some v):eM xs (j:Int)=some v:=by
 have hj:j<xs.length:=(List.getElem?_eq_some_iff.mp h).1
 have e:mV xs.length (j:Int)=some j:=by
  unfold mV
  rw[if_pos (by omega),if_pos (by omega)];simp
 unfold eM;rw[e];exact h
def rV (b:Expr):Prop:=∀ o i,subscripted b false o i=operate [o,i] (uz o i)
def uZ (X:Cx)(r:R2):Prop :=
 ∀(value slice:Expr)(pz:List (Addr×Obj))(s:ah)(σ:St)(H:Hp)(x y:V)(v u:af)(Q:VK),Inv X pz σ H s->RelV x v->RelV y u->r x y H Q ->
 subscripted slice false v u=operate [v,u] (uz v u)->wpAny (model X.prog X.w) X.A (Ro value slice v u) (EP X pz σ Q) X.xe s
def UZ (X:Cx)(id:String)(r:V->List V->Hp->VK->Prop):Prop :=
 ∀(pz:List (Addr×Obj))(s:ah)(σ:St)(H:Hp)(x:V)(xs:List V)(v:af)(us:List af)(Q:VK),Inv X pz σ H s->RelV x v->aO xs us->r x xs H Q ->
 wpAny (model X.prog X.w) X.A (call (.builtin id) (v::us)) (EP X pz σ Q) X.xe s
section
variable {X:Cx}{a b:Expr}{ta tb:TE}{pos:Pos}
theorem uZ.or {r r':R2}(h:uZ X r)(h':uZ X r'):uZ X (fun x y H Q=>r x y H Q∨r' x y H Q):=by
 intro value slice pz s σ H x y v u Q I rx ry q hs
 rcases q with q|q
 ·exact h value slice pz s σ H x y v u Q I rx ry q hs
 ·exact h' value slice pz s σ H x y v u Q I rx ry q hs
theorem UP {r:R2}(hr:uZ X r)(ha:PE X a ta)(hb:PE X b tb)(hs:rV b):PE X (.Subscript a b pos) (Bu r ta tb):=by
 intro pz s σ H Q I h
 exact Subscript_ (Z1 ha hb I h fun v u s2 x y H2 I2 rx ry q=>hr a b pz s2 σ H2 x y v u Q I2 rx ry q (hs _ _))
noncomputable def Aq (K:aa):R2:=fun x y H Q=>∃ p xs i v,x=.ref p/\y=.int i/\eJ K H p xs/\eM xs i=some v/\Q v H
noncomputable def Eo (K:aa):R2:=fun x y H Q=>∃ p xs i v,x=.ref p/\y=.int i/\cX K H p xs/\eM xs i=some v/\Q v H
noncomputable def ZI:R2:=fun x y H Q=>∃ z i c,x=.str z/\y=.int i/\z.length<=sizeLine/\eM z.cps.toList i=some c/\Q (.str ⟨#[c]⟩) H
theorem Y4:uZ X (Aq X.K):=by
 intro value slice pz s σ H x y v u Q I rx ry h hs
 obtain⟨p,xs,i,z,rfl,rfl,hq,he,q⟩:=h
 cases rx
 obtain⟨t,rfl⟩:=ry
 obtain⟨aD,r,pl,hz⟩:=I.list hq
 obtain⟨j,h1,h2,h3,h4,h5⟩:=DJ he
 obtain⟨w,ew,rw'⟩:=r.get h2
 have hl:=r.length
 have hn:=qF
 have fin:EP X pz σ Q w s:=⟨z,H,I,rw',q⟩
 by_cases h0:0<=i
 ·have hj:i.toNat=j:=by
   rw[wa h0 h5]at h1
   exact cy h1
  exact item_listR pl.isList h0 (by omega) (by rw[hj];simpa using ew) fin hs
 ·have hj:(i+(aD.toArray.size:Int)).toNat=j:=by
   rw[yr (by omega) h4]at h1
   rw[ao,<-hl]
   exact cy h1
  exact ky (x:=w) pl.isList.typeIs slot_list_getitem.lookup
   (wpAny_getItem_list_neg (Q:=fun r s'=>r=w/\EP X pz σ Q r s') pl.isList (by omega) (by rw[ao]<;>omega) (by omega) (by rw[hj];simpa using ew) ⟨rfl,fin⟩) hs
theorem oE:uZ X (Eo X.K):=by
 intro value slice pz s σ H x y v u Q I rx ry h hs
 obtain⟨p,xs,i,z,rfl,rfl,hq,he,q⟩:=h
 cases rx
 obtain⟨t,rfl⟩:=ry
 obtain⟨aD,r,pl,hz⟩:=I.tuple hq
 obtain⟨j,h1,h2,h3,h4,h5⟩:=DJ he
 obtain⟨w,ew,rw'⟩:=r.get h2
 have hl:=r.length
 have hn:=qF
 have fin:EP X pz σ Q w s:=⟨z,H,I,rw',q⟩
 exact ky (x:=w) pl.typeIs slot_tuple_getitem.lookup
  (getItem_tuple (j:=j) (Q:=fun r s'=>r=w/\EP X pz σ Q r s') pl (by omega) (by omega) (by rw[ao,<-hl];exact h1) (by simpa using ew) ⟨rfl,fin⟩) hs
theorem JJ:uZ X ZI:=by
 intro value slice pz s σ H x y v u Q I rx ry h hs
 obtain⟨z,i,c,rfl,rfl,hz,he,q⟩:=h
 obtain⟨t,rfl⟩:=rx
 obtain⟨t',rfl⟩:=ry
 obtain⟨j,h1,h2,h3,h4,h5⟩:=DJ he
 have hl:z.cps.toList.length=z.length:=by simp [kf]
 rw[hl]at h1 h4 h5
 have hn:=qF
 exact tail_any (typeIs_str s z t) slot_str_getitem.lookup (getItem_str (c:=c) (by
 have e1:decide (i < -(2 ^ 63:Int))=false:=decide_eq_false (by omega)
 have e2:decide (i ≥ 2 ^ 63)=false:=decide_eq_false (by omega)
 rw[e1,e2,xq]) (by rw[h1];simpa using h2) ⟨.str ⟨#[c]⟩,H,I.tok _,⟨_,rfl⟩,q⟩) hs
noncomputable def Ld (K:aa):R2:=fun x y H Q=>Aq K x y H Q∨Eo K x y H Q∨ZI x y H Q
theorem Ax:uZ X (Ld X.K):=Y4.or (oE.or JJ)
theorem M9 (aD:List af)(n j:Nat)(u:af):jz (·.setIfInBounds j u) { cls:=.type "list", data:=.seq aD.toArray n } = { cls:=.type "list", data:=.seq (aD.set j u).toArray n }:=by
 simp [jz]
theorem Inv.lst {pz:List (Addr×Obj)}{σ:St}{H:Hp}{s:ah}{p:Addr}{xs:List V}(I:Inv X pz σ H s)(h:H p=some (.lst xs)):
 ∃(aD:List af)(n:Nat),aO xs aD/\s.heap.get? p=some { cls:=.type "list", data:=.seq aD.toArray n }/\xs.length<=sizeLine:=by
 obtain⟨z,aD,n,r,e⟩:=I.bN p _ h
 exact⟨aD,n,r,e,z⟩
theorem Inv.Bs {pz:List (Addr×Obj)}{σ:St}{H:Hp}{s:ah}{p:Addr}{xs ys:List V}{aD kD:List af}{n n':Nat}{f:Obj->Obj}(I:Inv X pz σ H s)(h:H p=some (.lst xs))
  (ho:s.heap.get? p=some { cls:=.type "list", data:=.seq aD.toArray n })(hf:f { cls:=.type "list", data:=.seq aD.toArray n } = { cls:=.type "list", data:=.seq kD.toArray n' })(r:aO ys kD)(hz:ys.length<=sizeLine)(t:Nat):
  Inv X pz σ (upd H p (.lst ys)) { s with heap:=s.heap.update p f,toks:=t }:=by
 have e:(s.heap.update p f).get? p=some { cls:=.type "list", data:=.seq kD.toArray n' }:=by
  rw[gg f ho (by rw[hf]<;>rfl),hf]
 refine I.write (x:=p) (e:=p) (by rw[h];trivial) (.inl rfl) (fun b u hb q=>(f9 _ _ (jn hb)).trans q) ⟨_,e⟩ ?_
 exact⟨hz,kD,n',r,e⟩
def Hr:V->V->V->Hp->(Hp->Prop)->Prop:=fun o i v H Q=>∃ p xs k j,o=.ref p/\i=.int k/\H p=some (.lst xs)/\mV xs.length k=some j/\Q (upd H p (.lst (xs.set j v)))
theorem set_list:Dn X Hr:=by
 intro pz s σ H o i v ov iv u Q I ro ri rv h
 obtain⟨p,xs,k,j,rfl,rfl,hp,hj,q⟩:=h
 cases ro
 obtain⟨t,rfl⟩:=ri
 obtain⟨aD,n,r,ho,hz⟩:=I.lst hp
 obtain⟨h1,h2,h3,h4⟩:=LR hj
 have hl:=r.length
 have hn:=qF
 have I':Inv X pz σ (upd H p (.lst (xs.set j v))) { s with heap:=s.heap.update p (jz (·.setIfInBounds j u)) } :=
  I.Bs hp ho (M9 aD n j u) (r.set rv j) (by rw[Qk];exact hz) s.toks
 by_cases h0:0<=k
 ·have hk:k.toNat=j:=by
   rw[wa h0 h4]at h1
   exact cy h1
  exact PySem.W.ki_setAt ho h0 (by omega) (by rw[ao,<-hl];exact h4) (by rw[hk];exact⟨_,I',q⟩)
 ·have hk:(k+(aD.toArray.size:Int)).toNat=j:=by
   rw[yr (by omega) h3]at h1
   rw[ao,<-hl]
   exact cy h1
  exact PySem.W.ki_setBack ho (by omega) (by rw[ao,<-hl];exact h3) (by omega) (by rw[hk];exact⟨_,I',q⟩)
theorem HJ (lo hi:Option Int)(n:Nat):(oj lo hi none n).1=((HT.cA n 0 lo:Nat):Int)/\(oj lo hi none n).2.1=((HT.cA n n hi:Nat):Int)/\(oj lo hi none n).2.2=1:=by
 refine⟨?_,?_,rfl⟩
 ·cases lo with
 |none=>simp [oj,HT.cA]
 |some i =>
  simp only[oj,HT.cA,zk,show(1:Int)>0 by decide,if_true]
  by_cases h:i<0
  ·simp only[h,if_true]<;>omega
  ·simp only[h,if_false]<;>omega
 ·cases hi with
 |none=>simp [oj,HT.cA]
 |some i =>
  simp only[oj,HT.cA,zk,show(1:Int)>0 by decide,if_true]
  by_cases h:i<0
  ·simp only[h,if_true]<;>omega
  ·simp only[h,if_false]<;>omega
theorem FH (aD:List af)(lo hi:Option Int):slicePick aD.toArray lo hi none=((aD.drop (HT.cA aD.length 0 lo)).take (HT.cA aD.length aD.length hi-HT.cA aD.length 0 lo)).toArray:=by
 obtain⟨h1,h2,h3⟩:=HJ lo hi aD.toArray.size
 unfold slicePick
 rw[h1,h2,h3]
 simp only[sliceRange_one,pick_run,ao]<;>rfl
def Z5 (K:aa):V->Option Int->Option Int->Hp->VK->Prop:=fun x lo hi H Q=>∃ a xs,x=.ref a/\eJ K H a xs/\∀ p,H p=none->Q (.ref p) (upd H p (.lst (DC xs lo hi)))
theorem YY:wY X (Z5 X.K):=by
 intro pz s σ H x v vl vu lo hi sl Q I rx hs pl pu h
 obtain⟨a,xs,rfl,hx,q⟩:=h
 cases rx
 obtain⟨aD,r,ht,hz⟩:=I.list hx
 have hlen:=r.length
 refine⟨"list", _,slot_list_getitem.lookup,ht.isList.typeIs,?_⟩
 refine wpAny_getItem_list_slice ht.isList hs pl pu .none (by simp) ?_ (by rw[ao]<;>omega)
 rw[FH,<-hlen]
 refine⟨.ref s.heap.objs.size,_,I.laid (t':=s.toks) (o:=.lst (DC xs lo hi)) (fun b ob q=>ag _ q) (av _) ?_,rfl,q _ (I.bN.fresh (av _))⟩
 exact⟨Nat.le_trans (zM xs lo hi) hz,_,0,(r.drop (HT.cA xs.length 0 lo)).take (HT.cA xs.length xs.length hi-HT.cA xs.length 0 lo),aw _ rfl⟩
theorem G3:gW X (ub .NotIn) (fun x y H Q=>∃ i j,x=.str i/\y=.str j/\Q (.bl (!(!(oh j i 0 j.length 1).isEmpty))) H):=by
 intro pz s σ H x y v u Q I rx ry h
 obtain⟨i,j,rfl,rfl,q⟩:=h
 obtain⟨t,rfl⟩:=rx
 obtain⟨t',rfl⟩:=ry
 exact notIn_str ⟨.bl _,H,I,rfl,q⟩
theorem IV:uC X (.type "list") (fun xs H Q=>∃ p ys,xs=[.ref p]/\(eJ X.K H p ys∨cX X.K H p ys)/\∀ l,H l=none->Q (.ref l) (upd H l (.lst ys))):=by
 intro pz s σ H xs us Q I r h
 obtain⟨p,ys,rfl,hq,q⟩:=h
 obtain⟨u,rfl,rx⟩:=vals1 r
 cases rx
 have fin:∀(aD:List af),aO ys aD->ys.length<=sizeLine->∀(h':Heap)(c':Nat),(∀ b o',s.heap.get? b=some o'->h'.get? b=some o') ->
   h'.get? s.heap.objs.size=some { cls:=.type "list", dict:=none,data:=.seq aD.toArray c',slots:=#[] }->EP X pz σ Q (.ref s.heap.objs.size) { s with heap:=h' }:=fun aD r' hz h' c' kp e =>
  ⟨.ref s.heap.objs.size,_,I.laid (t':=s.toks) kp (av _) (show jF X.prog X.w _ h' _ (.lst ys)from⟨hz,aD,c',r',e⟩),rfl,q _ (I.bN.fresh (av _))⟩
 rcases hq with hq|hq
 ·obtain⟨aD,r',pl,hz⟩:=I.list hq
  have hlen:=r'.length
  obtain⟨o,ho,hc,n,hd⟩:=pl.isList
  exact Rp p (.inl rfl) ho hc hd (fun h' c' kp e=>fin aD r' hz h' c' kp e) (by simp only[ao]<;>omega)
 ·obtain⟨aD,r',pl,hz⟩:=I.tuple hq
  have hlen:=r'.length
  obtain⟨o,ho,hc,n,hd⟩:=pl
  exact Rp p (.inr rfl) ho hc hd (fun h' c' kp e=>fin aD r' hz h' c' kp e) (by simp only[ao]<;>omega)
theorem uS:uC X (.type "tuple") (fun xs H Q=>∃ p ys,xs=[.ref p]/\((eJ X.K H p ys/\∀ l,H l=none->Q (.ref l) (upd H l (.tup ys)))∨(cX X.K H p ys/\Q (.ref p) H))):=by
 intro pz s σ H xs us Q I r h
 obtain⟨p,ys,rfl,h⟩:=h
 obtain⟨u,rfl,rx⟩:=vals1 r
 cases rx
 rcases h with⟨hq,q⟩|⟨hq,q⟩
 ·obtain⟨aD,r',pl,hz⟩:=I.list hq
  have hlen:=r'.length
  refine call_tuple_list pl.isList (fun h' kp=>?_) (by simp only[ao]<;>omega)
  have I1:Inv X pz σ H { s with heap:=h' }:=I.kept (t':=s.toks) kp
  have I2:Inv X pz σ (upd H h'.objs.size (.tup ys)) { s with heap:=h'.push { cls:=.type "tuple", data:=.seq aD.toArray } } :=
   I1.laid (t':=s.toks) (fun b o e=>ag _ e) (av _) (show jF X.prog X.w _ _ _ (.tup ys)from⟨hz,aD,r',nD.new _ _⟩)
  exact⟨.ref h'.objs.size,_,I2,rfl,q _ (I1.bN.fresh (av _))⟩
 ·obtain⟨aD,r',pl,hz⟩:=I.tuple hq
  exact call_tuple_same pl ⟨.ref p,H,I,rfl,q⟩
def PV (K:aa)(T:String)(x:V)(H:Hp):Prop:=match x with
 |.str _=>T ="str"
 |.int _=>T ="int"
 |.ref p=>(T ="list" /\ ∃ xs,eJ K H p xs)∨(T ="tuple" /\ ∃ o,K.lookup p=some o/\o.cls=.type "tuple" /\ o.dict=none) ∨
  (T ="dict" /\ ((∃ gY,H p=some (.dK gY))∨∃ gY,H p=some (.dT gY)))∨(T ="set" /\ ∃ S n,H p=some (.set S n))
 |_=>False
theorem OL {pz:List (Addr×Obj)}{σ:St}{H:Hp}{s:ah}{T:String}{x:V}{v:af}(I:Inv X pz σ H s)(r:RelV x v)(ty:PV X.K T x H):
  s.TypeIs v T/\∀ a,v=.ref a->∃ ob,s.heap.get? a=some ob/\ob.dict=none:=by
 cases x with
 |str z =>
  obtain⟨t,rfl⟩:=r
  cases (show T ="str" from ty)
  exact⟨typeIs_str s z t,fun _ e=>nomatch e⟩
 |int i =>
  obtain⟨t,rfl⟩:=r
  cases (show T ="int" from ty)
  exact⟨typeIs_int s i t,fun _ e=>nomatch e⟩
 |ref p =>
  cases r
  rcases ty with⟨rfl,xs,hq⟩|⟨rfl,o,hk,hc,hd⟩|⟨rfl,hk⟩|⟨rfl,S,n,hk⟩
  ·obtain⟨aD,_,pl,_⟩:=I.list hq
   refine⟨pl.isList.typeIs,fun a e=>?_⟩
   cases e
   obtain⟨o,n,e,c,hd,_⟩:=pl
   exact⟨o,e,hd⟩
  ·refine⟨⟨o,I.iN p o hk,hc⟩,fun a e=>?_⟩
   cases e
   exact⟨o,I.iN _ o hk,hd⟩
  ·have z:∃ o,s.heap.get? p=some o/\o.ExactDict:=by
    rcases hk with⟨gY,hk⟩|⟨gY,hk⟩
    ·obtain⟨_,_,_,_,o,_,_,e,ex,_⟩:=I.bN p _ hk
     exact⟨o,e,ex⟩
    ·obtain⟨_,_,_,_,o,_,_,e,ex,_⟩:=I.bN p _ hk
     exact⟨o,e,ex⟩
   obtain⟨o,e,ex⟩:=z
   refine⟨⟨o,e,ex.1⟩,fun a e2=>?_⟩
   cases e2
   exact⟨o,e,ex.2.1⟩
  ·obtain⟨o,_,_,_,e,ex,_⟩:=I.bN p _ hk
   refine⟨⟨o,e,ex.1⟩,fun a e2=>?_⟩
   cases e2
   exact⟨o,e,ex.2.1⟩
 |_=>exact d5 ty
noncomputable def Nl (K:aa)(T:String)(r:V->List V->Hp->VK->Prop)(to:TE):TE:=fun σ H Q=>to σ H fun x H1=>PV K T x H1/\r x [] H1 Q
noncomputable def Pc (K:aa)(T:String)(r:V->List V->Hp->VK->Prop)(to:TE)(t:TA):TE:=fun σ H Q=>to σ H fun x H1=>PV K T x H1/\t σ H1 fun xs H2=>r x xs H2 Q
variable {o e:Expr}{es:List Expr}{to:TE}{t:TA}{name:Str}{apos jQ:Pos}{T id:String}{r:V->List V->Hp->VK->Prop}
theorem Eh (pa:PlainAttrs T)(slot:Slot T name id)(hty:Tn (.builtin id)=pure (.type "method_descriptor"))(hm:UZ X id r)(ho:PE X o to)
 (jI:gh o name X.env (eval o X.env)=eval o X.env:=by rfl)(jJ:(apos.endLine==jQ.line)=true:=by rfl):PE X (.Call (.Attribute o name apos) [] [] jQ) (Nl X.K T r to):=by
 intro pz s σ H Q I h
 refine wpAny_Call_method0_late jI jJ (aY (ho pz s σ H _ I h) fun v s1 ⟨x,H1,I1,r1,ty,q1⟩=>?_)
 obtain⟨h1,h2⟩:=OL I1 r1 ty
 exact⟨T,id,pa,slot,hty,h1,h2,kz rfl (PySem.evalArgs_none (hm pz s1 σ H1 x [] v [] Q I1 r1 .nil q1))⟩
theorem Jb (pa:PlainAttrs T)(slot:Slot T name id)(hty:Tn (.builtin id)=pure (.type "method_descriptor"))(hm:UZ X id r)(ho:PE X o to)(ha:PA X (e::es) t)
 (jI:gh o name X.env (eval o X.env)=eval o X.env:=by rfl)
 (uN:((dh jQ (ai (e::es) X.env)).all (fun x=>!x.1)&&(ou jQ (kc [] X.env)).all (fun x=>x.1.isSome)
  && decide ((e::es).length+([]:List qw).length+(if([]:List qw).isEmpty then 0 else 1)<30))=true:=by rfl)
 (jJ:(apos.endLine==jQ.line)=true:=by rfl)(hs:ai (e::es) X.env=(false,eval e X.env)::ai es X.env:=by rfl)(qI:(dh jQ (ai es X.env)).any (·.1)=false:=by rfl):
 PE X (.Call (.Attribute o name apos) (e::es) [] jQ) (Pc X.K T r to t):=by
 intro pz s σ H Q I h
 refine u1 jI uN jJ rfl (aY (ho pz s σ H _ I h) fun v s1 ⟨x,H1,I1,r1,ty,q1⟩=>?_)
 obtain⟨h1,h2⟩:=OL I1 r1 ty
 refine⟨T,id,pa,slot,hty,h1,h2,?_⟩
 have hA:=ha jQ pz s1 σ H1 _ I1 q1
 rw[hs]at hA ⊢
 refine kz (by show(false||(dh jQ (ai es X.env)).any (·.1))=false;rw[qI]<;>rfl) (qb ?_)
 exact aY hA fun us s2 ⟨vs,H2,I2,r2,q2⟩=>hm pz s2 σ H2 x vs v us Q I2 r1 r2 q2
end
end L2
namespace L2
open PySem PySem.Spec PyProof.Rows
def Fm (X:Cx)(id:String)(r:V->List V->Hp->VK->Prop):Prop :=
 ∀(pz:List (Addr×Obj))(s:ah)(σ:St)(H:Hp)(x:V)(xs:List V)(v:af)(us:List af)(Q:VK),Inv X pz σ H s->RelV x v->aO xs us->r x xs H Q ->
 wpAny (model X.prog X.w) X.A (call (.builtin id) (v::us)) (EP X pz σ Q) X.xe s
theorem aO.one:∀{x:V}{us:List af},aO [x] us->∃ u,us=[u]/\RelV x u
 |_,_,.cons r .nil=>⟨_,rfl,r⟩
theorem aO.zero:∀{us:List af},aO [] us->us=[]
 |_,.nil=>rfl
theorem aO.dropLast {xs:List V}{us:List af}(h:aO xs us):aO xs.dropLast us.dropLast:=by
 induction h with
 |nil=>exact .nil
 |cons r t ih =>
 cases t with
 |nil=>exact .nil
 |cons q t'=>exact .cons r ih
theorem aO.reverse {xs:List V}{us:List af}(h:aO xs us):aO xs.reverse us.reverse:=by
 induction h with
 |nil=>exact .nil
 |cons r t ih=>rw[jd,jd];exact aO.append ih (.cons r .nil)
theorem aO.rep {xs:List V}{us:List af}(h:aO xs us):∀ k:Nat,aO (ay k xs).flatten (ay k us).flatten
 |0=>.nil
 |k+1=>by
  rw[jj,jj,l4,l4]
  exact aO.append h (aO.rep h k)
theorem NJ {α:Type}(l:List α):l.eraseIdx (l.length-1)=l.dropLast:=by
 induction l with
 |nil=>rfl
 |cons a r ih =>
  cases r with
  |nil=>rfl
  |cons b r =>
   have e:(a::b::r).length-1=((b::r).length-1)+1:=by
    have h1:(a::b::r).length=r.length+2:=rfl
    have h2:(b::r).length=r.length+1:=rfl
    omega
   rw[e,List.eraseIdx_cons_succ,ih]
   all_goals rfl
theorem w6 (aD:List af):∀(k:Nat)(acc:List af),
  pk (fun x1 x2=>x1++x2) acc.toArray (ay k aD.toArray)=(acc++(ay k aD).flatten).toArray
 |0,acc=>by simp
 |k+1,acc=>by
  have e:acc.toArray++aD.toArray=(acc++aD).toArray:=by simp
  have e2:(acc++aD)++(ay k aD).flatten=acc++(ay (k+1) aD).flatten:=by
   rw[jj,l4,yt]
  rw[<-e2,<-w6 aD k (acc++aD),<-e,jj,qh]
section
variable {X:Cx}{pz:List (Addr×Obj)}{σ:St}{H:Hp}{s:ah}{l b:Addr}{xs ys zs:List V}
theorem Inv.L5 {aD kD:List af}{n:Nat}{f:Array af->Array af}{t':Nat}(I:Inv X pz σ H s)(hH:H l=some (.lst xs))
 (e:s.heap.get? l=some { cls:=.type "list", data:=.seq aD.toArray n })(hf:f aD.toArray=kD.toArray)(hv:aO ys kD)(hz:ys.length<=sizeLine):
 Inv X pz σ (upd H l (.lst ys)) { s with heap:=s.heap.update l (jz f),toks:=t' }:=by
 have q:=PySem.IsL.update e f
 rw[hf]at q
 refine I.write (x:=l) (e:=l) (by rw[hH];exact trivial) (.inl rfl) (fun b' u hb hu=>(f9 s.heap (jz f) (jn hb)).trans hu) ⟨_,q⟩ ?_
 exact⟨hz,kD,_,hv,q⟩
theorem Inv.SS {aD:List af}{t':Nat}(I:Inv X pz σ H s)(hv:aO ys aD)(hz:ys.length<=sizeLine):
 Inv X pz σ (upd H s.heap.objs.size (.lst ys)) { s with heap:=s.heap.push { cls:=.type "list", data:=.seq aD.toArray },toks:=t' } :=
 I.laid (fun _ _ q=>ag _ q) (av _) ⟨hz,aD,0,hv,aw _ rfl⟩
theorem Inv.fresh (I:Inv X pz σ H s):H s.heap.objs.size=none:=I.bN.fresh (av _)
theorem Inv.tY (I:Inv X pz σ H s)(hH:H l=some (.lst xs)):xs.length<=sizeLine/\∃(aD:List af)(n:Nat),aO xs aD/\xs.length=aD.length/\s.heap.get? l=some { cls:=.type "list", data:=.seq aD.toArray n }:=by
 obtain⟨z,aD,n,r,e⟩:=I.bN l _ hH
 exact⟨z,aD,n,r,r.length,e⟩
theorem AS {n:Nat}(h:n<=sizeLine):d7 n=false:=by
 unfold d7
 exact decide_eq_false (by omega)
end
section
variable {X:Cx}
def XN:V->List V->Hp->VK->Prop:=fun x vs H Q=>∃ l xs y,x=.ref l/\vs=[y]/\H l=some (.lst xs)/\xs.length<sizeLine/\Q .non (upd H l (.lst (xs++[y])))
theorem qU:Fm X "list.append" XN:=by
 intro pz s σ H x vs v us Q I rx rv h
 obtain⟨l,xs,y,rfl,rfl,hH,hz,q⟩:=h
 cases rx
 obtain⟨u,rfl,ru⟩:=rv.one
 obtain⟨z,aD,n,r,hl,e⟩:=I.tY hH
 refine n9 F.slot_list_append ⟨_,e,rfl⟩ F.entry_list_append (F.args_list_append_2 _ _) (PySem.list_append l aD.toArray n u (by rw[ao];omega)) ⟨e,?_⟩
 refine⟨.non,_,I.L5 (kD:=aD++[u]) hH e (by simp) (r.append (.cons ru .nil)) ?_,rfl,q⟩
 rw[bg,vp]
 omega
def Y1:V->List V->Hp->VK->Prop:=fun x vs H Q=>∃ l b xs zs,x=.ref l/\vs=[.ref b]/\H l=some (.lst xs)/\H b=some (.lst zs)/\xs.length+zs.length<=sizeLine/\Q .non (upd H l (.lst (xs++zs)))
theorem xG:Fm X "list.extend" Y1:=by
 intro pz s σ H x vs v us Q I rx rv h
 obtain⟨l,b,xs,zs,rfl,rfl,hH,hB,hz,q⟩:=h
 cases rx
 obtain⟨u,rfl,ru⟩:=rv.one
 cases ru
 obtain⟨z,aD,n,r,hl,e⟩:=I.tY hH
 obtain⟨z2,mS,n2,r2,hl2,e2⟩:=I.tY hB
 have iD:aD.toArray.size+mS.toArray.size<=sizeLine:=by rw[ao,ao];omega
 have hlong:¬(!aD.toArray.isEmpty&&d7 (aD.toArray.size+mS.toArray.size))=true:=by
  rw[AS iD,cq]
  exact g9
 refine n9 yd ⟨_,e,rfl⟩ xb (wb _ _)
  (AutoSeq1.list_extend_list_list_0 l aD.toArray n b mS.toArray n2 hlong (by rw[ao];omega) (by omega)) ⟨e,e2,?_⟩
 refine⟨.non,_,I.L5 (kD:=aD++mS) hH e (by simp) (r.append r2) ?_,rfl,q⟩
 rw[bg]
 omega
def Lx:V->List V->Hp->VK->Prop:=fun x vs H Q=>∃ l xs y,x=.ref l/\vs=[]/\H l=some (.lst xs)/\xs[xs.length-1]? = some y/\Q y (upd H l (.lst xs.dropLast))
theorem GF:Fm X "list.pop" Lx:=by
 intro pz s σ H x vs v us Q I rx rv h
 obtain⟨l,xs,y,rfl,rfl,hH,hy,q⟩:=h
 cases rx
 have hus:=rv.zero
 subst hus
 obtain⟨z,aD,n,r,hl,e⟩:=I.tY hH
 obtain⟨u,hu,ru⟩:=r.get hy
 have hy':aD.toArray[aD.toArray.size-1]? = some u:=by
  show aD.toArray[aD.length-1]? = some u
  rw[<-Array.getElem?_toList,<-hl]
  exact hu
 refine n9 F.slot_list_pop ⟨_,e,rfl⟩ F.entry_list_pop (F.args_list_pop_1 _) (MeetsSeq.list_pop_last l aD.toArray n u hy' (by rw[ao];omega)) ⟨e,?_⟩
 refine⟨y,_,I.L5 (kD:=aD.dropLast) hH e ?_ r.dropLast ?_,ru,q⟩
 ·show aD.toArray.eraseIdxIfInBounds (aD.toArray.size-1)=aD.dropLast.toArray
  rw[ao,List.eraseIdxIfInBounds_toArray,NJ]
 ·rw[List.length_dropLast]
  omega
noncomputable def Z3:R2:=fun x y H Q=>∃ l b xs zs,x=.ref l/\y=.ref b/\H l=some (.lst xs)/\H b=some (.lst zs)/\xs.length+zs.length<=sizeLine/\∀ p,H p=none->Q (.ref p) (upd H p (.lst (xs++zs)))
theorem Cq:gW X (i9 .Add) Z3:=by
 intro pz s σ H x y v u Q I rx ry h
 obtain⟨l,b,xs,zs,rfl,rfl,hH,hB,hz,q⟩:=h
 cases rx
 cases ry
 obtain⟨z,aD,n,r,hl,e⟩:=I.tY hH
 obtain⟨z2,mS,n2,r2,hl2,e2⟩:=I.tY hB
 refine PySem.P.add_list e e2 ?_ (by rw[ao,ao];omega)
 have ea:aD.toArray++mS.toArray=(aD++mS).toArray:=by simp
 rw[ea]
 exact⟨.ref _,_,I.SS (t':=s.toks) (r.append r2) (by rw[bg];omega),rfl,q _ I.fresh⟩
noncomputable def Ck:R2:=fun x y H Q=>∃ l k xs,x=.ref l/\y=.int k/\H l=some (.lst xs)/\-(2 ^ 63)<=k/\k<2 ^ 63/\xs.length*k.toNat<=sizeLine /\
 ∀ p,H p=none->Q (.ref p) (upd H p (.lst (ay k.toNat xs).flatten))
theorem len_rep {α:Type}(xs:List α)(k:Nat):(ay k xs).flatten.length=k*xs.length:=by
 induction k with
 |zero=>simp
 |succ k ih=>rw[jj,l4,bg,ih,Sf,Nat.add_comm]
theorem Be:gW X (i9 .Mult) Ck:=by
 intro pz s σ H x y v u Q I rx ry h
 obtain⟨l,k,xs,rfl,rfl,hH,h1,h2,hz,q⟩:=h
 cases rx
 obtain⟨t,rfl⟩:=ry
 obtain⟨z,aD,n,r,hl,e⟩:=I.tY hH
 have hlen:aD.toArray.size*k.toNat<=sizeLine:=by rw[ao,<-hl];exact hz
 have hcap:¬aD.toArray.size*k.toNat>(2 ^ 63-1) / 8:=by
  have:(sizeLine:Nat)<=(2 ^ 63-1) / 8:=by decide
  omega
 have mT:¬(!Builtin.List.listFitsIndex k)=true:=by
  rw[Qz h1 h2]
  exact g9
 have hlong:¬d7 (aD.toArray.size*k.toNat)=true:=by
  rw[AS hlen]
  exact g9
 have hnew:pk (fun x1 x2=>x1++x2) #[] (ay (if aD.toArray.isEmpty=true then 0 else k.toNat) aD.toArray)=(ay k.toNat aD).flatten.toArray:=by
  have f0:∀ m:Nat,pk (fun x1 x2=>x1++x2) #[] (ay m aD.toArray)=(ay m aD).flatten.toArray:=fun m=>by
   have:=w6 aD m []
   rw[b7]at this
   exact this
  rw[f0]
  cases aD with
  |nil=>simp
  |cons a r'=>rw[if_neg (by simp)]
 refine sd (T :="list") (U :="int") (by decide) ⟨_,e,rfl⟩ (fun s'=>ye s' k t) noFill_list_mul F.fills_int_mul Ql repeat_list F.slot_int_index.lookup
  (n9 Ql (ye s k t) F.entry_int_rmul (F.args_int_rmul_2 _ _) (int___rmul___int_list k t l aD.toArray n)
   ⟨e,rfl,⟨_,e,rfl⟩,n9 F.slot_list_mul ⟨_,e,rfl⟩ F.entry_list_mul (F.args_list_mul_2 _ _) (AutoListH.list___mul___list_int_3 l aD.toArray n k t mT hcap hlong) ⟨e,?_⟩⟩)
 rw[hnew]
 exact⟨.ref _,_,I.SS (t':=s.toks) (r.rep k.toNat) (by rw[len_rep,yu];exact hz),rfl,q _ I.fresh⟩
end
end L2
namespace Att
open PySem PySem.W PySem.Calls PyProof.Rows
theorem BY {P:Params}{h:Heap}:∀(ns:List Int)(vs:List af),WellAll P h vs (ns.map WData.int)->Qs vs ns:=by
 intro ns
 induction ns with
 |nil =>
 intro vs w
 rw[mi]at w
 cases w
 exact .nil
 |cons n ns ih =>
 intro vs w
 rw[aq]at w
 cases w with
 |cons a b =>
  cases a
  exact .cons _ _ (ih _ b)
theorem QS {l:Tr}{n:Nat}(hn:l.most=some n){P:Params}{h:Heap}{args:List WData}{vals:List af}
  (hpre:l.row.toRowW.claim.pre args=true)(hwl:WellAll P h vals args):
  ∃ a vs ns,vals=[gf a]/\args=[WData.list (ns.map WData.int)]/\h.get? a=some { cls:=.type "list", data:=.seq vs.toArray }/\Qs vs ns/\ns.length<=n:=by
 have hsh:WShape.hasAll [] args [.list .int]=true:=(pre_splitW hpre).1
 have hc:l.pre.holds [] { args:=args }=true:=(pre_splitW hpre).2
 obtain⟨d,r,rfl,h1,h2⟩:=hasAllW_cons hsh
 obtain rfl:=hasAllW_nil h2
 obtain⟨xs,rfl,h3⟩:=hasW_list h1
 obtain⟨ns,rfl⟩:=items_int h3
 have hlen:ns.length<=n:=by
  unfold OpenLaw.pre at hc
  have h4:(WTm.not (.lt (.lit (.int (n:Int))) (.len (.arg 0)))).holds [] { args:=[.list (ns.map .int)] }=true:=by
   have h4:=(holds_andW hc).1
   rw[hn]at h4
   exact h4
  have h5:=condW_of h4 (w_not (w_lt w_lit (w_len_list (w_arg rfl))))
  rw[ab]at h5
  refine zl fun q=>?_
  have q':(n:Int)<((ns.length:Nat):Int):=by omega
  first
   |(rw[decide_eq_true q']at h5;exact absurd h5 (by decide))
   |(simp at h5;omega)
 cases hwl with
 |cons w1 w2 =>
  cases w2
  cases w1 with
  |list ho NR=>exact⟨_,_,ns,rfl,rfl,ho,BY ns _ NR,hlen⟩
theorem QT (l:Tr)(args:List WData):l.row.toRowW.claim.post args (.bool true) args=true :=
 postW_of (r:=l.row.toRowW) (X:=(true==true))
 (show WShape.has [] (.bool true) .bool=true by first|rfl|decide|simp [WShape.has,WShape.arms,WShape.armsAll])
 (show(WTm.eq .res (.lit (.bool true))).value [] { args:=args,res:=some (.bool true),after:=args }=some (.bool (true==true))from w_eq_bool (w_res rfl) w_lit) rfl
theorem KE {l:Tr}{n:Nat}{q:br}{loose:List Str}{XP:(Str->Option af)->Heap->Prop}{YP:dg->Heap->Prop}{d:DefRec}
 (hn:l.most=some n)(hdf:d.params.defaults=[])
 (call:∀(w:dg)(s₀ s₁:ah)(mg mb:Str->Option af)(fa:Addr)(o:Obj)(pm cd doc:af)(a:Addr)(vs:List af)(ns:List Int),
  Ground q loose [] XP w s₀ mg mb s₁.heap->YP w s₁.heap ->
  s₁.heap.get? fa=some o->o.data=.func (docDef d.name d.params d.body d.scope pm cd doc)->s₁.heap.CodeRec cd d.name->mg d.name=some (.ref fa) ->
  s₁.heap.get? a=some { cls:=.type "list", data:=.seq vs.toArray }->Qs vs ns->ns.length<=n->s₁.gens = #[] ->
  ku (model l.prog w) w8 (.call (.ref fa) ⟨[.ref a],[]⟩) (fun r s'=>r=.ok (.ret (.bool true))/\OldK s₁.heap s'.heap/\s'.os=s₁.os/\sy s'.gens) s₁):
 WalkO q loose XP YP l.row.toRowW d [] (fun f vs=>PySem.call f vs):=by
 intro w s₀ s₁ mg mb G Y fa o pm cd doc dV kV ho hd hcd hD hmg hg args vals as hpre hlay hrd hwl hlo
 obtain rfl:dV=.none:=Dflts.none hD hdf
 obtain rfl:kV=.none:=Dflts.noKw hD
 obtain⟨a,vs,ns,rfl,rfl,hobj,hints,hlen⟩:=QS hn hpre hwl
 refine enter_call (kx (call w s₀ s₁ mg mb fa o pm cd doc a vs ns G Y ho (fd_plain hd) hcd hmg hobj hints hlen hg) fun r s' hq=>?_)
 obtain⟨rfl,h2,h3,h4⟩:=hq
 exact⟨.inl ⟨.bool true,.bool true,[],rfl,fun _=>rfl,.bool true,QT l _,fun _=>⟨List.Pairwise.nil,fun _ hm=>(nomatch hm)⟩⟩,h2,h3,h4⟩
end Att
namespace L2
open PySem PySem.Spec PyProof.Rows
theorem DY:∀{vs:List af}{ns:List Int},Qs vs ns->aO (ns.map V.int) vs
 |_,_,.nil=>.nil
 |_,_,.cons n t h=>.cons ⟨t,rfl⟩ (DY h)
end L2
namespace L2
open PySem PySem.Spec PyProof.Rows
noncomputable def kG (s:Stmt):Arguments:=match s with
 |.FunctionDef _ a _ _ _ _ _ _ _ _=>a
 |_=>{ posonlyargs:=[],args:=[],vararg:=none,kwonlyargs:=[],kw_defaults:=[],kwarg:=none,defaults:=[] }
noncomputable def fG (s:Stmt):List Stmt:=match s with
 |.FunctionDef _ _ b _ _ _ _ _ _ _=>b
 |_=>[]
noncomputable def aI (s:Stmt):Scope:=match s with
 |.FunctionDef _ _ _ _ _ _ sc _ _ _=>sc
 |_=>{ kind:=.function,names:=[],isGenerator:=false,isCoroutine:=false }
noncomputable abbrev dB:zP:=fun _ _ _ _ _ _=>False
noncomputable abbrev E0:XK:=fun _ _ _=>False
theorem FV {X:Cx}:oH dB X E0:=fun _ _ _ _ _ _ _ h=>h.elim
structure wC (K:aa)(x qual:Str)(st:Stmt)(f:Addr)(fd:gw):Prop where
 ex:∃(oc:af)(od:Option Addr)(kV doc pm:af)(an:Option Addr)(bE ct:af)(osl:Array (Option af)),
 fd=ig x qual (kG st) (fG st) (aI st) .none kV doc pm an bE ct/\K.lookup f=some ⟨oc,od,.func fd,osl⟩/\kj K bE qual=true
 kp:fe K (.ref f)=true
section
variable {P:br}{w:dg}{K:aa}{mg:Str->Option af}{base:Heap}
theorem wC.ok {x qual:Str}{st:Stmt}{f:Addr}{fd:gw}{N ps:List Str}{k:Nat}{sp:Sp}(F:wC K x qual st f fd)(S:lJ N ps (aI st))(len:∀ vs H Q E,sp vs H Q E->vs.length=ps.length)
 (hbody:∀(bE:af)(A:cp)(outer:List Env)(s:ah)(H:Hp)(vs:List V)(Q:VK)(E:XK),cR k (A.deeper (mz qual (aI st) s.heap.objs.size f bE))->sp vs H Q E ->
  ∃ t,kA (eY dB P w K mg base N qual (aI st) f bE A outer s H E).iA (fG st) t/\t { nx:=fun _ H'=>Q .non H',rt:=Q } (start N vs) H):fJ P w K mg base dB (k+1) f fd ps sp:=by
 obtain⟨oc,od,kV,doc,pm,an,bE,ct,osl,rfl,lk,hcd⟩:=F.ex
 refine VV lk hcd S len fun A outer s H vs Q E hr hsp=>?_
 obtain⟨t,h,q⟩:=hbody bE A outer s H vs Q E hr hsp
 exact⟨t,h.iA,q⟩
theorem wC.binds {x qual:Str}{st:Stmt}{f:Addr}{fd:gw}{ps:List Str}(F:wC K x qual st f fd)
 (h:∀(kV doc pm:af)(an:Option Addr)(bE ct:af)(us:List af),us.length=ps.length->Qx (ig x qual (kG st) (fG st) (aI st) .none kV doc pm an bE ct) ⟨us,[]⟩=pure (ps.zip us)):Binds K fd ps []:=by
 obtain⟨oc,od,kV,doc,pm,an,bE,ct,osl,rfl,lk,hcd⟩:=F.ex
 exact .all (h kV doc pm an bE ct)
theorem CA {x qual:Str}{st:Stmt}{f:Addr}{oc:af}{od an:Option Addr}{osl:Array (Option af)}{kV doc pm bE ct:af}(l:K.lookup f=some ⟨oc,od,.func (ig x qual (kG st) (fG st) (aI st) .none kV doc pm an bE ct),osl⟩)
 (c:kj K bE qual=true)(k:fe K (.ref f)=true):wC K x qual st f (ig x qual (kG st) (fG st) (aI st) .none kV doc pm an bE ct):=⟨⟨oc,od,kV,doc,pm,an,bE,ct,osl,rfl,l,c⟩,k⟩
end
theorem RB {n:Nat}(h:n<=1000):n<sizeLine:=rp h (by decide)
section
variable {X:Cx}
theorem pv (i:Nat){x:Str}{pos:Pos}(hN:X.N[i]? = some x:=by rfl)(hv:U9 X.env.scope x:=by first|exact Or.inl rfl|exact Or.inr (Or.inl rfl)|exact Or.inr (Or.inr rfl))(hd:(x==("__debug__" : Str))=false:=by decide)
 (hcd:(x==("__classdict__" : Str))=false:=by decide):PE X (.Name x pos) (SD i):=PB hN hv hd hcd
end
end L2
end
section
namespace L3
inductive D where
 |non|bl (b:Bool)|int (i:Int)|str (x:List Nat)|tup (ds:List D)|ref (a:Nat)|cY (ks vs:List D)|bL (ds:List D)|exc (c:Nat)
structure CK where
 c:Nat
 ln:Nat
 col:Nat
 q:List Nat
inductive MO where
 |lst (ds:List D)
 |dic (ks vs:List D)
 /-- an instance of the class of this name: aD attributes -/
 |ins (c:List Nat)(fs:List (List Nat×D))
 /-- a dict that is filled: aD keys are tuples of texts and of such tuples -/
 |tab (ks vs:List D)
 /-- a def that was made in a def: aD number, what it caught -/
 |fn (f:Nat)(cs:List D)
 /-- the table of a code -/
 |cod (κ:CK)
noncomputable abbrev aA:=Nat->Option MO
noncomputable def put (st:aA)(a:Nat)(o:MO):aA:=fun b=>if b=a then some o else st b
inductive sP where
 |add|sub|mul|fdiv|mod|pow
inductive nZ where
 |eq|ne|lt|le|gt|ge|is_|isnot|in_|gE
inductive Ty where
 |int|str|bool|list|tuple|dict|err (c:Nat)
inductive BI where
 |len|all|any|max|min|sum|abs|list|tuple|int|str|bool|tG|sorted
inductive MT where
 |append|extend|pop|index|count|join|split|get|insert|remove
inductive IK where
 |range|zip|enum|rev|items|keys|values
inductive Ex where
 |c (d:D)|v (i:Nat)
 |tup (es:List Ex)|lst (es:List Ex)
 |bin (op:sP)(a b:Ex)|neg (a:Ex)
 |cmp (op:nZ)(a b:Ex)|chain (op op':nZ)(a b c:Ex)
 |and_ (a b:Ex)|or_ (a b:Ex)|not_ (a:Ex)|ite (c a b:Ex)
 |call (f:Nat)(es:List Ex)|bi (f:BI)(es:List Ex)|isi (a:Ex)(ts:List Ty)
 |dF (m:MT)(o:Ex)(es:List Ex)
 |ix (a b:Ex)|sl (a:Ex)(lo hi:List Ex)
 /-- f(g(..)), g what is walked on the spot -/
 |bit (f:BI)(k:IK)(es:List Ex)
 |comp (n:Nat)(aK:List Nat)(tg:List Nat)(one:Bool)(k:Option IK)(aD:List Ex)(ifs:List Ex)(elt:Ex)
 |dic (ks vs:List Ex)
 /-- o.f of an instance of the class c; C(..), f aD __init__; o.m(..), f the def -/
 |fld (c f:List Nat)(o:Ex)|mk (c:List Nat)(f:Nat)(es:List Ex)|mcl (c m:List Nat)(f:Nat)(o:Ex)(es:List Ex)
 /-- {}; k in d; d[k] -/
 |cv (i:Nat)(es:List Ex)|callL (f:Nat)(es:List Ex)(g:Nat)(aK:List Nat)(κ:CK)
 |dnew|d1 (k v:Ex)|din (neg:Bool)(k d:Ex)|dix (d k:Ex)
inductive Tg where
 |nm (i:Nat)|tp (is:List Nat)|ix (o i:Ex)|fl (c f:List Nat)(o:Ex)|dk (o i:Ex)
inductive Sx where
 |ex (e:Ex)|asg (t:Tg)(e:Ex)|aug (i:Nat)(op:sP)(e:Ex)
 |iff (c:Ex)(a b:List Sx)|whl (c:Ex)(b:List Sx)|iM (t:Tg)(k:Option IK)(aD:List Ex)(b:List Sx)
 |ret (e:Ex)|brk|cnt|pass|rais (c:Nat)(es:List Ex)
 |tryy (b:List Sx)(c:Nat)(n:Option Nat)(h:List Sx)
structure Fn where
 np:Nat
 nl:Nat
 body:List Sx
structure Prog where
 fns:Nat->Option Fn
 /-- class c is class c' or stands under it -/
 sub:Nat->Nat->Bool
noncomputable abbrev St:=List (Option D)
abbrev VK:=D->aA->Prop
abbrev XK:=Nat->aA->Prop
abbrev bC:=Nat->List D->aA->VK->XK->Prop
noncomputable abbrev bD:Nat:=16777216
noncomputable abbrev lE:Nat:=80
def W (x:String):List Nat:=x.toList.map Char.toNat
def Ext (st aB:aA):Prop:=∀ a o,st a=some o->aB a=some o
def eF (σ:St)(i:Nat)(Q:D->Prop):Prop:=match σ[i]? with
 |some (some d)=>Q d
 |_=>False
def pF (σ:St):List Nat->(List D->Prop)->Prop
 |[],Q=>Q []
 |i::is,Q=>eF σ i fun d=>pF σ is fun ds=>Q (d::ds)
def wJ:D->aA->(Nat->Nat->List D->Prop)->Prop
 |.ref a,st,K=>match st a with
  |some (.fn f cs)=>K a f cs
  |_=>False
 |_,_,_=>False
noncomputable def del (st:aA)(a:Nat):aA:=fun b=>if b=a then none else st b
mutual
noncomputable def bT:D->D->Bool
 |.non,.non=>true
 |.bl a,.bl b=>a==b
 |.bl a,.int b=>(if a then 1 else 0)==b
 |.int a,.bl b=>a==(if b then 1 else 0)
 |.int a,.int b=>a==b
 |.str a,.str b=>a==b
 |.tup as,.tup bs=>dI as bs
 |_,_=>false
noncomputable def dI:List D->List D->Bool
 |[],[]=>true
 |a::as,b::bs=>bT a b&&dI as bs
 |_,_=>false
end
mutual
noncomputable def bH:D->Bool
 |.non=>true
 |.bl _=>true
 |.int _=>true
 |.str _=>true
 |.tup ds=>bI ds
 |_=>false
noncomputable def bI:List D->Bool
 |[]=>true
 |d::ds=>bH d&&bI ds
end
mutual
noncomputable def dJ:D->Nat
 |.tup ds=>cC ds+1
 |_=>0
noncomputable def cC:List D->Nat
 |[]=>0
 |d::ds=>max (dJ d) (cC ds)
end
def plain (d:D):Prop:=bH d=true/\dJ d<=lE
def rT (ds:List D):Prop:=bI ds=true/\cC ds<=lE
noncomputable def UO:Option MO->Bool
 |some (.lst ds)=>bI ds&&decide (cC ds<=lE)
 |_=>false
mutual
noncomputable def gK (st:aA):D->Bool
 |.non=>true
 |.bl _=>true
 |.int _=>true
 |.str _=>true
 |.tup ds=>gP st ds
 |.ref a=>UO (st a)
 |.bL ds=>bI ds&&decide (cC ds<=lE)
 |_=>false
noncomputable def gP (st:aA):List D->Bool
 |[]=>true
 |d::ds=>gK st d&&gP st ds
end
noncomputable def B9:Option MO->Option MO->Bool
 |some (.lst xs),some (.lst ys)=>dI xs ys
 |_,_=>false
mutual
noncomputable def bJ (st:aA):D->D->Bool
 |.non,.non=>true
 |.bl a,.bl b=>a==b
 |.bl a,.int b=>(if a then 1 else 0)==b
 |.int a,.bl b=>a==(if b then 1 else 0)
 |.int a,.int b=>a==b
 |.str a,.str b=>a==b
 |.tup as,.tup bs=>gA st as bs
 |.ref a,.ref b=>B9 (st a) (st b)
 |.bL xs,.ref b=>B9 (some (.lst xs)) (st b)
 |.ref a,.bL ys=>B9 (st a) (some (.lst ys))
 |.bL xs,.bL ys=>dI xs ys
 |_,_=>false
noncomputable def gA (st:aA):List D->List D->Bool
 |[],[]=>true
 |a::as,b::bs=>bJ st a b&&gA st as bs
 |_,_=>false
end
def plainS (st:aA)(d:D):Prop:=gK st d=true/\dJ d<=lE
def cZ (st:aA)(ds:List D):Prop:=gP st ds=true/\cC ds<=lE
def U2 (x y:D)(st:aA)(P:Bool->Prop):Prop:=plainS st x/\plainS st y/\P (bJ st x y)
noncomputable def occurs (x:List Nat):List Nat->Bool
 |[]=>x.isEmpty
 |c::r=>x.isPrefixOf (c::r)||occurs x r
def cD (st:aA)(a:Nat)(K:List D->Prop):Prop:=match st a with
 |some (.lst ds)=>K ds
 |_=>False
def cV {α:Type}(o:Option α)(K:α->Prop):Prop:=match o with
 |some x=>K x
 |none=>False
def dY (st:aA)(a:Nat)(K:List D->Prop)(M:List D->List D->Prop):Prop:=match st a with
 |some (.lst ds)=>K ds
 |some (.dic ks vs)=>M ks vs
 |_=>False
def HM:D->D->aA->(Bool->Prop)->Prop
 |x,.tup ds,st,P=>plainS st x/\cZ st ds/\P (ds.any fun d=>bJ st d x)
 |x,.ref a,st,P=>dY st a (fun ds=>plainS st x/\cZ st ds/\P (ds.any fun d=>bJ st d x)) fun ks _=>plain x/\rT ks/\P (ks.any fun d=>bT d x)
 |.str w,.cY ks _,_,P=>P (ks.any fun d=>bT d (.str w))
 |x,.bL ds,st,P=>plainS st x/\cZ st ds/\P (ds.any fun d=>bJ st d x)
 |.str w,.str z,_,P=>P (occurs w z)
 |_,_,_,_=>False
def tR (f:Int->Int->Bool):D->D->(Bool->Prop)->Prop
 |.int i,.int j,P=>P (f i j)
 |_,_,_=>False
noncomputable def FP:D->Bool
 |.non=>true
 |_=>false
noncomputable def TQ (b:Bool):D->Bool
 |.bl c=>c==b
 |_=>false
def BW:D->D->(Bool->Prop)->Prop
 |x,.non,P=>P (FP x)
 |x,.bl b,P=>P (TQ b x)
 |_,_,_=>False
def cW:nZ->D->D->aA->(Bool->Prop)->Prop
 |.eq,x,y,st,P=>U2 x y st P
 |.ne,x,y,st,P=>U2 x y st fun b=>P (!b)
 |.lt,x,y,_,P=>tR (fun i j=>decide (i<j)) x y P
 |.le,x,y,_,P=>tR (fun i j=>decide (i<=j)) x y P
 |.gt,x,y,_,P=>tR (fun i j=>decide (j<i)) x y P
 |.ge,x,y,_,P=>tR (fun i j=>decide (j<=i)) x y P
 |.is_,x,y,_,P=>BW x y P
 |.isnot,x,y,_,P=>BW x y fun b=>P (!b)
 |.in_,x,y,st,P=>HM x y st P
 |.gE,x,y,st,P=>HM x y st fun b=>P (!b)
def sR (i:Int):Prop:=-18446744073709551616<i/\i<18446744073709551616
def gF (ds:List D)(st:aA)(Q:VK):Prop:=ds.length<=bD/\∀ p,st p=none->Q (.ref p) (put st p (.lst ds))
def iI:sP->D->D->aA->VK->Prop
 |.add,.int i,.int j,st,Q=>Q (.int (i+j)) st
 |.add,.str a,.str b,st,Q=>a.length+b.length<=bD/\Q (.str (a++b)) st
 |.add,.tup a,.tup b,st,Q=>a.length+b.length<=bD/\Q (.tup (a++b)) st
 |.add,.ref a,.ref b,st,Q=>cD st a fun xs=>cD st b fun ys=>gF (xs++ys) st Q
 |.sub,.int i,.int j,st,Q=>Q (.int (i-j)) st
 |.mul,.int i,.int j,st,Q=>(sR i∨sR j)/\Q (.int (i*j)) st
 |.mul,.ref a,.int k,st,Q=>cD st a fun xs=>xs.length*k.toNat<=bD/\(-9223372036854775808<=k/\k<9223372036854775808)/\gF (ay k.toNat xs).flatten st Q
 |.mul,.tup xs,.int k,st,Q=>(0<xs.length/\xs.length<=1000/\1<=k/\k<1000)/\Q (.tup (ay k.toNat xs).flatten) st
 |.fdiv,.int i,.int j,st,Q=>(0<j/\j<1073741824)/\Q (.int (i / j)) st
 |.mod,.int i,.int j,st,Q=>0<j/\Q (.int (i % j)) st
 |.pow,.int i,.int j,st,Q=>(0<=j/\j<=1000000/\i.natAbs<18446744073709551616)/\Q (.int (i ^ j.toNat)) st
 |_,_,_,_,_=>False
def C9:D->aA->VK->Prop
 |.int i,st,Q=>Q (.int (-i)) st
 |_,_,_=>False
noncomputable def iS:List (List Nat×D)->List Nat->Option D
 |[],_=>none
 |(g,d)::r,f=>if g=f then some d else iS r f
noncomputable def rH (f:List Nat)(d:D):List (List Nat×D)->List (List Nat×D)
 |[]=>[(f,d)]
 |(g,x)::r=>if g=f then(g,d)::r else(g,x)::rH f d r
def mP (st:aA)(a:Nat)(K:List Nat->List (List Nat×D)->Prop):Prop:=match st a with
 |some (.ins c fs)=>K c fs
 |_=>False
def tabAt (st:aA)(a:Nat)(K:List D->List D->Prop):Prop:=match st a with
 |some (.tab ks vs)=>K ks vs
 |_=>False
def tI (c f:List Nat):D->aA->VK->Prop
 |.ref a,st,Q=>mP st a fun c' fs=>c'=c/\cV (iS fs f) fun d=>Q d st
 |_,_,_=>False
def CH (c f:List Nat)(v:D):D->aA->(aA->Prop)->Prop
 |.ref a,st,Q=>mP st a fun c' fs=>c'=c/\fs.length<900/\Q (put st a (.ins c (rH f v fs)))
 |_,_,_=>False
def keyed:D->Prop
 |.tup ds=>∃ is:List Int,ds=is.map .int
 |.int _=>True
 |_=>False
noncomputable def kK:D->D->Bool
 |.int _,.int _=>true
 |.tup _,.tup _=>true
 |_,_=>false
noncomputable def pE:List D->List D->D->Option D
 |k::ks,v::vs,x=>if bT k x then some v else pE ks vs x
 |_,_,_=>none
def tX (x:D):D->aA->(Bool->Prop)->Prop
 |.ref a,st,P=>tabAt st a fun ks _=>keyed x/\ks.all (kK x)=true/\P (ks.any fun k=>bT k x)
 |_,_,_=>False
def uI (x:D):D->aA->VK->Prop
 |.ref a,st,Q=>tabAt st a fun ks vs=>keyed x/\ks.all (kK x)=true/\cV (pE ks vs x) fun d=>Q d st
 |_,_,_=>False
def vY (x v:D):D->aA->(aA->Prop)->Prop
 |.ref a,st,Q=>tabAt st a fun ks vs=>keyed x/\ks.all (kK x)=true/\(ks.any fun k=>bT k x)=false/\ks.length<10000/\Q (put st a (.tab (ks++[x]) (vs++[v])))
 |_,_,_=>False
def DF (c m:List Nat):D->aA->Prop
 |.ref a,st=>mP st a fun c' fs=>c'=c/\iS fs m=none
 |_,_=>False
def eE:D->aA->(Bool->Prop)->Prop
 |.non,_,P=>P false
 |.bl b,_,P=>P b
 |.int i,_,P=>P (i != 0)
 |.str x,_,P=>x.length<=bD/\P (!x.isEmpty)
 |.tup ds,_,P=>P (!ds.isEmpty)
 |.ref a,st,P=>dY st a (fun ds=>P (!ds.isEmpty)) fun ks _=>P (!ks.isEmpty)
 |.bL ds,_,P=>P (!ds.isEmpty)
 |_,_,_=>False
def hJ (sub:Nat->Nat->Bool):D->aA->Ty->(Bool->Prop)->Prop
 |.non,_,_,P=>P false
 |.bl _,_,.bool,P=>P true
 |.bl _,_,.int,P=>P true
 |.bl _,_,_,P=>P false
 |.int _,_,.int,P=>P true
 |.int _,_,_,P=>P false
 |.str _,_,.str,P=>P true
 |.str _,_,_,P=>P false
 |.tup _,_,.tuple,P=>P true
 |.tup _,_,_,P=>P false
 |.ref a,st,.list,P=>dY st a (fun _=>P true) fun _ _=>P false
 |.ref a,st,.dict,P=>dY st a (fun _=>P false) fun _ _=>P true
 |.ref a,st,_,P=>dY st a (fun _=>P false) fun _ _=>P false
 |.bL _,_,.list,P=>P true
 |.bL _,_,_,P=>P false
 |.exc c,_,.err c',P=>P (sub c c')
 |_,_,_,_=>False
def tQ (sub:Nat->Nat->Bool)(d:D)(st:aA):List Ty->(Bool->Prop)->Prop
 |[],_=>False
 |[t],P=>hJ sub d st t P
 |t::u::ts,P=>hJ sub d st t fun b=>if b=true then P true else tQ sub d st (u::ts) P
noncomputable def mV (n:Nat)(i:Int):Option Nat:=if 0<=i then(if i<n then some i.toNat else none)else if -(n:Int)<=i then some (i+n).toNat else none
noncomputable def eM {α:Type}(xs:List α)(i:Int):Option α:=(mV xs.length i).bind fun j=>xs[j]?
noncomputable def uL:List D->List D->D->Option D
 |k::ks,v::vs,x=>if bT k x then some v else uL ks vs x
 |_,_,_=>none
def sF:D->D->aA->VK->Prop
 |.tup ds,.int i,st,Q=>cV (eM ds i) fun d=>Q d st
 |.bL ds,.int i,st,Q=>cV (eM ds i) fun d=>Q d st
 |.str z,.int i,st,Q=>z.length<=bD/\cV (eM z i) fun c=>Q (.str [c]) st
 |.cY ks vs,.str w,st,Q=>cV (uL ks vs (.str w)) fun d=>Q d st
 |.ref a,y,st,Q=>dY st a (fun ds=>match y with
  |.int i=>cV (eM ds i) fun d=>Q d st
  |_=>False) fun ks vs=>plain y/\rT ks/\cV (uL ks vs y) fun d=>Q d st
 |_,_,_,_=>False
noncomputable def cA (n d:Nat):Option Int->Nat
 |none=>d
 |some v=>if v<0 then(v+(n:Int)).toNat else min v.toNat n
noncomputable def cut {α:Type}(xs:List α)(lo hi:Option Int):List α:=(xs.drop (cA xs.length 0 lo)).take (cA xs.length xs.length hi-cA xs.length 0 lo)
def nI:List D->(Option Int->Prop)->Prop
 |[],P=>P none
 |[.int i],P=>P (some i)
 |_,_=>False
def BS:D->Option Int->Option Int->aA->VK->Prop
 |.tup ds,lo,hi,st,Q=>Q (.tup (cut ds lo hi)) st
 |.ref a,lo,hi,st,Q=>cD st a fun ds=>∀ p,st p=none->Q (.ref p) (put st p (.lst (cut ds lo hi)))
 |_,_,_,_,_=>False
def eG:D->aA->(List Nat->List D->Prop)->Prop
 |.tup ds,_,K=>K [] ds
 |.ref a,st,K=>cD st a fun ds=>K [a] ds
 |.bL ds,_,K=>K [] ds
 |_,_,_=>False
def nL:D->aA->(List Nat->List D->Prop)->Prop
 |.tup ds,_,K=>K [] ds
 |.str x,_,K=>x.length<=bD/\K [] (x.map fun c=>.str [c])
 |.ref a,st,K=>cD st a fun ds=>K [a] ds
 |.bL ds,_,K=>K [] ds
 |_,_,_=>False
noncomputable def zip2:List D->List D->List D
 |x::xs,y::ys=>.tup [x,y]::zip2 xs ys
 |_,_=>[]
noncomputable def VH:Nat->List D->List D
 |_,[]=>[]
 |i,x::xs=>.tup [.int i,x]::VH (i+1) xs
noncomputable def fF (lo:Int)(n:Nat):List D:=(bb n).map fun k=>.int (lo+(k:Nat))
noncomputable def XZ (hi:Int)(n:Nat):List D:=(bb n).map fun k=>.int (hi-(k:Nat))
def dO (i:Int):Prop:=-4611686018427387904<=i/\i<4611686018427387904
def gI:Option IK->List D->aA->(List Nat->List D->Prop)->Prop
 |none,[x],st,P=>nL x st P
 |some .range,[.int j],_,P=>dO j/\P [] (fF 0 j.toNat)
 |some .range,[.int i,.int j],_,P=>dO i/\dO j/\P [] (fF i (j-i).toNat)
 |some .range,[.int i,.int j,.int c],_,P=>c = -1/\dO i/\dO j/\P [] (XZ i (i-j).toNat)
 |some .zip,[.tup xs,.tup ys],_,P=>P [] (zip2 xs ys)
 |some .enum,[.ref a],st,P=>cD st a fun xs=>P [a] (VH 0 xs)
 |some .rev,[x],st,P=>eG x st fun as xs=>P as xs.reverse
 |_,_,_,_=>False
noncomputable def boolsOf:List D->Option (List Bool)
 |[]=>some []
 |.bl b::r=>(boolsOf r).map (b :: ·)
 |_=>none
noncomputable def intsOf:List D->Option (List Int)
 |[]=>some []
 |.int i::r=>(intsOf r).map (i :: ·)
 |_=>none
def oT:D->aA->(Nat->Prop)->Prop
 |.tup ds,_,P=>P ds.length
 |.str x,_,P=>x.length<=bD/\P x.length
 |.ref a,st,P=>dY st a (fun ds=>P ds.length) fun ks _=>P ks.length
 |.bL ds,_,P=>P ds.length
 |_,_,_=>False
noncomputable def ZJ:Int->List Int->Int
 |m,[]=>m
 |m,i::r=>ZJ (if i>m then i else m) r
noncomputable def Dw:Int->List Int->Int
 |m,[]=>m
 |m,i::r=>Dw (if i<m then i else m) r
def dN:BI->List D->aA->VK->Prop
 |.all,xs,st,Q=>cV (boolsOf xs) fun bs=>Q (.bl (bs.all id)) st
 |.any,xs,st,Q=>cV (boolsOf xs) fun bs=>Q (.bl (bs.any id)) st
 |.max,xs,st,Q=>cV (intsOf xs) fun is=>match is with
  |i::r=>Q (.int (ZJ i r)) st
  |[]=>False
 |.min,xs,st,Q=>cV (intsOf xs) fun is=>match is with
  |i::r=>Q (.int (Dw i r)) st
  |[]=>False
 |.sum,xs,st,Q=>cV (intsOf xs) fun is=>Q (.int is.sum) st
 |.list,xs,st,Q=>gF xs st Q
 |.tuple,xs,st,Q=>xs.length<=bD/\Q (.tup xs) st
 |_,_,_,_=>False
noncomputable def strsOf:List D->Option (List (List Nat))
 |[]=>some []
 |.str w::r=>(strsOf r).map (w :: ·)
 |_=>none
noncomputable def xD:List (List Nat)->List (List Nat)->Nat
 |_,[]=>0
 |seen,w::r=>(if seen.any (·== w)then 0 else 1)+xD (seen++[w]) r
def gX:BI->List D->aA->VK->Prop
 |.len,[d],st,Q=>oT d st fun n=>Q (.int (n:Nat)) st
 |.tG,[.tup ds],st,Q=>cV (strsOf ds) fun ws=>ws.length<4000/\Q (.int (xD [] ws:Nat)) st
 |.max,[.int i,.int j],st,Q=>Q (.int (if j>i then j else i)) st
 |.min,[.int i,.int j],st,Q=>Q (.int (if j<i then j else i)) st
 |.abs,[.int i],st,Q=>Q (.int (if i<0 then -i else i)) st
 |.int,[.int i],st,Q=>Q (.int i) st
 |.int,[.bl b],st,Q=>Q (.int (if b then 1 else 0)) st
 |.bool,[.int i],st,Q=>Q (.bl (i != 0)) st
 |.bool,[.bl b],st,Q=>Q (.bl b) st
 |f,[d],st,Q=>eG d st fun _ xs=>dN f xs st Q
 |_,_,_,_=>False
def wN:D->aA->(List D->Prop)->Prop
 |.tup ds,_,K=>K ds
 |.ref a,st,K=>cD st a K
 |_,_,_=>False
noncomputable def findD (st:aA)(d:D):List D->Option Nat
 |[]=>none
 |e::r=>if bJ st e d=true then some 0 else(findD st d r).map (·+ 1)
def jH:MT->D->List D->aA->VK->Prop
 |.append,.ref a,[d],st,Q=>cD st a fun xs=>xs.length<bD/\Q .non (put st a (.lst (xs++[d])))
 |.extend,.ref a,[d],st,Q=>cD st a fun xs=>wN d st fun ys=>xs.length+ys.length<=bD/\Q .non (put st a (.lst (xs++ys)))
 |.pop,.ref a,[],st,Q=>cD st a fun xs=>cV (xs[xs.length-1]?) fun d=>Q d (put st a (.lst xs.dropLast))
 |.index,x,[d],st,Q=>eG x st fun _ ds=>plainS st d/\cZ st ds/\cV (findD st d ds) fun i=>Q (.int (i:Nat)) st
 |_,_,_,_,_=>False
def wZ:MT->D->aA->Prop
 |.append,.ref a,st=>cD st a fun _=>True
 |.extend,.ref a,st=>cD st a fun _=>True
 |.pop,.ref a,st=>cD st a fun _=>True
 |.index,x,st=>eG x st fun _ _=>True
 |_,_,_=>False
def kI:Bool->List Nat->D->St->(St->Prop)->Prop
 |true,[i],x,σ,P=>P (σ.set i (some x))
 |false,is,.tup ds,σ,P=>ds.length=is.length/\P ((is.zip ds).foldl (fun σ p=>σ.set p.1 (some p.2)) σ)
 |_,_,_,_,_=>False
def jG (g:aA->Prop)(turn:D->aA->(Option D->aA->Prop)->Prop):List D->List D->aA->(List D->aA->Prop)->Prop
 |[],acc,st,R=>g st/\R acc st
 |x::xs,acc,st,R=>g st/\acc.length<bD/\turn x st fun o aB=>jG g turn xs (match o with|none=>acc|some d=>acc++[d]) aB R
def same (as:List Nat)(st aB:aA):Prop:=∀ a∈as,aB a=st a
mutual
def aE (C:bC)(sub:Nat->Nat->Bool)(E:XK):Ex->St->aA->VK->Prop
 |.c d,_,st,Q=>Q d st
 |.v i,σ,st,Q=>eF σ i fun d=>Q d st
 |.tup es,σ,st,Q=>bG C sub E es σ st fun ds aB=>Q (.tup ds) aB
 |.lst es,σ,st,Q=>bG C sub E es σ st fun ds aB=>gF ds aB Q
 |.bin op a b,σ,st,Q=>aE C sub E a σ st fun x aC=>aE C sub E b σ aC fun y aF=>iI op x y aF Q
 |.neg a,σ,st,Q=>aE C sub E a σ st fun x aC=>C9 x aC Q
 |.cmp op a b,σ,st,Q=>aE C sub E a σ st fun x aC=>aE C sub E b σ aC fun y aF=>cW op x y aF fun k=>Q (.bl k) aF
 |.chain op op' a b c,σ,st,Q=>aE C sub E a σ st fun x aC=>aE C sub E b σ aC fun y aF=>cW op x y aF fun k =>
  if k=true then aE C sub E c σ aF fun z bK=>cW op' y z bK fun k=>Q (.bl k) bK else Q (.bl false) aF
 |.and_ a b,σ,st,Q=>aE C sub E a σ st fun x aC=>eE x aC fun k=>if k=true then aE C sub E b σ aC Q else Q x aC
 |.or_ a b,σ,st,Q=>aE C sub E a σ st fun x aC=>eE x aC fun k=>if k=true then Q x aC else aE C sub E b σ aC Q
 |.not_ a,σ,st,Q=>aE C sub E a σ st fun x aC=>eE x aC fun k=>Q (.bl (!k)) aC
 |.ite c a b,σ,st,Q=>aE C sub E c σ st fun x aC=>eE x aC fun k=>if k=true then aE C sub E a σ aC Q else aE C sub E b σ aC Q
 |.call f es,σ,st,Q=>bG C sub E es σ st fun ds aB=>C f ds aB Q E
 |.bi f es,σ,st,Q=>bG C sub E es σ st fun ds aB=>gX f ds aB Q
 |.isi a ts,σ,st,Q=>aE C sub E a σ st fun x aC=>tQ sub x aC ts fun k=>Q (.bl k) aC
 |.dF m o es,σ,st,Q=>aE C sub E o σ st fun x aC=>wZ m x aC/\bG C sub E es σ aC fun ds aF=>jH m x ds aF Q
 |.ix a b,σ,st,Q=>aE C sub E a σ st fun x aC=>aE C sub E b σ aC fun y aF=>sF x y aF Q
 |.sl a lo hi,σ,st,Q=>aE C sub E a σ st fun x aC=>bG C sub E lo σ aC fun ls aF=>nI ls fun l=>bG C sub E hi σ aF fun hs bK=>nI hs fun h=>BS x l h bK Q
 |.bit f k es,σ,st,Q=>bG C sub E es σ st fun ds aC=>gI (some k) ds aC fun _ xs=>dN f xs aC Q
 |.comp n aK tg one k aD ifs elt,σ,st,Q=>bG C sub E aD σ st fun ds aC=>gI k ds aC fun as xs =>
  jG (same as aC) (fun x aF K=>kI one tg x (ay n none++aK.map fun i=>(σ[i]?).getD none) fun σ' =>
  jP C sub E ifs σ' aF fun b bK=>if b=true then aE C sub E elt σ' bK fun d cN=>K (some d) cN else K none bK) xs [] aC fun ds dG=>gF ds dG Q
 |.dic _ _,_,_,_=>False
 |.fld c f o,σ,st,Q=>aE C sub E o σ st fun x aC=>tI c f x aC Q
 |.mk c f es,σ,st,Q=>bG C sub E es σ st fun ds aC=>∀ p,aC p=none->C f (.ref p::ds) (put aC p (.ins c [])) (fun d aF=>d=.non/\Q (.ref p) aF) E
 |.mcl c m f o es,σ,st,Q=>aE C sub E o σ st fun x aC=>DF c m x aC/\bG C sub E es σ aC fun ds aF=>C f (x::ds) aF Q E
 |.cv i es,σ,st,Q=>eF σ i fun d=>wJ d st (fun _ _ _=>True)/\bG C sub E es σ st fun ds aB=>wJ d aB fun a f cs=>C f (cs++ds) (del aB a) (fun d2 aF=>Q d2 (put aF a (.fn f cs))) (fun c aF=>E c (put aF a (.fn f cs)))
 |.callL f es g aK κ,σ,st,Q=>bG C sub E es σ st fun ds aC=>(∃ P,aC P=some (.cod κ))/\pF σ aK fun cs=>∀ a,aC a=none->C f (ds++[.ref a]) (put aC a (.fn g cs)) (fun d aF=>Q d (del aF a)) (fun c aF=>E c (del aF a))
 |.dnew,σ,st,Q=>∀ p,st p=none->Q (.ref p) (put st p (.tab [] []))
 |.d1 k v,σ,st,Q=>∀ p,st p=none->aE C sub E k σ (put st p (.tab [] [])) fun x aC=>aE C sub E v σ aC fun y aF=>vY x y (.ref p) aF fun bK=>Q (.ref p) bK
 |.din neg k d,σ,st,Q=>aE C sub E k σ st fun x aC=>aE C sub E d σ aC fun y aF=>tX x y aF fun b=>Q (.bl (if neg=true then !b else b)) aF
 |.dix d k,σ,st,Q=>aE C sub E d σ st fun y aC=>aE C sub E k σ aC fun x aF=>uI x y aF Q
def bG (C:bC)(sub:Nat->Nat->Bool)(E:XK):List Ex->St->aA->(List D->aA->Prop)->Prop
 |[],_,st,Q=>Q [] st
 |e::es,σ,st,Q=>aE C sub E e σ st fun d aB=>bG C sub E es σ aB fun ds bX=>Q (d::ds) bX
/-- all tests, one after another -/
def jP (C:bC)(sub:Nat->Nat->Bool)(E:XK):List Ex->St->aA->(Bool->aA->Prop)->Prop
 |[],_,st,Q=>Q true st
 |e::es,σ,st,Q=>aE C sub E e σ st fun d aB=>eE d aB fun k=>if k=true then jP C sub E es σ aB Q else Q false aB
end
structure gS where
 nx:St->aA->Prop
 rt:D->aA->Prop
 bk:St->aA->Prop
 ct:St->aA->Prop
 ex:Nat->St->aA->Prop
def notRef:D->Prop
 |.ref _=>False
 |_=>True
def AF:D->D->D->aA->(aA->Prop)->Prop
 |.ref a,.int k,v,st,Q=>cD st a fun xs=>cV (mV xs.length k) fun j=>Q (put st a (.lst (xs.set j v)))
 |_,_,_,_,_=>False
def mD (C:bC)(sub:Nat->Nat->Bool)(E:XK):Tg->D->St->aA->(St->aA->Prop)->Prop
 |.nm i,d,σ,st,Q=>Q (σ.set i (some d)) st
 |.tp is,d,σ,st,Q=>kI false is d σ fun σ'=>Q σ' st
 |.ix o i,d,σ,st,Q=>aE C sub E o σ st fun x aC=>aE C sub E i σ aC fun y aF=>AF x y d aF fun bK=>Q σ bK
 |.fl c f o,d,σ,st,Q=>aE C sub E o σ st fun x aC=>CH c f d x aC fun aF=>Q σ aF
 |.dk o i,d,σ,st,Q=>aE C sub E o σ st fun x aC=>aE C sub E i σ aC fun y aF=>vY y d x aF fun bK=>Q σ bK
def vH (g:aA->Prop)(turn:D->(St->aA->Prop)->St->aA->Prop)(N:St->aA->Prop):List D->St->aA->Prop
 |[],σ,st=>g st/\N σ st
 |x::xs,σ,st=>g st/\turn x (vH g turn N xs) σ st
def nT (turn:(St->aA->Prop)->St->aA->Prop):Nat->St->aA->Prop
 |0,_,_=>False
 |n+1,σ,st=>turn (nT turn n) σ st
noncomputable def DQ (n:Option Nat)(o:Option D)(σ:St):St:=match n with
 |some i=>σ.set i o
 |none=>σ
noncomputable def Lv (sub:Nat->Nat->Bool)(c:Nat)(n:Option Nat)(P:gS)(h:gS->St->aA->Prop):gS :=
 ⟨P.nx,P.rt,P.bk,P.ct,fun c' σ' aB=>if sub c' c=true then
 h ⟨fun σ2 aF=>P.nx (DQ n none σ2) aF,P.rt,fun _ _=>False,fun _ _=>False,fun _ _ _=>False⟩ (DQ n (some (.exc c')) σ') aB else P.ex c' σ' aB⟩
noncomputable def GR:bC:=fun _ _ _ _ _=>False
mutual
def wpS (C:bC)(sub:Nat->Nat->Bool):Sx->gS->St->aA->Prop
 |.ex e,P,σ,st=>aE C sub (fun c aB=>P.ex c σ aB) e σ st fun _ aB=>P.nx σ aB
 |.asg t e,P,σ,st=>aE C sub (fun c aB=>P.ex c σ aB) e σ st fun d aB=>mD C sub (fun c aB=>P.ex c σ aB) t d σ aB P.nx
 |.aug i op e,P,σ,st=>eF σ i fun x=>aE C sub (fun c aB=>P.ex c σ aB) e σ st fun y aB=>notRef x/\iI op x y aB fun d bX=>P.nx (σ.set i (some d)) bX
 |.iff c a b,P,σ,st=>aE C sub (fun c aB=>P.ex c σ aB) c σ st fun d aB=>eE d aB fun k=>if k=true then cO C sub a P σ aB else cO C sub b P σ aB
 |.whl c b,P,σ,st=>∃ n,nT (fun next σ st=>aE C sub (fun c aB=>P.ex c σ aB) c σ st fun d aB=>eE d aB fun k =>
  if k=true then cO C sub b { P with nx:=next,ct:=next,bk:=P.nx } σ aB else P.nx σ aB) n σ st
 |.iM t k aD b,P,σ,st=>bG C sub (fun c aB=>P.ex c σ aB) aD σ st fun ds aC=>gI k ds aC fun as xs=>vH (same as aC) (fun x next σ st=>mD C sub (fun c aB=>P.ex c σ aB) t x σ st fun σ' aB=>cO C sub b { P with nx:=next,ct:=next,bk:=P.nx } σ' aB) P.nx xs σ aC
 |.ret e,P,σ,st=>aE C sub (fun c aB=>P.ex c σ aB) e σ st P.rt
 |.brk,P,σ,st=>P.bk σ st
 |.cnt,P,σ,st=>P.ct σ st
 |.pass,P,σ,st=>P.nx σ st
 |.rais c es,P,σ,st=>bG C sub (fun c aB=>P.ex c σ aB) es σ st fun _ aB=>P.ex c σ aB
 |.tryy b c n h,P,σ,st=>cO C sub b (Lv sub c n P fun P' σ' aB=>cO GR sub h P' σ' aB) σ st
def cO (C:bC)(sub:Nat->Nat->Bool):List Sx->gS->St->aA->Prop
 |[],P,σ,st=>P.nx σ st
 |s::ss,P,σ,st=>wpS C sub s { P with nx:=cO C sub ss P } σ st
end
noncomputable def start (np nl:Nat)(ds:List D):St:=ds.map some++ay (nl-np) none
noncomputable def aJ (G:Prog):Nat->bC
 |0=>fun _ _ _ _ _=>False
 |k+1=>fun f ds st Q E=>match G.fns f with
 |none=>False
 |some fn=>ds.length=fn.np/\cO (aJ G k) G.sub fn.body ⟨fun _ aB=>Q .non aB,Q,fun _ _=>False,fun _ _=>False,fun c _ aB=>E c aB⟩ (start fn.np fn.nl ds) st
theorem qW {σ:St}{i:Nat}{Q Q':D->Prop}(h:∀ d,Q d->Q' d):eF σ i Q->eF σ i Q':=by
 unfold eF;split
 ·exact h _
 ·exact id
theorem B3 {σ:St}:∀{is:List Nat}{Q Q':List D->Prop},(∀ d,Q d->Q' d)->pF σ is Q->pF σ is Q'
 |[],_,_,h=>h _
 |_::_,_,_,h=>qW fun _=>B3 fun _=>h _
theorem T6 {d:D}{st:aA}{K K':Nat->Nat->List D->Prop}(h:∀ a f cs,K a f cs->K' a f cs):wJ d st K->wJ d st K':=by
 cases d<;>first|exact id|skip
 unfold wJ
 simp only
 split
 ·exact h _ _ _
 ·exact id
theorem mB {st:aA}{a:Nat}{K K':List D->Prop}{M M':List D->List D->Prop}(h:∀ ds,K ds->K' ds)(h':∀ ks vs,M ks vs->M' ks vs):dY st a K M->dY st a K' M':=by
 unfold dY;split
 ·exact h _
 ·exact h' _ _
 ·exact id
theorem eI {st:aA}{a:Nat}{K K':List D->Prop}(h:∀ ds,K ds->K' ds):cD st a K->cD st a K':=by
 unfold cD;split
 ·exact h _
 ·exact id
theorem eR {α:Type}{o:Option α}{K K':α->Prop}(h:∀ x,K x->K' x):cV o K->cV o K':=by
 unfold cV;split
 ·exact h _
 ·exact id
theorem iW {d:D}{st:aA}{P P':Bool->Prop}(h:∀ b,P b->P' b):eE d st P->eE d st P':=by
 unfold eE;split
 all_goals first|exact h _|exact id|exact(fun x=>⟨x.1,h _ x.2⟩)|exact mB (fun _=>h _) fun _ _=>h _
theorem oC {ds:List D}{st:aA}{Q Q':VK}(h:∀ d st,Q d st->Q' d st):gF ds st Q->gF ds st Q':=fun x=>⟨x.1,fun p hp=>h _ _ (x.2 p hp)⟩
theorem EX {op:sP}{x y:D}{st:aA}{Q Q':VK}(h:∀ d st,Q d st->Q' d st):iI op x y st Q->iI op x y st Q':=by
 unfold iI
 split
 all_goals first|exact h _ _|exact id|exact(fun z=>⟨z.1,h _ _ z.2⟩)|exact eI (fun _=>eI fun _=>oC h)|exact eI (fun _ z=>⟨z.1,z.2.1,oC h z.2.2⟩)
theorem ON {x:D}{st:aA}{Q Q':VK}(h:∀ d st,Q d st->Q' d st):C9 x st Q->C9 x st Q':=by
 unfold C9;split
 ·exact h _ _
 ·exact id
theorem G9 {x y:D}{st:aA}{P P':Bool->Prop}(h:∀ b,P b->P' b):U2 x y st P->U2 x y st P':=fun z=>⟨z.1,z.2.1,h _ z.2.2⟩
theorem HX {x y:D}{st:aA}{P P':Bool->Prop}(h:∀ b,P b->P' b):HM x y st P->HM x y st P':=by
 unfold HM
 split
 all_goals first|exact(fun z=>⟨z.1,z.2.1,h _ z.2.2⟩)|exact h _|exact id|exact mB (fun _ z=>⟨z.1,z.2.1,h _ z.2.2⟩) fun _ _ z=>⟨z.1,z.2.1,h _ z.2.2⟩
theorem rB {f:Int->Int->Bool}{x y:D}{P P':Bool->Prop}(h:∀ b,P b->P' b):tR f x y P->tR f x y P':=by
 unfold tR;split
 ·exact h _
 ·exact id
theorem HZ {x y:D}{P P':Bool->Prop}(h:∀ b,P b->P' b):BW x y P->BW x y P':=by
 unfold BW
 split
 all_goals first|exact h _|exact id
theorem wU {op:nZ}{x y:D}{st:aA}{P P':Bool->Prop}(h:∀ b,P b->P' b):cW op x y st P->cW op x y st P':=by
 cases op
 ·exact G9 h
 ·exact G9 fun b=>h (!b)
 ·exact rB h
 ·exact rB h
 ·exact rB h
 ·exact rB h
 ·exact HZ h
 ·exact HZ fun b=>h (!b)
 ·exact HX h
 ·exact HX fun b=>h (!b)
theorem BO {sub:Nat->Nat->Bool}{x:D}{st:aA}{t:Ty}{P P':Bool->Prop}(h:∀ b,P b->P' b):hJ sub x st t P->hJ sub x st t P':=by
 unfold hJ
 split
 all_goals first|exact h _|exact id|exact mB (fun _=>h _) fun _ _=>h _
theorem D5 {sub:Nat->Nat->Bool}{x:D}{st:aA}{P P':Bool->Prop}(h:∀ b,P b->P' b):∀{ts:List Ty},tQ sub x st ts P->tQ sub x st ts P'
 |[]=>id
 |[t]=>BO h
 |t::u::ts=>by
  unfold tQ
  refine BO fun b=>?_
  split
  ·exact h _
  ·exact D5 h
theorem T7 {x y:D}{st:aA}{Q Q':VK}(h:∀ d st,Q d st->Q' d st):sF x y st Q->sF x y st Q':=by
 unfold sF
 split
 all_goals first|exact id|exact eR (fun _=>h _ _)|exact(fun z=>⟨z.1,eR (fun _=>h _ _) z.2⟩)|exact(fun z=>⟨z.1,z.2.1,eR (fun _=>h _ _) z.2.2⟩)|skip
 refine mB (fun _=>?_) (fun _ _ z=>⟨z.1,z.2.1,eR (fun _=>h _ _) z.2.2⟩)
 split
 ·exact eR fun _=>h _ _
 ·exact id
theorem BP {ds:List D}{P P':Option Int->Prop}(h:∀ o,P o->P' o):nI ds P->nI ds P':=by
 unfold nI;split
 all_goals first|exact h _|exact id
theorem TV {x:D}{lo hi:Option Int}{st:aA}{Q Q':VK}(h:∀ d st,Q d st->Q' d st):BS x lo hi st Q->BS x lo hi st Q':=by
 unfold BS
 split
 ·exact h _ _
 ·exact eI fun _ z p hp=>h _ _ (z p hp)
 ·exact id
theorem MX {d:D}{st:aA}{K K':List Nat->List D->Prop}(h:∀ as xs,K as xs->K' as xs):nL d st K->nL d st K':=by
 unfold nL
 split
 all_goals first|exact h _ _|exact id|exact(fun z=>⟨z.1,h _ _ z.2⟩)|exact eI (fun _=>h _ _)
theorem vW {d:D}{st:aA}{K K':List Nat->List D->Prop}(h:∀ as xs,K as xs->K' as xs):eG d st K->eG d st K':=by
 unfold eG
 split
 all_goals first|exact h _ _|exact id|exact eI (fun _=>h _ _)
theorem xK {k:Option IK}{ds:List D}{st:aA}{P P':List Nat->List D->Prop}(h:∀ as xs,P as xs->P' as xs):gI k ds st P->gI k ds st P':=by
 unfold gI
 split
 ·exact MX h
 ·exact fun z=>⟨z.1,h _ _ z.2⟩
 ·exact fun z=>⟨z.1,z.2.1,h _ _ z.2.2⟩
 ·exact fun z=>⟨z.1,z.2.1,z.2.2.1,h _ _ z.2.2.2⟩
 ·exact h _ _
 ·exact eI fun _=>h _ _
 ·exact vW fun _ _=>h _ _
 ·exact id
theorem OU {d:D}{st:aA}{P P':Nat->Prop}(h:∀ n,P n->P' n):oT d st P->oT d st P':=by
 unfold oT
 split
 all_goals first|exact h _|exact id|exact(fun z=>⟨z.1,h _ z.2⟩)|exact mB (fun _=>h _) fun _ _=>h _
theorem zN {f:BI}{xs:List D}{st:aA}{Q Q':VK}(h:∀ d st,Q d st->Q' d st):dN f xs st Q->dN f xs st Q':=by
 unfold dN
 split
 all_goals first|exact id|exact oC h|exact(fun z=>⟨z.1,h _ _ z.2⟩)|exact eR (fun _=>h _ _)|skip
 all_goals refine eR fun is=>?_
 all_goals cases is
 all_goals first|exact id|exact h _ _
theorem UI {f:BI}{ds:List D}{st:aA}{Q Q':VK}(h:∀ d st,Q d st->Q' d st):gX f ds st Q->gX f ds st Q':=by
 unfold gX
 split
 all_goals first|exact id|exact h _ _|exact OU (fun _=>h _ _)|exact vW (fun _ _=>zN h)|exact eR (fun _ z=>⟨z.1,h _ _ z.2⟩)
theorem NZ {d:D}{st:aA}{K K':List D->Prop}(h:∀ xs,K xs->K' xs):wN d st K->wN d st K':=by
 unfold wN
 split
 all_goals first|exact h _|exact id|exact eI h
theorem L6 {m:MT}{o:D}{ds:List D}{st:aA}{Q Q':VK}(h:∀ d st,Q d st->Q' d st):jH m o ds st Q->jH m o ds st Q':=by
 unfold jH
 split
 ·exact eI fun _ z=>⟨z.1,h _ _ z.2⟩
 ·exact eI fun _=>NZ fun _ z=>⟨z.1,h _ _ z.2⟩
 ·exact eI fun _=>eR fun _=>h _ _
 ·exact vW fun _ _ z=>⟨z.1,z.2.1,eR (fun _=>h _ _) z.2.2⟩
 ·exact id
theorem BF {one:Bool}{tg:List Nat}{x:D}{σ:St}{P P':St->Prop}(h:∀ σ,P σ->P' σ):kI one tg x σ P->kI one tg x σ P':=by
 unfold kI
 split
 ·exact h _
 ·exact fun z=>⟨z.1,h _ z.2⟩
 ·exact id
theorem CP {g:aA->Prop}{turn rE:D->aA->(Option D->aA->Prop)->Prop}{R R':List D->aA->Prop}
 (ht:∀ x st K K',(∀ o st,K o st->K' o st)->turn x st K->rE x st K')(h:∀ ds st,R ds st->R' ds st):∀{xs acc:List D}{st:aA},jG g turn xs acc st R->jG g rE xs acc st R'
 |[],_,_,z=>⟨z.1,h _ _ z.2⟩
 |_::_,_,_,z=>⟨z.1,z.2.1,ht _ _ _ _ (fun _ _ y=>CP ht h y) z.2.2⟩
theorem BE {st:aA}{a:Nat}{K K':List Nat->List (List Nat×D)->Prop}(h:∀ c fs,K c fs->K' c fs):mP st a K->mP st a K':=by
 unfold mP;split
 ·exact h _ _
 ·exact id
theorem tT {st:aA}{a:Nat}{K K':List D->List D->Prop}(h:∀ c fs,K c fs->K' c fs):tabAt st a K->tabAt st a K':=by
 unfold tabAt;split
 ·exact h _ _
 ·exact id
theorem OK {c f:List Nat}{x:D}{st:aA}{Q Q':VK}(h:∀ d st,Q d st->Q' d st):tI c f x st Q->tI c f x st Q':=by
 unfold tI;split
 ·exact BE fun _ _ z=>⟨z.1,eR (fun _=>h _ _) z.2⟩
 ·exact id
theorem RH {c f:List Nat}{v x:D}{st:aA}{Q Q':aA->Prop}(h:∀ st,Q st->Q' st):CH c f v x st Q->CH c f v x st Q':=by
 unfold CH;split
 ·exact BE fun _ _ z=>⟨z.1,z.2.1,h _ z.2.2⟩
 ·exact id
theorem PY {x y:D}{st:aA}{P P':Bool->Prop}(h:∀ b,P b->P' b):tX x y st P->tX x y st P':=by
 unfold tX;split
 ·exact tT fun _ _ z=>⟨z.1,z.2.1,h _ z.2.2⟩
 ·exact id
theorem OI {x y:D}{st:aA}{Q Q':VK}(h:∀ d st,Q d st->Q' d st):uI x y st Q->uI x y st Q':=by
 unfold uI;split
 ·exact tT fun _ _ z=>⟨z.1,z.2.1,eR (fun _=>h _ _) z.2.2⟩
 ·exact id
theorem GY {x v y:D}{st:aA}{Q Q':aA->Prop}(h:∀ st,Q st->Q' st):vY x v y st Q->vY x v y st Q':=by
 unfold vY;split
 ·exact tT fun _ _ z=>⟨z.1,z.2.1,z.2.2.1,z.2.2.2.1,h _ z.2.2.2.2⟩
 ·exact id
def bO (C C':bC):Prop:=∀ f ds st Q Q' E E',(∀ d st,Q d st->Q' d st)->(∀ c st,E c st->E' c st)->C f ds st Q E->C' f ds st Q' E'
mutual
theorem aS {C C':bC}{sub}{E E':XK}(hC:bO C C')(hE:∀ c st,E c st->E' c st):∀(e:Ex){σ:St}{st:aA}{Q Q':VK},(∀ d st,Q d st->Q' d st)->aE C sub E e σ st Q->aE C' sub E' e σ st Q'
 |.c d,σ,st,Q,Q',h=>by exact h _ _
 |.v i,σ,st,Q,Q',h=>by exact qW fun d=>h _ _
 |.tup es,σ,st,Q,Q',h=>by exact cL hC hE es fun _ _=>h _ _
 |.lst es,σ,st,Q,Q',h=>by exact cL hC hE es fun _ _=>oC h
 |.bin op a b,σ,st,Q,Q',h=>by exact aS hC hE a fun _ _=>aS hC hE b fun _ _=>EX h
 |.neg a,σ,st,Q,Q',h=>by
  exact aS hC hE a fun _ _=>ON h
 |.cmp op a b,σ,st,Q,Q',h=>by exact aS hC hE a fun _ _=>aS hC hE b fun _ _=>wU fun _=>h _ _
 |.chain op op' a b c,σ,st,Q,Q',h=>by
  refine aS hC hE a fun _ _=>aS hC hE b fun _ _=>wU fun k=>?_
  split
  ·exact aS hC hE c fun _ _=>wU fun _=>h _ _
  ·exact h _ _
 |.and_ a b,σ,st,Q,Q',h=>by
  refine aS hC hE a fun _ _=>iW fun k=>?_
  split
  ·exact aS hC hE b h
  ·exact h _ _
 |.or_ a b,σ,st,Q,Q',h=>by
  refine aS hC hE a fun _ _=>iW fun k=>?_
  split
  ·exact h _ _
  ·exact aS hC hE b h
 |.not_ a,σ,st,Q,Q',h=>by exact aS hC hE a fun _ _=>iW fun k=>h _ _
 |.ite c a b,σ,st,Q,Q',h=>by
  refine aS hC hE c fun _ _=>iW fun k=>?_
  split
  ·exact aS hC hE a h
  ·exact aS hC hE b h
 |.call f es,σ,st,Q,Q',h=>by exact cL hC hE es fun _ _=>hC _ _ _ _ _ _ _ h hE
 |.bi f es,σ,st,Q,Q',h=>by exact cL hC hE es fun _ _=>UI h
 |.isi a ts,σ,st,Q,Q',h=>by exact aS hC hE a fun _ _=>D5 fun _=>h _ _
 |.dF m o es,σ,st,Q,Q',h=>by exact aS hC hE o fun _ _ z=>⟨z.1,cL hC hE es (fun _ _=>L6 h) z.2⟩
 |.ix a b,σ,st,Q,Q',h=>by exact aS hC hE a fun _ _=>aS hC hE b fun _ _=>T7 h
 |.sl a lo hi,σ,st,Q,Q',h=>by exact aS hC hE a fun _ _=>cL hC hE lo fun _ _=>BP fun _=>cL hC hE hi fun _ _=>BP fun _=>TV h
 |.bit f k es,σ,st,Q,Q',h=>by exact cL hC hE es fun _ _=>xK fun _ _=>zN h
 |.comp n aK tg one k aD ifs elt,σ,st,Q,Q',h=>by
  refine cL hC hE aD fun d aC=>xK fun as xs=>?_
  intro z
  refine CP (fun x st K K' hK=>?_) (fun _ _=>oC h) z
  refine BF fun σ'=>DX hC hE ifs fun b st=>?_
  split
  ·exact aS hC hE elt fun _ _=>hK _ _
  ·exact hK _ _
 |.dic _ _,σ,st,Q,Q',h=>by exact id
 |.fld c f o,σ,st,Q,Q',h=>by exact aS hC hE o fun _ _=>OK h
 |.mk c f es,σ,st,Q,Q',h=>by exact cL hC hE es fun _ _ z p hp=>hC _ _ _ _ _ _ _ (fun _ _ y=>⟨y.1,h _ _ y.2⟩) hE (z p hp)
 |.mcl c m f o es,σ,st,Q,Q',h=>by exact aS hC hE o fun _ _ z=>⟨z.1,cL hC hE es (fun _ _=>hC _ _ _ _ _ _ _ h hE) z.2⟩
 |.cv i es,σ,st,Q,Q',h=>by exact qW fun _ z=>⟨z.1,cL hC hE es (fun _ _=>T6 fun _ _ _=>hC _ _ _ _ _ _ _ (fun _ _=>h _ _) (fun _ _=>hE _ _)) z.2⟩
 |.callL f es g aK κ,σ,st,Q,Q',h=>by exact cL hC hE es fun _ _ z=>⟨z.1,B3 (fun _ y a ha=>hC _ _ _ _ _ _ _ (fun _ _=>h _ _) (fun _ _=>hE _ _) (y a ha)) z.2⟩
 |.dnew,σ,st,Q,Q',h=>by exact fun z p hp=>h _ _ (z p hp)
 |.d1 k v,σ,st,Q,Q',h=>by exact fun z p hp=>aS hC hE k (fun _ _=>aS hC hE v fun _ _=>GY fun _=>h _ _) (z p hp)
 |.din neg k d,σ,st,Q,Q',h=>by exact aS hC hE k fun _ _=>aS hC hE d fun _ _=>PY fun _=>h _ _
 |.dix d k,σ,st,Q,Q',h=>by exact aS hC hE d fun _ _=>aS hC hE k fun _ _=>OI h
theorem cL {C C':bC}{sub}{E E':XK}(hC:bO C C')(hE:∀ c st,E c st->E' c st):∀(es:List Ex){σ:St}{st:aA}{Q Q':List D->aA->Prop},(∀ d st,Q d st->Q' d st)->bG C sub E es σ st Q->bG C' sub E' es σ st Q'
 |[],σ,st,Q,Q',h=>by exact h _ _
 |e::es,σ,st,Q,Q',h=>by exact aS hC hE e fun _ _=>cL hC hE es fun _ _=>h _ _
theorem DX {C C':bC}{sub}{E E':XK}(hC:bO C C')(hE:∀ c st,E c st->E' c st):∀(es:List Ex){σ:St}{st:aA}{Q Q':Bool->aA->Prop},(∀ d st,Q d st->Q' d st)->jP C sub E es σ st Q->jP C' sub E' es σ st Q'
 |[],σ,st,Q,Q',h=>by exact h _ _
 |e::es,σ,st,Q,Q',h=>by
  refine aS hC hE e fun _ _=>iW fun k=>?_
  split
  ·exact DX hC hE es h
  ·exact h _ _
end
structure gS.Le (P P':gS):Prop where
 nx:∀ σ st,P.nx σ st->P'.nx σ st
 rt:∀ d st,P.rt d st->P'.rt d st
 bk:∀ σ st,P.bk σ st->P'.bk σ st
 ct:∀ σ st,P.ct σ st->P'.ct σ st
 ex:∀ c σ st,P.ex c σ st->P'.ex c σ st
theorem QU {o i v:D}{st:aA}{Q Q':aA->Prop}(h:∀ st,Q st->Q' st):AF o i v st Q->AF o i v st Q':=by
 unfold AF
 split
 ·exact eI fun _=>eR fun _=>h _
 ·exact id
theorem uE {C C':bC}{sub}{E E':XK}(hC:bO C C')(hE:∀ c st,E c st->E' c st){d:D}{Q Q':St->aA->Prop}(h:∀ σ st,Q σ st->Q' σ st):∀(t:Tg){σ:St}{st:aA},mD C sub E t d σ st Q->mD C' sub E' t d σ st Q'
 |.nm i,_,_=>by exact h _ _
 |.tp is,_,_=>by exact BF fun _=>h _ _
 |.ix o i,_,_=>by exact aS hC hE o fun _ _=>aS hC hE i fun _ _=>QU fun _=>h _ _
 |.fl c f o,_,_=>by exact aS hC hE o fun _ _=>RH fun _=>h _ _
 |.dk o i,_,_=>by exact aS hC hE o fun _ _=>aS hC hE i fun _ _=>GY fun _=>h _ _
theorem ER {g:aA->Prop}{turn rE:D->(St->aA->Prop)->St->aA->Prop}{N N':St->aA->Prop}
 (ht:∀ x M M' σ st,(∀ σ st,M σ st->M' σ st)->turn x M σ st->rE x M' σ st)(h:∀ σ st,N σ st->N' σ st):∀{xs:List D}{σ:St}{st:aA},vH g turn N xs σ st->vH g rE N' xs σ st
 |[],_,_,z=>⟨z.1,h _ _ z.2⟩
 |_::_,_,_,z=>⟨z.1,ht _ _ _ _ _ (fun _ _=>ER ht h) z.2⟩
theorem zC {turn rE:(St->aA->Prop)->St->aA->Prop}(ht:∀ M M' σ st,(∀ σ st,M σ st->M' σ st)->turn M σ st->rE M' σ st):∀{n:Nat}{σ:St}{st:aA},nT turn n σ st->nT rE n σ st
 |0,_,_,z=>z
 |n+1,_,_,z=>ht _ _ _ _ (fun _ _=>zC ht) z
theorem J6:bO GR GR:=fun _ _ _ _ _ _ _ _ _ x=>x
mutual
theorem wpS_mono {C C':bC}{sub}(hC:bO C C'):∀(s:Sx){P P':gS}{σ:St}{st:aA},P.Le P'->wpS C sub s P σ st->wpS C' sub s P' σ st
 |.ex e,P,P',σ,st,h=>by exact aS hC (fun _ _=>h.ex _ _ _) e fun _ _=>h.nx _ _
 |.asg t e,P,P',σ,st,h=>by exact aS hC (fun _ _=>h.ex _ _ _) e fun _ _=>uE hC (fun _ _=>h.ex _ _ _) h.nx t
 |.aug i op e,P,P',σ,st,h=>by
  exact qW fun x=>aS hC (fun _ _=>h.ex _ _ _) e fun _ _ z=>⟨z.1,EX (fun _ _=>h.nx _ _) z.2⟩
 |.iff c a b,P,P',σ,st,h=>by
  refine aS hC (fun _ _=>h.ex _ _ _) c fun _ _=>iW fun k=>?_
  split
  ·exact iC hC a h
  ·exact iC hC b h
 |.whl c b,P,P',σ,st,h=>by
  rintro⟨n,z⟩
  refine⟨n,zC (fun M M' σ st hM=>aS hC (fun _ _=>h.ex _ _ _) c fun _ _=>iW fun k=>?_) z⟩
  split
  ·exact iC hC b ⟨hM,h.rt,h.nx,hM,h.ex⟩
  ·exact h.nx _ _
 |.iM t k aD b,P,P',σ,st,h=>by
  refine cL hC (fun _ _=>h.ex _ _ _) aD fun _ _=>xK fun as xs=>?_
  exact ER (fun x M M' σ st hM=>uE hC (fun _ _=>h.ex _ _ _) (fun _ _=>iC hC b (P:={ P with nx:=M,ct:=M,bk:=P.nx }) (P':={ P' with nx:=M',ct:=M',bk:=P'.nx }) ⟨hM,h.rt,h.nx,hM,h.ex⟩) t) h.nx
 |.ret e,P,P',σ,st,h=>by exact aS hC (fun _ _=>h.ex _ _ _) e h.rt
 |.brk,P,P',σ,st,h=>by exact h.bk _ _
 |.cnt,P,P',σ,st,h=>by exact h.ct _ _
 |.pass,P,P',σ,st,h=>by exact h.nx _ _
 |.rais c es,P,P',σ,st,h=>by exact cL hC (fun _ _=>h.ex _ _ _) es fun _ _=>h.ex _ _ _
 |.tryy b c n hh,P,P',σ,st,h=>by
  refine iC hC b ⟨h.nx,h.rt,h.bk,h.ct,fun c' σ st=>?_⟩
  show(if sub c' c=true then _ else _)->(if sub c' c=true then _ else _)
  split
  ·exact iC J6 hh ⟨fun _ _=>h.nx _ _,h.rt,fun _ _=>id,fun _ _=>id,fun _ _ _=>id⟩
  ·exact h.ex _ _ _
theorem iC {C C':bC}{sub}(hC:bO C C'):∀(ss:List Sx){P P':gS}{σ:St}{st:aA},P.Le P'->cO C sub ss P σ st->cO C' sub ss P' σ st
 |[],P,P',σ,st,h=>by exact h.nx _ _
 |s::ss,P,P',σ,st,h=>by exact wpS_mono hC s ⟨fun _ _=>iC hC ss h,h.rt,h.bk,h.ct,h.ex⟩
end
theorem gM (G:Prog):∀{j k:Nat},j<=k->bO (aJ G j) (aJ G k)
 |0,k,_=>fun _ _ _ _ _ _ _ _ _ x=>x.elim
 |j+1,0,h=>by omega
 |j+1,k+1,h=>fun f ds st Q Q' E E' hQ hE=>by
  simp only[aJ]
  split
  ·exact id
  ·have hj:j<=k:=by omega
   exact fun z=>⟨z.1,iC (gM G hj) _ (P:=⟨fun _ aB=>Q .non aB,Q,fun _ _=>False,fun _ _=>False,fun c _ aB=>E c aB⟩) (P':=⟨fun _ aB=>Q' .non aB,Q',fun _ _=>False,fun _ _=>False,fun c _ aB=>E' c aB⟩) ⟨fun _ _=>hQ _ _,hQ,fun _ _=>id,fun _ _=>id,fun _ _ _=>hE _ _⟩ z.2⟩
section
variable {C:bC}{sub:Nat->Nat->Bool}{E:XK}{σ:St}{st:aA}{Q:VK}{P:Bool->Prop}{e a b c:Ex}{es:List Ex}{x y:D}{i j:Int}{u v:List Nat}{ds xs ys ks vs:List D}{p q:Nat}{K:List D->Prop}{M:List D->List D->Prop}
theorem aL {R:gS}:cO C sub [] R σ st=R.nx σ st:=rfl
theorem NS {R:gS}{s:Sx}{ss:List Sx}:cO C sub (s::ss) R σ st=wpS C sub s { R with nx:=cO C sub ss R } σ st:=rfl
theorem eU {R:gS}{s:Sx}{ss:List Sx}(h:wpS C sub s { R with nx:=cO C sub ss R } σ st):cO C sub (s::ss) R σ st:=h
theorem cM (h:st p=some (.lst ds)):dY st p K M=K ds:=by unfold dY;rw[h]
theorem aG (h:st p=some (.lst ds)):cD st p K=K ds:=by unfold cD;rw[h]
theorem aW {α:Type}{x:α}{K:α->Prop}:cV (some x) K=K x:=rfl
theorem OY {α:Type}{K:α->Prop}:cV none K=False:=rfl
theorem Dx {d:D}{r:St}{R:D->Prop}:eF (some d::r) 0 R=R d:=rfl
theorem Br {o:Option D}{r:St}{n:Nat}{R:D->Prop}:eF (o::r) (n+1) R=eF r n R:=rfl
theorem aV {o:MO}:put st p o p=some o:=by unfold put;rw[if_pos rfl]
theorem aU {o:MO}(h:q≠p):put st p o q=st q:=by unfold put;rw[if_neg h]
theorem sV {o u:MO}(h:st p=none)(h':st q=some u):put st p o q=some u:=by
 rw[aU];exact h'
 intro e;rw[e,h]at h';cases h'
theorem YB {o u:MO}:put (put st p o) p u=put st p u:=by funext b;unfold put;split<;>rfl
theorem YM:eE .non st P=P false:=rfl
theorem Bl {k:Bool}:eE (.bl k) st P=P k:=rfl
theorem WG:eE (.int i) st P=P (i != 0):=rfl
theorem XU:eE (.tup ds) st P=P (!ds.isEmpty):=rfl
theorem X0:eE (.ref p) st P=dY st p (fun ds=>P (!ds.isEmpty)) fun ks _=>P (!ks.isEmpty):=rfl
theorem TH:eE (.bL ds) st P=P (!ds.isEmpty):=rfl
theorem Ae:cW .eq x y st P=(plainS st x/\plainS st y/\P (bJ st x y)):=rfl
theorem Bm:cW .ne x y st P=(plainS st x/\plainS st y/\P (!bJ st x y)):=rfl
theorem Dd:cW .lt (.int i) (.int j) st P=P (decide (i<j)):=rfl
theorem Bg:cW .le (.int i) (.int j) st P=P (decide (i<=j)):=rfl
theorem cmp_gt:cW .gt (.int i) (.int j) st P=P (decide (j<i)):=rfl
theorem Au:cW .ge (.int i) (.int j) st P=P (decide (j<=i)):=rfl
theorem YF:cW .is_ x .non st P=P (FP x):=rfl
theorem WH {k:Bool}:cW .is_ x (.bl k) st P=P (TQ k x):=rfl
theorem R0:cW .isnot x .non st P=P (!FP x):=rfl
theorem SV {k:Bool}:cW .isnot x (.bl k) st P=P (!TQ k x):=rfl
theorem LZ:cW .in_ x (.tup ds) st P=(plainS st x/\cZ st ds/\P (ds.any fun d=>bJ st d x)):=rfl
theorem KJ {w:List Nat}:cW .in_ (.str w) (.cY ks vs) st P=P (ks.any fun d=>bT d (.str w)):=rfl
theorem M4:cW .in_ (.str u) (.str v) st P=P (occurs u v):=rfl
theorem KC:cW .gE x (.tup ds) st P=(plainS st x/\cZ st ds/\P (!ds.any fun d=>bJ st d x)):=rfl
theorem nQ:cW .gE x (.ref p) st P=dY st p (fun ds=>plainS st x/\cZ st ds/\P (!ds.any fun d=>bJ st d x)) fun ks _=>plain x/\rT ks/\P (!ks.any fun d=>bT d x):=rfl
theorem JM {w:List Nat}:cW .gE (.str w) (.cY ks vs) st P=P (!ks.any fun d=>bT d (.str w)):=rfl
theorem KG:cW .gE (.str u) (.str v) st P=P (!occurs u v):=rfl
theorem add_int:iI .add (.int i) (.int j) st Q=Q (.int (i+j)) st:=rfl
theorem add_str:iI .add (.str u) (.str v) st Q=(u.length+v.length<=bD/\Q (.str (u++v)) st):=rfl
theorem YS:iI .add (.tup xs) (.tup ys) st Q=(xs.length+ys.length<=bD/\Q (.tup (xs++ys)) st):=rfl
theorem WD:iI .add (.ref p) (.ref q) st Q=cD st p fun xs=>cD st q fun ys=>gF (xs++ys) st Q:=rfl
theorem sub_int:iI .sub (.int i) (.int j) st Q=Q (.int (i-j)) st:=rfl
theorem mul_int:iI .mul (.int i) (.int j) st Q=((sR i∨sR j)/\Q (.int (i*j)) st):=rfl
theorem WE:iI .mul (.tup xs) (.int i) st Q=((0<xs.length/\xs.length<=1000/\1<=i/\i<1000)/\Q (.tup (ay i.toNat xs).flatten) st):=rfl
theorem RG:iI .fdiv (.int i) (.int j) st Q=((0<j/\j<1073741824)/\Q (.int (i / j)) st):=rfl
theorem mod_int:iI .mod (.int i) (.int j) st Q=(0<j/\Q (.int (i % j)) st):=rfl
theorem pow_int:iI .pow (.int i) (.int j) st Q=((0<=j/\j<=1000000/\i.natAbs<18446744073709551616)/\Q (.int (i ^ j.toNat)) st):=rfl
theorem neg_int:C9 (.int i) st Q=Q (.int (-i)) st:=rfl
theorem W6 {t:Ty}:tQ sub x st [t] P=hJ sub x st t P:=rfl
theorem X5 {t t':Ty}{ts:List Ty}:tQ sub x st (t::t'::ts) P=hJ sub x st t fun b=>if b=true then P true else tQ sub x st (t'::ts) P:=rfl
theorem oE:sF (.tup ds) (.int i) st Q=cV (eM ds i) fun d=>Q d st:=rfl
theorem KR:sF (.bL ds) (.int i) st Q=cV (eM ds i) fun d=>Q d st:=rfl
theorem JJ:sF (.str u) (.int i) st Q=(u.length<=bD/\cV (eM u i) fun c=>Q (.str [c]) st):=rfl
theorem WK {w:List Nat}:sF (.cY ks vs) (.str w) st Q=cV (uL ks vs (.str w)) fun d=>Q d st:=rfl
theorem eS (h:st p=some (.lst ds)):sF (.ref p) (.int i) st Q=cV (eM ds i) fun d=>Q d st:=by
 show dY st p _ _=_
 rw[cM h]
theorem gD {α:Type}{xs:List α}{n:Nat}(h:n<xs.length):eM xs (n:Int)=xs[n]?:=by
 unfold eM mV
 rw[if_pos (by omega),if_pos (by omega)]
 simp
theorem IB {α:Type}{x:α}{r:List α}:eM (x::r) 0=some x:=gD (n:=0) (by simp)
theorem RX {α:Type}{x y:α}{r:List α}:eM (x::y::r) 1=some y:=gD (n:=1) (by simp)
theorem TL {α:Type}{x y z:α}{r:List α}:eM (x::y::z::r) 2=some z:=gD (n:=2) (by simp)
theorem Nb {α:Type}{x y z w:α}{r:List α}:eM (x::y::z::w::r) 3=some w:=gD (n:=3) (by simp)
theorem Ob {α:Type}{x y z w t:α}{r:List α}:eM (x::y::z::w::t::r) 4=some t:=gD (n:=4) (by simp)
theorem ZG {R:Option Int->Prop}:nI [] R=R none:=rfl
theorem Ay {R:Option Int->Prop}:nI [.int i] R=R (some i):=rfl
theorem HL {lo hi:Option Int}:BS (.tup ds) lo hi st Q=Q (.tup (cut ds lo hi)) st:=rfl
theorem Bi {lo hi:Option Int}:BS (.ref p) lo hi st Q=cD st p fun ds=>∀ p,st p=none->Q (.ref p) (put st p (.lst (cut ds lo hi))):=rfl
theorem Gu {α:Type}{d:α}{ds:List α}:cut (d::ds) (some 1) none=ds:=by simp [cut,cA]
theorem xR {α:Type}{xs:List α}{lo hi:Option Int}:(cut xs lo hi).length<=xs.length:=by simp only[cut,pj,ug];omega
theorem YO {R:List Nat->List D->Prop}:gI none [x] st R=nL x st R:=rfl
theorem S1 {R:List Nat->List D->Prop}:nL (.tup ds) st R=R [] ds:=rfl
theorem R7 {R:List Nat->List D->Prop}:nL (.str u) st R=(u.length<=bD/\R [] (u.map fun c=>.str [c])):=rfl
theorem TJ {R:List Nat->List D->Prop}:nL (.ref p) st R=cD st p fun ds=>R [p] ds:=rfl
theorem NY {R:List Nat->List D->Prop}:nL (.bL ds) st R=R [] ds:=rfl
theorem Y5 {R:List Nat->List D->Prop}:eG (.tup ds) st R=R [] ds:=rfl
theorem DU {R:List Nat->List D->Prop}:eG (.ref p) st R=cD st p fun ds=>R [p] ds:=rfl
theorem RN {R:List Nat->List D->Prop}:eG (.bL ds) st R=R [] ds:=rfl
theorem LW {R:List Nat->List D->Prop}:gI (some .range) [.int j] st R=(dO j/\R [] (fF 0 j.toNat)):=rfl
theorem NC {R:List Nat->List D->Prop}:gI (some .range) [.int i,.int j] st R=(dO i/\dO j/\R [] (fF i (j-i).toNat)):=rfl
theorem RI {R:List Nat->List D->Prop}{xs ys:List D}:gI (some .zip) [.tup xs,.tup ys] st R=R [] (zip2 xs ys):=rfl
theorem Y8 {R:List Nat->List D->Prop}:gI (some .rev) [x] st R=eG x st fun as xs=>R as xs.reverse:=rfl
theorem Q9:gX .len [x] st Q=oT x st fun n=>Q (.int (n:Nat)) st:=rfl
theorem YE {R:Nat->Prop}:oT (.tup ds) st R=R ds.length:=rfl
theorem IM {R:Nat->Prop}:oT (.bL ds) st R=R ds.length:=rfl
theorem len_str {R:Nat->Prop}:oT (.str u) st R=(u.length<=bD/\R u.length):=rfl
theorem XM {R:Nat->Prop}:oT (.ref p) st R=dY st p (fun ds=>R ds.length) fun ks _=>R ks.length:=rfl
theorem O7:gX .all [x] st Q=eG x st fun _ xs=>dN .all xs st Q:=rfl
theorem PR:gX .any [x] st Q=eG x st fun _ xs=>dN .any xs st Q:=rfl
theorem Es:gX .max [x] st Q=eG x st fun _ xs=>dN .max xs st Q:=by cases x<;>rfl
theorem Z7:gX .min [x] st Q=eG x st fun _ xs=>dN .min xs st Q:=by cases x<;>rfl
theorem Fe:gX .sum [x] st Q=eG x st fun _ xs=>dN .sum xs st Q:=by cases x<;>rfl
theorem K8:gX .list [x] st Q=eG x st fun _ xs=>dN .list xs st Q:=rfl
theorem JF:gX .tuple [x] st Q=eG x st fun _ xs=>dN .tuple xs st Q:=rfl
theorem EG {ds:List D}:gX .tG [.tup ds] st Q=cV (strsOf ds) fun ws=>ws.length<4000/\Q (.int (xD [] ws:Nat)) st:=rfl
theorem Y6:gX .max [.int i,.int j] st Q=Q (.int (if j>i then j else i)) st:=rfl
theorem Ah:gX .int [.int i] st Q=Q (.int i) st:=rfl
theorem YH {k:Bool}:gX .int [.bl k] st Q=Q (.int (if k then 1 else 0)) st:=rfl
theorem Ao:dN .all xs st Q=cV (boolsOf xs) fun bs=>Q (.bl (bs.all id)) st:=rfl
theorem Cg:dN .any xs st Q=cV (boolsOf xs) fun bs=>Q (.bl (bs.any id)) st:=rfl
theorem Bo:dN .sum xs st Q=cV (intsOf xs) fun is=>Q (.int is.sum) st:=rfl
theorem WN:dN .list xs st Q=gF xs st Q:=rfl
theorem RW:dN .tuple xs st Q=(xs.length<=bD/\Q (.tup xs) st):=rfl
theorem Y2:wN (.tup ds) st K=K ds:=rfl
theorem K2:wN (.ref p) st K=cD st p K:=rfl
theorem CB:wZ .append (.ref p) st=cD st p fun _=>True:=rfl
theorem NI:wZ .extend (.ref p) st=cD st p fun _=>True:=rfl
theorem XW:wZ .pop (.ref p) st=cD st p fun _=>True:=rfl
theorem QK {x:D}:wZ .index x st=eG x st fun _ _=>True:=rfl
theorem S8 {x d:D}:jH .index x [d] st Q=eG x st fun _ ds=>plainS st d/\cZ st ds/\cV (findD st d ds) fun i=>Q (.int (i:Nat)) st:=rfl
theorem qU:jH .append (.ref p) [x] st Q=cD st p fun xs=>xs.length<bD/\Q .non (put st p (.lst (xs++[x]))):=rfl
theorem xG:jH .extend (.ref p) [x] st Q=cD st p fun xs=>wN x st fun ys=>xs.length+ys.length<=bD/\Q .non (put st p (.lst (xs++ys))):=rfl
theorem GF:jH .pop (.ref p) [] st Q=cD st p fun xs=>cV (xs[xs.length-1]?) fun d=>Q d (put st p (.lst xs.dropLast)):=rfl
theorem KS {R:aA->Prop}:AF (.ref p) (.int i) x st R=cD st p fun xs=>cV (mV xs.length i) fun j=>R (put st p (.lst (xs.set j x))):=rfl
theorem Fl {n:Nat}{R:St->Prop}:kI true [n] x σ R=R (σ.set n (some x)):=rfl
theorem QC {is:List Nat}{R:St->Prop}:kI false is (.tup ds) σ R=(ds.length=is.length/\R ((is.zip ds).foldl (fun σ p=>σ.set p.1 (some p.2)) σ)):=by cases is<;>rfl
end
theorem Ext.refl {st:aA}:Ext st st:=fun _ _ h=>h
theorem Ext.trans {a b c:aA}(h:Ext a b)(h':Ext b c):Ext a c:=fun x o e=>h' x o (h x o e)
theorem Ext.new {st:aA}{p:Nat}{o:MO}(h:st p=none):Ext st (put st p o):=fun a u e=>sV h e
theorem JV {st aB:aA}:same [] st aB:=fun _ h=>nomatch h
theorem comp_map {g:aA->Prop}{turn:D->aA->(Option D->aA->Prop)->Prop}{R:List D->aA->Prop}(f:D->D):∀(xs acc:List D)(st:aA),
  (∀ aB,Ext st aB->g aB)->(∀ x∈xs,∀ aB (K:Option D->aA->Prop),Ext st aB->(∀ bX,Ext aB bX->K (some (f x)) bX)->turn x aB K) ->
  acc.length+xs.length<=bD->(∀ aB,Ext st aB->R (acc++xs.map f) aB)->jG g turn xs acc st R
 |[],acc,st,hg,_,_,hR=>⟨hg st .refl,by simpa using hR st .refl⟩
 |x::xs,acc,st,hg,ht,hl,hR=>by
  refine⟨hg st .refl,by simp at hl;omega,ht x (by simp) st _ .refl fun bX h''=>?_⟩
  refine comp_map f xs (acc++[f x]) bX (fun aB h=>hg aB (h''.trans h)) (fun y hy aB K h=>ht y (by simp [hy]) aB K (h''.trans h)) (by simp at hl ⊢;omega) fun aB h=>?_
  simpa using hR aB (h''.trans h)
mutual
theorem nA {st:aA}:∀ d:D,bH d=true->gK st d=true
 |.non,_=>rfl
 |.bl _,_=>rfl
 |.int _,_=>rfl
 |.str _,_=>rfl
 |.tup ds,h=>by simp only[bH]at h;simp only[gK];exact iX ds h
 |.ref _,h=>by simp [bH]at h
 |.cY _ _,h=>by simp [bH]at h
 |.bL _,h=>by simp [bH]at h
 |.exc _,h=>by simp [bH]at h
theorem iX {st:aA}:∀ ds:List D,bI ds=true->gP st ds=true
 |[],_=>rfl
 |d::ds,h=>by
  simp only[bI,ar]at h
  simp only[gP,ar]
  exact⟨nA d h.1,iX ds h.2⟩
end
theorem plain.s {d:D}(h:plain d){st:aA}:plainS st d:=⟨nA d h.1,h.2⟩
theorem rT.s {ds:List D}(h:rT ds){st:aA}:cZ st ds:=⟨iX ds h.1,h.2⟩
theorem EO {x:List Nat}:plain (.str x):=⟨rfl,cx _⟩
theorem EE {i:Int}:plain (.int i):=⟨rfl,cx _⟩
theorem II {b:Bool}:plain (.bl b):=⟨rfl,cx _⟩
theorem ES:plain .non:=⟨rfl,cx _⟩
theorem ND {x:List Nat}{st:aA}:plainS st (.str x):=EO.s
theorem B5 {i:Int}{st:aA}:plainS st (.int i):=EE.s
theorem P4 {b:Bool}{st:aA}:plainS st (.bl b):=II.s
theorem NK {st:aA}:plainS st .non:=ES.s
theorem zI:∀ xs:List (List Nat),rT (xs.map .str)
 |[]=>⟨rfl,cx _⟩
 |x::xs=>by
  have h:=zI xs
  exact⟨by simp only[aq,bI,bH,nq];exact h.1,by simp only[aq,cC,dJ];exact Nat.max_le.mpr ⟨Nat.zero_le _,h.2⟩⟩
theorem iV {st:aA}{x y:List Nat}:bJ st (.str x) (.str y)=(x==y):=by simp only[bJ]
theorem LP {st:aA}{x y:Int}:bJ st (.int x) (.int y)=(x==y):=by simp only[bJ]
theorem Fc {st:aA}{x y:Bool}:bJ st (.bl x) (.bl y)=(x==y):=by simp only[bJ]
theorem WU {x y:List Nat}:bT (.str x) (.str y)=(x==y):=by simp only[bT]
theorem GA {st:aA}(x:List Nat):∀ xs:List (List Nat),((xs.map D.str).any fun d=>bJ st d (.str x))=xs.contains x
 |[]=>rfl
 |y::xs=>by
  simp only[aq,iq,iV,GA x xs,yf]
  congr 1
  exact Bool.beq_comm
end L3
end
section
namespace L3
open PySem PySem.Spec PyProof.Rows L2
def MD (a:Addr)(xs:List (List Int×Addr×Value))(p:br)(w:dg)(h:Heap):Prop:=∃ o es ep,h.get? a=some o/\o.ExactDict/\o.data=.dict es ep/\es.toList=xs.map (entryOfKey (kh (gr p w)))
noncomputable def wD (a:Addr)(xs:List (List Int×Addr×Value)):HO:=.ext fun p w h=>MD a xs p w h
noncomputable def SJ (a:Addr)(xs:List (Int×Value)):HO:=.ext fun p w h=>h.DictOf (gr p w) a xs
noncomputable def tupI (is:List Int):D:=.tup (is.map .int)
def clsAt (K:aa)(c:List Nat)(C:Addr):Prop:=iu K cw ⟨c.toArray⟩=some (some (.ref C))
theorem clsAt.inj {K:aa}{c:List Nat}{C C':Addr}(h:clsAt K c C)(h':clsAt K c C'):C=C':=by
 have:=h.symm.trans h'
 injection this with e;injection e with e;injection e
structure jS where
 params:Arguments
 body:Expr
 scope:Scope
 aK:List Str
 ps:List Str
 q:Str
noncomputable def Iq (e:Expr)(aK ps:List Str)(q:Str):jS:=match e with
 |.Lambda params body scope _=>⟨params,body,scope,aK,ps,q⟩
 |e=>⟨{ posonlyargs:=[],args:=[],vararg:=none,kwonlyargs:=[],kw_defaults:=[],kwarg:=none,defaults:=[] },e,{ kind:=.function,names:=[],isGenerator:=false,isCoroutine:=false },aK,ps,q⟩
noncomputable def Ht (s:Stmt):Expr:=match s with
 |.Return (some (.Call _ as _ _)) _=>as.getD 1 (.Name "" ⟨0,0,0,0⟩)
 |_=>.Name "" ⟨0,0,0,0⟩
noncomputable abbrev bd (n:Nat):Stmt:=PySem.Challenge.pw_leastloss_k20_whole_lesser.main.body.getD n (.Pass ⟨0,0,0,0⟩)
noncomputable def dQ:jS:=Iq (Ht ((fG (bd 49)).getD 1 (.Pass ⟨0,0,0,0⟩))) ["leaders","machine"] ["stand"] "least_machine.<locals>.<lambda>"
noncomputable def LT:Nat->Option jS
 |45=>some dQ
 |_=>none
def lF (K:aa)(H:Hp)(a:Addr)(vs:List V):Prop :=
 (∃ o,H a=some (.frz o (.lst vs)))∨∃(o:Obj)(aD:Array af)(n:Nat),K.lookup a=some o/\o.cls=.type "list" /\ o.dict=none/\o.data=.seq aD n/\aD.size<=sizeLine/\aO vs aD.toList
theorem lF.sq {K:aa}{H:Hp}{a:Addr}{vs:List V}:lF K H a vs->eJ K H a vs
 |.inl ⟨o,h⟩=>.inl (.inr ⟨o,h⟩)
 |.inr h=>.inr h
noncomputable def qO:Ra->D
 |.bool b=>.bl b
 |.int i=>.int i
 |.str x=>.str x.cps.toList
 |_=>.non
noncomputable def mY:Ra->Bool
 |.none=>true
 |.bool _=>true
 |.int _=>true
 |.str _=>true
 |_=>false
def Em (K:aa)(a:Addr)(ks vs:List D):Prop:=∃ T:List (Str×PyData),wc tw (fun b=>K.lookup b) a T=true/\(T.all fun p=>mY p.2)=true/\ks=T.map (fun p=>.str p.1.cps.toList)/\vs=T.map (fun p=>qO p.2)
mutual
inductive Rep (K:aa)(H:Hp):D->V->Prop where
 |non:Rep K H .non .non
 |bl (b:Bool):Rep K H (.bl b) (.bl b)
 |int (i:Int):Rep K H (.int i) (.int i)
 |str (x:List Nat):Rep K H (.str x) (.str ⟨x.toArray⟩)
 |tup {ds:List D}{a:Addr}{vs:List V}(h:cX K H a vs)(r:aH K H ds vs):Rep K H (.tup ds) (.ref a)
 |ref (a:Addr):Rep K H (.ref a) (.ref a)
 |bL {ds:List D}{a:Addr}{vs:List V}(h:lF K H a vs)(r:aH K H ds vs):Rep K H (.bL ds) (.ref a)
 |cY {ks vs:List D}{a:Addr}(h:Em K a ks vs):Rep K H (.cY ks vs) (.ref a)
inductive aH (K:aa)(H:Hp):List D->List V->Prop where
 |nil:aH K H [] []
 |cons {d:D}{v:V}{ds:List D}{vs:List V}(h:Rep K H d v)(r:aH K H ds vs):aH K H (d::ds) (v::vs)
end
def iB (K:aa)(H:Hp)(fs:List (List Nat×D))(ws:List (Str×V)):Prop:=ws.map (·.1)=fs.map (fun p=>(⟨p.1.toArray⟩:Str))/\aH K H (fs.map (·.2)) (ws.map (·.2))
noncomputable def bears:HO->Bool
 |.lst _=>true
 |.ins _ _ _=>true
 |.ext _=>true
 |.tbl _=>true
 |.frz _ (.frz _ _)=>true
 |_=>false
def MH (oc:Obj)(q:Str):Prop:=∃ vs t,oc.data=.fields vs/\vs[1]? = some (.str q t)
inductive iT (H:Hp)(a:Addr)(clos:List (Str×Addr)):List Str->List V->Prop where
 |nil:iT H a clos [] []
 |cons {x:Str}{xs:List Str}{v:V}{vs:List V}(cl:Addr)(o:Obj)(u:af)(l:clos.lookup x=some cl)(k:H cl=some (.frz o (.own a))) (d:o.data=.cell (some u)) (r:RelV v u) (t:iT H a clos xs vs):iT H a clos (x::xs) (v::vs)
theorem iT.of {H H':Hp}{a:Addr}{clos:List (Str×Addr)}{xs:List Str}{vs:List V}(h:iT H a clos xs vs)(k:∀ b o,H b=some (.frz o (.own a))->H' b=some (.frz o (.own a))):iT H' a clos xs vs:=by
 induction h with
 |nil=>exact .nil
 |cons cl o u l q d r t ih=>exact .cons cl o u l (k _ _ q) d r ih
inductive VJ (H:Hp)(a:Addr)(f:Nat)(vs:List V):Prop where
 |mk (T:jS)(clos:List (Str×Addr))(pm ctv:af)(c':Addr)(oc:Obj)(ne:a≠0)(t:LT f=some T)(e:H a=some (.frz (n4 "<lambda>" T.q T.params T.body T.scope clos pm c' ctv) (.frz (n4 "<lambda>" T.q T.params T.body T.scope clos pm c' ctv) (.own a))))(ec:H c'=some (.frz oc (.own 0)))(co:MH oc T.q)
 (inj:∀ x y c,clos.lookup x=some c->clos.lookup y=some c->x=y)(dom:∀ x c,clos.lookup x=some c->x∈T.aK)(cap:iT H a clos T.aK vs):VJ H a f vs
def NN (K:aa)(H:Hp)(a:Addr)(κ:CK):Prop :=
 pq K κ.c a=true/\(H a=some (.tbl #[])∨∃ c' oc,H a=some (.tbl #[gd κ.ln,gd κ.col,.ref c'])/\H c'=some (.frz oc (.own 0))/\MH oc ⟨κ.q.toArray⟩)
inductive Mo (K:aa)(H:Hp)(a:Addr)(ks vs:List D):Prop
 |tup (xs:List (List Int×Addr×Value))(ws:List V)(q:H a=some (wD a xs))(sm:(a==l8)=false)(e:xs.map (fun x=>tupI x.1)=ks)(nd:(xs.map (·.1)).Nodup)(rk:aH K H ks (xs.map fun x=>.ref x.2.1))(rv:aO ws (xs.map (·.2.2)))(r:aH K H vs ws)
 |num (xs:List (Int×Value))(ws:List V)(q:H a=some (SJ a xs))(sm:(a==l8)=false)(e:xs.map (fun x=>D.int x.1)=ks)(ne:xs≠[])(rv:aO ws (xs.map (·.2)))(r:aH K H vs ws)
def rM (K:aa)(H:Hp)(a:Addr):MO->Prop
 |.lst ds=>∃ vs,H a=some (.lst vs)/\aH K H ds vs
 |.dic _ _=>False
 |.ins c fs=>∃ C dx ws,clsAt K c C/\H a=some (.ins C dx ws)/\iB K H fs ws
 |.tab ks vs=>Mo K H a ks vs
 |.fn f cs=>∃ vs,VJ H a f vs/\aH K H cs vs
 |.cod κ=>NN K H a κ
def aN (K:aa)(st:aA)(H:Hp):Prop:=∀ a o,st a=some o->rM K H a o
def Step (H:Hp)(st:aA)(H':Hp)(aB:aA):Prop:=∀ a o,H a=some o->st a=none->H' a=some o/\aB a=none
theorem Step.refl {H:Hp}{st:aA}:Step H st H st:=fun _ _ h n=>⟨h,n⟩
theorem Step.trans {H H1 H2:Hp}{st aC aF:aA}(a:Step H st H1 aC)(b:Step H1 aC H2 aF):Step H st H2 aF:=fun x o h n=>let⟨h1,n1⟩:=a x o h n;b x o h1 n1
section
variable {K:aa}{H H' H1:Hp}{st aB aC:aA}{a p:Addr}{d:D}{v:V}{ds:List D}{vs:List V}
theorem rM.bears {m:MO}(h:rM K H a m):∃ o,H a=some o/\L3.bears o=true:=by
 cases m with
 |lst ds=>obtain⟨vs,q,_⟩:=h;exact⟨_,q,rfl⟩
 |dic _ _=>exact h.elim
 |ins c fs=>obtain⟨_,_,_,_,q,_⟩:=h;exact⟨_,q,rfl⟩
 |tab ks vs=>cases h with|tup _ _ q=>exact⟨_,q,rfl⟩|num _ _ q=>exact⟨_,q,rfl⟩
 |fn f cs=>obtain⟨_,⟨_,_,_,_,_,_,_,_,q⟩,_⟩:=h;exact⟨_,q,rfl⟩
 |cod κ=>obtain⟨_,q|⟨_,_,q,_⟩⟩:=h<;>exact⟨_,q,rfl⟩
theorem aN.sX (ok:aN K st H){o:HO}(h:H a=some o)(n:L3.bears o=false):st a=none:=by
 cases e:st a with
 |none=>rfl
 |some u =>
 obtain⟨o',e1,e2⟩:=(ok a u e).bears
 rw[h]at e1;cases e1
 rw[n]at e2;cases e2
theorem aN.fresh (ok:aN K st H)(h:H a=none):st a=none:=by
 cases e:st a with
 |none=>rfl
 |some u =>
 obtain⟨o',e1,e2⟩:=(ok a u e).bears
 rw[h]at e1;cases e1
theorem iK (ok:aN K st H)(s:Step H st H' aB)(h:cX K H a vs):cX K H' a vs:=by
 rcases h with(h|⟨o,h⟩)|h
 ·exact .inl (.inl (s a _ h (ok.sX h rfl)).1)
 ·exact .inl (.inr ⟨o,(s a _ h (ok.sX h rfl)).1⟩)
 ·exact .inr h
theorem rD (ok:aN K st H)(s:Step H st H' aB)(h:lF K H a vs):lF K H' a vs:=by
 rcases h with⟨o,h⟩|h
 ·exact .inl ⟨o,(s a _ h (ok.sX h rfl)).1⟩
 ·exact .inr h
mutual
theorem Rep.step (ok:aN K st H)(s:Step H st H' aB):∀{d:D}{v:V},Rep K H d v->Rep K H' d v
 |_,_,.non=>.non
 |_,_,.bl b=>.bl b
 |_,_,.int i=>.int i
 |_,_,.str x=>.str x
 |_,_,.tup h r=>.tup (iK ok s h) (aH.step ok s r)
 |_,_,.ref a=>.ref a
 |_,_,.bL h r=>.bL (rD ok s h) (aH.step ok s r)
 |_,_,.cY h=>.cY h
theorem aH.step (ok:aN K st H)(s:Step H st H' aB):∀{ds:List D}{vs:List V},aH K H ds vs->aH K H' ds vs
 |_,_,.nil=>.nil
 |_,_,.cons h r=>.cons (Rep.step ok s h) (aH.step ok s r)
end
theorem OF (ok:aN K st H)(s:Step H st H' aB){c:Addr}{clos:List (Str×Addr)}{xs:List Str}{vs:List V}(h:iT H c clos xs vs):iT H' c clos xs vs:=by
 induction h with
 |nil=>exact .nil
 |cons cl o u l k d r t ih=>exact .cons cl o u l (s _ _ k (ok.sX k rfl)).1 d r ih
theorem rM.step (ok:aN K st H)(s:Step H st H' aB){m:MO}(h:rM K H a m)(e:H' a=H a):rM K H' a m:=by
 cases m with
 |lst ds=>obtain⟨vs,q,r⟩:=h;exact⟨vs,e.trans q,r.step ok s⟩
 |dic _ _=>exact h
 |ins c fs=>obtain⟨C,dx,ws,q,q2,q3,r⟩:=h;exact⟨C,dx,ws,q,e.trans q2,q3,r.step ok s⟩
 |tab ks vs=>cases h with|tup xs ws q q0 q1 q2 q3 q4 r=>exact .tup xs ws (e.trans q) q0 q1 q2 (q3.step ok s) q4 (r.step ok s)|num xs ws q q0 q1 q2 q4 r=>exact .num xs ws (e.trans q) q0 q1 q2 q4 (r.step ok s)
 |fn f cs =>
 obtain⟨vs,⟨T,clos,pm,ctv,c',oc,ne0,t,q,ec,co,inj,dom,cap⟩,r⟩:=h
 exact⟨vs,⟨T,clos,pm,ctv,c',oc,ne0,t,e.trans q,(s _ _ ec (ok.sX ec rfl)).1,co,inj,dom,OF ok s cap⟩,r.step ok s⟩
 |cod κ =>
 obtain⟨q0,q|⟨c',oc,q,ec,co⟩⟩:=h
 ·exact⟨q0,.inl (e.trans q)⟩
 ·exact⟨q0,.inr ⟨c',oc,e.trans q,(s _ _ ec (ok.sX ec rfl)).1,co⟩⟩
theorem aH.length:∀{ds:List D}{vs:List V},aH K H ds vs->ds.length=vs.length
 |_,_,.nil=>rfl
 |_,_,.cons _ r=>by simp [aH.length r]
theorem aH.get:∀{ds:List D}{vs:List V}{i:Nat}{d:D},aH K H ds vs->ds[i]? = some d->∃ v,vs[i]? = some v/\Rep K H d v
 |_,_,_,_,.nil,e=>by simp at e
 |_,_,0,_,.cons h _,e=>by simp at e;subst e;exact⟨_,rfl,h⟩
 |_,_,i+1,d,.cons _ r,e=>by
  obtain⟨v,e1,e2⟩:=aH.get (i:=i) (d:=d) r (by simpa using e)
  exact⟨v,by simpa using e1,e2⟩
theorem aH.append:∀{ds es:List D}{vs us:List V},aH K H ds vs->aH K H es us->aH K H (ds++es) (vs++us)
 |_,_,_,_,.nil,s=>s
 |_,_,_,_,.cons h r,s=>.cons h (aH.append r s)
theorem aH.take:∀{ds:List D}{vs:List V}(n:Nat),aH K H ds vs->aH K H (ds.take n) (vs.take n)
 |_,_,0,_=>by simp;exact .nil
 |_,_,_+1,.nil=>by simp;exact .nil
 |_,_,n+1,.cons h r=>by simp only[List.take_succ_cons];exact .cons h (aH.take n r)
theorem aH.drop:∀{ds:List D}{vs:List V}(n:Nat),aH K H ds vs->aH K H (ds.drop n) (vs.drop n)
 |_,_,0,r=>by simpa using r
 |_,_,_+1,.nil=>by simp;exact .nil
 |_,_,n+1,.cons _ r=>by simp only[xf];exact aH.drop n r
theorem aH.set (h:Rep K H d v):∀{ds:List D}{vs:List V}(i:Nat),aH K H ds vs->aH K H (ds.set i d) (vs.set i v)
 |_,_,_,.nil=>by simp;exact .nil
 |_,_,0,.cons _ r=>by simp only[di];exact .cons h r
 |_,_,i+1,.cons q r=>by simp only[eh];exact .cons q (aH.set h i r)
theorem aH.dropLast {ds:List D}{vs:List V}(r:aH K H ds vs):aH K H ds.dropLast vs.dropLast:=by
 rw[vq,vq,r.length]
 exact r.take _
theorem aH.reverse:∀{ds:List D}{vs:List V},aH K H ds vs->aH K H ds.reverse vs.reverse
 |_,_,.nil=>by simp;exact .nil
 |_,_,.cons h r=>by simp only[jd];exact(aH.reverse r).append (.cons h .nil)
inductive QD (K:aa)(H:Hp)(st:aA)(R:VK)(v:V)(H':Hp):Prop where
 |mk (d:D)(aB:aA)(s:Step H st H' aB)(ok:aN K aB H')(r:Rep K H' d v)(q:R d aB):QD K H st R v H'
inductive Kl (K:aa)(H:Hp)(st:aA)(R:List D->aA->Prop)(vs:List V)(H':Hp):Prop where
 |mk (ds:List D)(aB:aA)(s:Step H st H' aB)(ok:aN K aB H')(r:aH K H' ds vs)(q:R ds aB):Kl K H st R vs H'
inductive QX (K:aa)(H:Hp)(st:aA)(R:aA->Prop)(H':Hp):Prop where
 |mk (aB:aA)(s:Step H st H' aB)(ok:aN K aB H')(q:R aB):QX K H st R H'
theorem QD.here {R:VK}(ok:aN K st H)(r:Rep K H d v)(h:R d st):QD K H st R v H:=⟨d,st,.refl,ok,r,h⟩
theorem QD.after {R:VK}(s:Step H st H1 aC)(h:QD K H1 aC R v H'):QD K H st R v H':=let⟨d,aB,s',ok,r,q⟩:=h;⟨d,aB,s.trans s',ok,r,q⟩
theorem kZ {o:HO}(hp:H p=none):Step H st (upd H p o) st:=fun a u h n=>by
 have e:a≠p:=fun e=>by rw[e,hp]at h;cases h
 exact⟨by rw[bA e];exact h,n⟩
theorem oB {o:HO}{m:MO}(hp:H p=none):Step H st (upd H p o) (put st p m):=fun a u h n=>by
 have e:a≠p:=fun e=>by rw[e,hp]at h;cases h
 exact⟨by rw[bA e];exact h,by rw[aU e];exact n⟩
theorem aN.new {o:HO}(ok:aN K st H)(hp:H p=none):aN K st (upd H p o):=fun a u e=>by
 have ne:a≠p:=fun z=>by obtain⟨o',q,_⟩:=(ok a u e).bears;rw[z,hp]at q;cases q
 exact(ok a u e).step ok (kZ (st:=st) hp) (bA ne)
theorem aN.Fj {o:HO}{m:MO}(ok:aN K st H)(hp:H p=none)(r:rM K (upd H p o) p m):aN K (put st p m) (upd H p o):=fun a u e=>by
 have s:Step H st (upd H p o) (put st p m):=oB hp
 by_cases ha:a=p
 ·subst ha
  rw[aV]at e;cases e
  exact r
 ·rw[aU ha]at e
  exact(ok a u e).step ok s (bA ha)
theorem aN.gF (ok:aN K st H)(hp:H p=none)(r:aH K H ds vs):aN K (put st p (.lst ds)) (upd H p (.lst vs)):=fun a u e=>by
 have s:Step H st (upd H p (.lst vs)) (put st p (.lst ds)):=oB hp
 by_cases ha:a=p
 ·subst ha
  rw[aV]at e;cases e
  exact⟨vs,cS,r.step ok s⟩
 ·rw[aU ha]at e
  exact(ok a u e).step ok s (bA ha)
theorem QD.IJ {R:VK}(ok:aN K st H)(r:aH K H ds vs)(hp:H p=none)(h:R (.tup ds) st):QD K H st R (.ref p) (upd H p (.tup vs)) :=
 ⟨.tup ds,st,kZ hp,ok.new hp,.tup (cX.of cS) (r.step ok (kZ (st:=st) hp)),h⟩
theorem QD.gF {R:VK}(ok:aN K st H)(r:aH K H ds vs)(hp:H p=none)(h:∀ p,st p=none->R (.ref p) (put st p (.lst ds))):QD K H st R (.ref p) (upd H p (.lst vs)) :=
 ⟨.ref p,put st p (.lst ds),oB hp,ok.gF hp r,.ref p,h p (ok.fresh hp)⟩
theorem aN.lst (ok:aN K st H)(h:st a=some (.lst ds)):∃ vs,H a=some (.lst vs)/\aH K H ds vs:=ok a _ h
theorem kB {o:HO}{m m':MO}(h:st a=some m):Step H st (upd H a o) (put st a m'):=fun b u hb n=>by
 have e:b≠a:=fun e=>by rw[e,h]at n;cases n
 exact⟨by rw[bA e];exact hb,by rw[aU e];exact n⟩
theorem aN.set (ok:aN K st H){m:MO}(h:st a=some m)(r:aH K H ds vs):aN K (put st a (.lst ds)) (upd H a (.lst vs)):=fun b u e=>by
 have s:Step H st (upd H a (.lst vs)) (put st a (.lst ds)):=kB h
 by_cases ha:b=a
 ·subst ha
  rw[aV]at e;cases e
  exact⟨vs,cS,r.step ok s⟩
 ·rw[aU ha]at e
  exact(ok b u e).step ok s (bA ha)
theorem aN.DQ {o:HO}{m m':MO}(ok:aN K st H)(h:st a=some m)(r:rM K (upd H a o) a m'):aN K (put st a m') (upd H a o):=fun b u e=>by
 have s:Step H st (upd H a o) (put st a m'):=kB h
 by_cases ha:b=a
 ·subst ha
  rw[aV]at e;cases e
  exact r
 ·rw[aU ha]at e
  exact(ok b u e).step ok s (bA ha)
theorem QD.set {R:VK}(ok:aN K st H){m:MO}(h:st a=some m)(r:aH K H ds vs)(rd:Rep K H d v)(q:R d (put st a (.lst ds))):QD K H st R v (upd H a (.lst vs)) :=
 ⟨d,put st a (.lst ds),kB h,ok.set h r,rd.step ok (kB (m':=.lst ds) h),q⟩
end
def dA (K:aa)(H:Hp)(σd:St)(σ:L2.St):Prop:=σd.length=σ.length/\∀(i:Nat)(d:D),σd[i]? = some (some d)->∃ v,σ[i]? = some (some v)/\Rep K H d v
theorem dA.step {K:aa}{H H':Hp}{st aB:aA}{σd:St}{σ:L2.St}(r:dA K H σd σ)(ok:aN K st H)(s:Step H st H' aB):dA K H' σd σ :=
 ⟨r.1,fun i d e=>let⟨v,e1,e2⟩:=r.2 i d e;⟨v,e1,e2.step ok s⟩⟩
theorem dA.set {K:aa}{H:Hp}{σd:St}{σ:L2.St}{d:D}{v:V}(r:dA K H σd σ)(i:Nat)(h:Rep K H d v):dA K H (σd.set i (some d)) (σ.set i (some v)):=by
 refine⟨by simpa using r.1,fun j e hj=>?_⟩
 by_cases q:j=i
 ·subst q
  by_cases hl:j<σd.length
  ·rw[kr hl]at hj
   cases hj
   exact⟨v,by rw[kr (by rw[<-r.1];exact hl)],h⟩
  ·rw[j3 (by simp;omega)]at hj;cases hj
 ·rw[i5 (jn q)]at hj
  obtain⟨u,e1,e2⟩:=r.2 j e hj
  exact⟨u,by rw[i5 (jn q)];exact e1,e2⟩
abbrev Bn:=St->aA->VK->Prop
inductive bR (K:aa)(te:Bn)(σ:L2.St)(H:Hp)(Q:L2.VK):Prop where
 |mk (σd:St)(st:aA)(R:VK)(r:dA K H σd σ)(ok:aN K st H)(q:te σd st R)(hq:∀ v H',QD K H st R v H'->Q v H'):bR K te σ H Q
inductive jB (K:aa)(te:St->aA->(List D->aA->Prop)->Prop)(σ:L2.St)(H:Hp)(Q:List V->Hp->Prop):Prop where
 |mk (σd:St)(st:aA)(R:List D->aA->Prop)(r:dA K H σd σ)(ok:aN K st H)(q:te σd st R)(hq:∀ vs H',Kl K H st R vs H'->Q vs H'):jB K te σ H Q
inductive jC (K:aa)(te:Bn)(σ:L2.St)(H:Hp)(Q:Bool->Hp->Prop):Prop where
 |mk (σd:St)(st:aA)(R:Bool->aA->Prop)(r:dA K H σd σ)(ok:aN K st H)(q:te σd st (fun d aB=>eE d aB fun b=>R b aB))(hq:∀(b:Bool) H',QX K H st (R b) H'->Q b H'):jC K te σ H Q
theorem _root_.L2.PE.imp {X:Cx}{e:Expr}{t t':L2.TE}(i:∀ σ H Q,t' σ H Q->t σ H Q)(h:PE X e t):PE X e t':=fun pz s σ H Q I q=>h pz s σ H Q I (i σ H Q q)
theorem _root_.L2.PT.imp {X:Cx}{e:Expr}{t t':L2.TT}(i:∀ σ H Q,t' σ H Q->t σ H Q)(h:PT X e t):PT X e t':=fun pz s σ H Q I q=>h pz s σ H Q I (i σ H Q q)
theorem _root_.L2.PW.imp {X:Cx}{e:Expr}{t t':L2.TT}(i:∀ σ H Q,t' σ H Q->t σ H Q)(h:PW X e t):PW X e t':=fun wh pz s σ H Q I q=>h wh pz s σ H Q I (i σ H Q q)
theorem _root_.L2.PA.imp {X:Cx}{es:List Expr}{t t':L2.TA}(i:∀ σ H Q,t' σ H Q->t σ H Q)(h:PA X es t):PA X es t':=fun pos pz s σ H Q I q=>h pos pz s σ H Q I (i σ H Q q)
theorem _root_.L2.PS.imp {X:Cx}{e:Stmt}{t t':L2.TS}(i:∀ D σ H,t' D σ H->t D σ H)(h:PS X e t):PS X e t':=fun pz s σ H D I q=>h pz s σ H D I (i D σ H q)
theorem _root_.L2.kA.imp {X:Cx}{e:List Stmt}{t t':L2.TS}(i:∀ D σ H,t' D σ H->t D σ H)(h:kA X e t):kA X e t':=fun pz s σ H D I q=>h pz s σ H D I (i D σ H q)
theorem fM:sizeLine=bD:=jr
section
variable {X:Cx}{C:bC}{sub:Nat->Nat->Bool}{E:XK}{a b c e:Expr}{x y z:Ex}{pos:Pos}
theorem yM {d:D}{v:V}(h:PE X e (tC v))(r:∀ H,Rep X.K H d v):PE X e (bR X.K (aE C sub E (.c d))) :=
 h.imp fun σ H Q ⟨σd,st,R,_,ok,q,hq⟩=>by
 exact hq v H (.here ok (r H) q)
set_option tactic.hygienic true in
theorem MB {i:Nat}(h:PE X e (SD i)):PE X e (bR X.K (aE C sub E (.v i))) :=
 h.imp fun σ H Q ⟨σd,st,R,r,ok,q,hq⟩=>by
 have q:eF σd i (fun d=>R d st):=q
 unfold eF at q
 split at q
 ·rename_i d ed
  obtain⟨v,e1,e2⟩:=r.2 i d ed
  exact⟨v,e1,hq v H (.here ok e2 q)⟩
 ·exact q.elim
theorem Je:PA X [] (jB X.K (bG C sub E [])) :=
 OE.imp fun σ H Q ⟨σd,st,R,r,ok,q,hq⟩=>by
 exact hq [] H ⟨[],st,.refl,ok,.nil,q⟩
theorem Dk {es:List Expr}{xs:List Ex}(h:PE X e (bR X.K (aE C sub E x)))(hs:PA X es (jB X.K (bG C sub E xs)))
 (eV:ai (e::es) X.env=(false,eval e X.env)::ai es X.env):PA X (e::es) (jB X.K (bG C sub E (x::xs))) :=
 (DB h hs eV).imp fun σ H Q ⟨σd,st,R,r,ok,q,hq⟩=>by
 refine⟨σd,st,_,r,ok,q,fun v H1 ⟨d,aC,s1,aM,r1,q1⟩=>?_⟩
 refine⟨σd,aC,_,r.step ok s1,aM,q1,fun vs H2 ⟨ds,aF,s2,bQ,r2,q2⟩=>?_⟩
 exact hq _ _ ⟨d::ds,aF,s1.trans s2,bQ,.cons (r1.step aM s2) r2,q2⟩
theorem mZ:∀(xs:List Ex){σ:St}{st:aA}{R:List D->aA->Prop},bO C C->bG C sub E xs σ st R->bG C sub E xs σ st (fun ds aB=>ds.length=xs.length/\R ds aB)
 |[],σ,st,R,_,h=>by exact⟨rfl,h⟩
 |x::xs,σ,st,R,hC,h=>by
  refine aS hC (fun _ _ z=>z) x (fun d aB h'=>?_) h
  exact cL hC (fun _ _ z=>z) xs (fun ds bX z=>⟨by simp [z.1],z.2⟩) (mZ xs hC h')
theorem He {es:List Expr}{xs:List Ex}{k:Nat}(hC:bO C C)(hs:PA X es (jB X.K (bG C sub E xs)))(hl:xs.length<=bD):PE X (.Tuple es k pos) (bR X.K (aE C sub E (.tup xs))) :=
 (Fb hs).imp fun σ H Q ⟨σd,st,R,r,ok,q,hq⟩=>by
 refine⟨σd,st,_,r,ok,mZ xs hC q,fun vs H1 ⟨ds,aC,s1,aM,r1,l1,q1⟩=>⟨?_,fun p hp=>?_⟩⟩
 ·rw[fM,<-r1.length,l1];exact hl
 ·exact hq _ _ (.after s1 (.IJ aM r1 hp q1))
theorem Jh {es:List Expr}{xs:List Ex}(hs:PA X es (jB X.K (bG C sub E xs))):PE X (.List es pos) (bR X.K (aE C sub E (.lst xs))) :=
 (Bp hs).imp fun σ H Q ⟨σd,st,R,r,ok,q,hq⟩=>by
 refine⟨σd,st,_,r,ok,q,fun vs H1 ⟨ds,aC,s1,aM,r1,q1⟩=>⟨?_,fun p hp=>?_⟩⟩
 ·rw[fM,<-r1.length];exact q1.1
 ·exact hq _ _ (.after s1 (.gF aM r1 hp q1.2))
theorem two {r:R2}{te tf:Bn}{σ:L2.St}{H:Hp}{Q:L2.VK}{σd:St}{st:aA}{W:D->D->aA->Prop}{R:VK}
 (sr:dA X.K H σd σ)(ok:aN X.K st H)(q:te σd st fun d aC=>tf σd aC fun d' aF=>W d d' aF)(hq:∀ v H',QD X.K H st R v H'->Q v H')
 (op:∀ d d' v v' H2 aF,aN X.K aF H2->Rep X.K H2 d v->Rep X.K H2 d' v'->W d d' aF->r v v' H2 (QD X.K H2 aF R))
 (mono:∀ v v' H (Q Q':L2.VK),(∀ v H,Q v H->Q' v H)->r v v' H Q->r v v' H Q'):Bu r (bR X.K te) (bR X.K tf) σ H Q:=by
 refine⟨σd,st,_,sr,ok,q,fun v H1 ⟨d,aC,s1,aM,r1,q1⟩=>?_⟩
 refine⟨σd,aC,_,sr.step ok s1,aM,q1,fun v' H2 ⟨d',aF,s2,bQ,r2,q2⟩=>?_⟩
 refine mono _ _ _ _ _ (fun u H' z=>hq u H' (.after (s1.trans s2) z)) (op d d' v v' H2 aF bQ (r1.step aM s2) r2 q2)
theorem HC {g:Int->Int->V}(v v':V)(H:Hp)(Q Q':L2.VK)(h:∀ v H,Q v H->Q' v H)(z:JR g v v' H Q):JR g v v' H Q':=let⟨i,j,e,e',q⟩:=z;⟨i,j,e,e',h _ _ q⟩
theorem xQ {P:Int->Int->Prop}{g:Int->Int->V}(v v':V)(H:Hp)(Q Q':L2.VK)(h:∀ v H,Q v H->Q' v H)(z:rI P g v v' H Q):rI P g v v' H Q':=let⟨i,j,e,e',p,q⟩:=z;⟨i,j,e,e',p,h _ _ q⟩
end
theorem AD:fillsNumberSlot (.type "tuple") "mul" = pure false:=by kernel_rfl
theorem HQ:seqRepeat? (.type "tuple")=pure (some (.builtin "tuple.__mul__")):=by kernel_rfl
theorem DP (a:Int)(t:Tok)(l:Addr)(items:Array af)(n:Nat)(dd:Option Addr)(sl:Array (Option af)):
 Meets (Builtin.«int.__rmul__» ⟨[.int a t,.ref l],[]⟩) (fun _ R s=>s.heap.get? l=some { cls:=.type "tuple", dict:=dd,data:=.seq items n,slots:=sl }/\R (.ok (.ret Value.notImplemented)) s) :=
 .of_wp fun prog w A R s h=>by obtain⟨hp,g,d,tk,os⟩:=s;obtain⟨hl,h⟩:=h;wp_walk;exact⟨_,rfl,h⟩
section
variable {prog:br}{w:dg}{A:cp}{E:af->ah->Prop}{s:ah}
theorem GP {l:Addr}{items:Array af}{n:Nat}{dd:Option Addr}{sl:Array (Option af)}{k:Int}{t:Tok}{Q:PySem.Fin->ah->Prop}(hl:s.heap.get? l=some { cls:=.type "tuple", dict:=dd,data:=.seq items n,slots:=sl })
  (h1:1<=k)(h2:k<1000)(hm:0<items.size)(hm2:items.size<=1000)(nH:k=1->Q (.done (.ret (.ref l))) s)
  (h:Q (.done (.ret (.ref s.heap.objs.size))) { s with heap:=s.heap.push { cls:=.type "tuple", data:=.seq ((ay k.toNat items).foldl (·++ ·) #[]) } }):
  wpAny (model prog w) A (Builtin.«tuple.__mul__» ⟨[.ref l,.int k t],[]⟩) Q E s:=by
 have hT:s.TypeIs (.ref l) "tuple":=⟨_,hl,rfl⟩
 unfold Builtin.«tuple.__mul__»
 wp_walk
 rw[if_neg (by simp;omega)]
 show wpAny _ _ (jy (.ref l) >>= _) _ _ s
 refine ae (wpAny_tupleItemsOf hl rfl ?_)
 have hne:items.isEmpty=false:=by
  rw[Array.isEmpty_eq_false_iff];intro z;rw[z]at hm;simp at hm
 have jp:wpAny (model prog w) A (if(decide (k<=0)||items.isEmpty)=true then do
     let __do_lift <-gj #[]
     ret __do_lift
    else
     have __do_jp:=fun(__r:Unit) =>
      have __do_jp:=fun(__r:Unit)=>do
       let __do_lift <-
        gj (pk (fun x1 x2=>x1++x2) #[] (ay k.toNat items))
       ret __do_lift;
      if rq (↑items.size*k)=true then do
       let __r <-unsupported "tuple.__mul__:memory"
       __do_jp __r
      else __do_jp ();
     if ↑items.size*k>(2 ^ 63-1) / 8 then do
      rule "tuple.repeat.no-memory"
      let __do_lift <-Sg (gb "MemoryError") []
      let __r <-Sw __do_lift
      __do_jp __r
     else __do_jp ()) Q E s:=by
  rw[if_neg (by rw[hne];simp;omega)]
  have hmul:(items.size:Int)*k<=1000*1000:=Int.mul_le_mul (by omega) (by omega) (by omega) (by decide)
  have hmul0:0<=(items.size:Int)*k:=Int.mul_nonneg (by omega) (by omega)
  dsimp only
  rw[if_neg (by omega),if_neg (by simp [rq,jr];omega)]
  wp_walk
  have iD:¬(pk (fun x1 x2=>x1++x2) #[] (ay k.toNat items)).size>sizeLine:=by
   have e1:=w6 items.toList k.toNat []
   rw[b7]at e1
   have e2:pk (fun x1 x2=>x1++x2) #[] (ay k.toNat items)=(ay k.toNat items.toList).flatten.toArray:=by simpa using e1
   rw[e2,ao,List.length_flatten,yg,List.sum_replicate_nat,mr,jr]
   have:k.toNat*items.size<=1000*1000:=we (by omega) hm2
   omega
  rw[if_neg iD]
  wp_walk
  exact h
 show wpAny _ _ (if(items.isEmpty||k==1)=true then _ else _) _ _ s
 by_cases hk:k=1
 ·subst hk
  rw[if_pos (by simp)]
  wp_walk
  exact nH rfl
 ·rw[if_neg (by rw[hne];simpa using hk)]
  exact jp
end
noncomputable def VT (K:aa):R2:=fun x y H Q=>∃(a:Addr)(k:Int)(xs:List V),x=.ref a/\y=.int k/\cX K H a xs/\0<xs.length/\xs.length<=1000/\1<=k/\k<1000/\(k=1->Q (.ref a) H)/\∀ p,H p=none->Q (.ref p) (upd H p (.tup (ay k.toNat xs).flatten))
theorem YZ {X:Cx}:gW X (i9 .Mult) (VT X.K):=by
 intro pz s σ H x y v u Q I rx ry h
 obtain⟨a,k,xs,rfl,rfl,hH,h0,h00,h1,h2,nH,q⟩:=h
 cases rx
 obtain⟨t,rfl⟩:=ry
 obtain⟨aD,r,⟨⟨cls,dd,data,sl⟩,ho,hc,n,hd⟩,z⟩:=I.tuple hH
 simp only at hc hd
 subst hc hd
 have hl:xs.length=aD.length:=r.length
 have hnew:pk (fun x1 x2=>x1++x2) #[] (ay k.toNat aD.toArray)=(ay k.toNat aD).flatten.toArray:=by
  have:=w6 aD k.toNat []
  rw[b7]at this
  exact this
 refine sd (T :="tuple") (U :="int") (by decide) ⟨_,ho,rfl⟩ (fun s'=>ye s' k t) AD PySem.F.fills_int_mul vt HQ PySem.F.slot_int_index.lookup
  (n9 vt (ye s k t) PySem.F.entry_int_rmul (PySem.F.args_int_rmul_2 _ _) (DP k t a aD.toArray n dd sl)
   ⟨ho,rfl,⟨_,ho,rfl⟩,fk PySem.F.slot_tuple_mul ⟨_,ho,rfl⟩ PySem.F.entry_tuple_mul (GP ho h1 h2 (by simpa [<-hl]using h0) (by simpa [<-hl]using h00) (fun e=>?_) ?_) (PySem.F.args_tuple_mul_2 _ _)⟩)
 ·exact⟨_,rfl,.ref a,H,I,rfl,nH e⟩
 ·refine⟨_,rfl,.ref s.heap.objs.size,_,I.laid (a:=s.heap.objs.size) (o:=.tup (ay k.toNat xs).flatten) (t':=s.toks) (fun b u e=>ag _ e) (av _) ?_,rfl,q _ (I.bN.fresh (av _))⟩
  refine⟨by rw[len_rep,jr];have:k.toNat*xs.length<=1000*1000:=we (by omega) h00;omega,_,r.rep k.toNat,?_⟩
  rw[hnew]
  exact nD.new s.heap _
section
variable {X:Cx}
theorem VY {prog:br}{w:dg}{A:cp}{E:af->ah->Prop}{s:ah}{t b:Addr}{ws:List af}{Q:af->ah->Prop}(ht:IsTup s.heap t #[])(hb:IsTup s.heap b ws.toArray)
  (h:Q (.ref b) s):wpAny (model prog w) A (i9 .Add (.ref t) (.ref b)) Q E s:=by
 obtain⟨⟨cls,dd,data,sl⟩,ho,hc,n,hd⟩:=id ht
 obtain⟨⟨cls2,dd2,data2,sl2⟩,ho2,hc2,n2,hd2⟩:=id hb
 simp only at hc hd hc2 hd2
 subst hc hd hc2 hd2
 exact yq ⟨_,ho,rfl⟩ ⟨_,ho2,rfl⟩ uf xo ow oi (nk _ _)
  (tuple_addW0 t b #[] ws.toArray n n2 dd dd2 sl sl2 (by simp)) ⟨ho,ho2,h⟩
noncomputable def US (K:aa):R2:=fun x y H Q=>∃ a b ys,x=.ref a/\y=.ref b/\cX K H a []/\cX K H b ys/\Q (.ref b) H
theorem Y9:gW X (i9 .Add) (US X.K):=by
 intro pz s σ H x y v u Q I rx ry h
 obtain⟨a,b,ys,rfl,rfl,ha,hb,q⟩:=h
 cases rx
 cases ry
 obtain⟨aD,r1,p1,_⟩:=I.tuple ha
 obtain⟨mS,r2,p2,_⟩:=I.tuple hb
 have e:aD=[]:=r1.yQ.mpr rfl
 subst e
 exact VY p1 p2 ⟨.ref b,H,I,rfl,q⟩
noncomputable def Kf:R2:=fun x y H Q=>∃ i j,x=.str i/\y=.str j/\i.length+j.length<=sizeLine/\Q (.str (i++j)) H
noncomputable abbrev VU (K:aa):R2:=fun x y H Q=>JR (fun i j=>.int (i+j)) x y H Q∨Kf x y H Q∨VC K x y H Q∨US K x y H Q∨Z3 x y H Q
theorem WA:gW X (i9 .Add) (VU X.K):=gW.or ZK (gW.or M5 (gW.or XX (gW.or Y9 Cq)))
noncomputable abbrev U6 (K:aa):R2:=fun x y H Q=>rI ML (fun i j=>.int (i*j)) x y H Q∨Ck x y H Q∨VT K x y H Q
theorem WZ:gW X (i9 .Mult) (U6 X.K):=gW.or Am (gW.or Be YZ)
noncomputable def An:sP->Operator
 |.add=>.Add|.sub=>.Sub|.mul=>.Mult|.fdiv=>.FloorDiv|.mod=>.Mod|.pow=>.Pow
noncomputable def MF (K:aa):sP->R2
 |.add=>VU K
 |.sub=>JR fun i j=>.int (i-j)
 |.mul=>U6 K
 |.fdiv=>rI Cw fun i j=>.int (i / j)
 |.mod=>rI (fun _ j=>0<j) fun i j=>.int (i % j)
 |.pow=>rI Cp fun i j=>.int (i ^ j.toNat)
theorem Fk:∀ op:sP,gW X (i9 (An op)) (MF X.K op)
 |.add=>WA
 |.sub=>Cz
 |.mul=>WZ
 |.fdiv=>X3
 |.mod=>ZU
 |.pow=>Ai
theorem PD {K:aa}:∀(op:sP)(v v':V)(H:Hp)(Q Q':L2.VK),(∀ v H,Q v H->Q' v H)->MF K op v v' H Q->MF K op v v' H Q'
 |.add,v,v',H,Q,Q',h,z=>by
  rcases z with z|⟨i,j,e,e',l,q⟩|⟨a,b,xs,ys,e,e',s,s',n,l,q,q'⟩|⟨a,b,ys,e,e',s,s',q⟩|⟨l,b,xs,zs,e,e',s,s',n,q⟩
  ·exact .inl (HC _ _ _ _ _ h z)
  ·exact .inr (.inl ⟨i,j,e,e',l,h _ _ q⟩)
  ·exact .inr (.inr (.inl ⟨a,b,xs,ys,e,e',s,s',n,l,fun z=>h _ _ (q z),fun z p hp=>h _ _ (q' z p hp)⟩))
  ·exact .inr (.inr (.inr (.inl ⟨a,b,ys,e,e',s,s',h _ _ q⟩)))
  ·exact .inr (.inr (.inr (.inr ⟨l,b,xs,zs,e,e',s,s',n,fun p hp=>h _ _ (q p hp)⟩)))
 |.sub,v,v',H,Q,Q',h,z=>HC _ _ _ _ _ h z
 |.mul,v,v',H,Q,Q',h,z=>by
  rcases z with z|⟨l,k,xs,e,e',s,b1,b2,b3,q⟩|⟨l,k,xs,e,e',s,b1,b2,b3,b4,q0,q⟩
  ·exact .inl (xQ _ _ _ _ _ h z)
  ·exact .inr (.inl ⟨l,k,xs,e,e',s,b1,b2,b3,fun p hp=>h _ _ (q p hp)⟩)
  ·exact .inr (.inr ⟨l,k,xs,e,e',s,b1,b2,b3,b4,fun z=>h _ _ (q0 z),fun p hp=>h _ _ (q p hp)⟩)
 |.fdiv,v,v',H,Q,Q',h,z=>xQ _ _ _ _ _ h z
 |.mod,v,v',H,Q,Q',h,z=>xQ _ _ _ _ _ h z
 |.pow,v,v',H,Q,Q',h,z=>xQ _ _ _ _ _ h z
end
section
variable {K:aa}{H:Hp}{st:aA}{R:VK}
theorem Rep.int_inv {i:Int}{v:V}(r:Rep K H (.int i) v):v=.int i:=by cases r;rfl
theorem Rep.str_inv {x:List Nat}{v:V}(r:Rep K H (.str x) v):v=.str ⟨x.toArray⟩:=by cases r;rfl
theorem Rep.gH {b:Bool}{v:V}(r:Rep K H (.bl b) v):v=.bl b:=by cases r;rfl
theorem Rep.fS {v:V}(r:Rep K H .non v):v=.non:=by cases r;rfl
theorem Rep.cJ {a:Addr}{v:V}(r:Rep K H (.ref a) v):v=.ref a:=by cases r;rfl
theorem Rep.bM {ds:List D}{v:V}(r:Rep K H (.tup ds) v):∃ a vs,v=.ref a/\cX K H a vs/\aH K H ds vs:=by cases r with|tup h r=>exact⟨_,_,rfl,h,r⟩
theorem Rep.GD {ks vs:List D}{v:V}(r:Rep K H (.cY ks vs) v):∃ a,v=.ref a/\Em K a ks vs:=by cases r with|cY h=>exact⟨_,rfl,h⟩
theorem Rep.kC {ds:List D}{v:V}(r:Rep K H (.bL ds) v):∃ a vs,v=.ref a/\lF K H a vs/\aH K H ds vs:=by cases r with|bL h r=>exact⟨_,_,rfl,h,r⟩
set_option tactic.hygienic true in
theorem dZ {a:Nat}{P:List D->Prop}(h:cD st a P):∃ ds,st a=some (.lst ds)/\P ds:=by
 unfold cD at h
 split at h
 ·rename_i ds e;exact⟨ds,e,h⟩
 ·exact h.elim
set_option tactic.hygienic true in
theorem qQ {a:Nat}{P:List D->Prop}{M:List D->List D->Prop}(ok:aN K st H)(h:dY st a P M):∃ ds,st a=some (.lst ds)/\P ds:=by
 unfold dY at h
 split at h
 ·rename_i ds e;exact⟨ds,e,h⟩
 ·rename_i e;exact(ok _ _ e).elim
 ·exact h.elim
theorem fB {α:Type}{o:Option α}{P:α->Prop}(h:cV o P):∃ x,o=some x/\P x:=by
 unfold cV at h
 split at h
 ·exact⟨_,rfl,h⟩
 ·exact h.elim
theorem YL (x y:List Nat):(⟨x.toArray⟩:Str)++⟨y.toArray⟩=⟨(x++y).toArray⟩:=by
 show Str.mk _=Str.mk _
 simp
theorem aH.nil_inv {vs:List V}(r:aH K H [] vs):vs=[]:=by cases r;rfl
theorem aH.flat {ds:List D}{vs:List V}(r:aH K H ds vs):∀ k:Nat,aH K H (ay k ds).flatten (ay k vs).flatten
 |0=>.nil
 |k+1=>by simp only[jj,l4];exact r.append (aH.flat r k)
set_option tactic.hygienic true in
theorem PN {op:sP}{d d':D}{v v':V}(ok:aN K st H)(r:Rep K H d v)(r':Rep K H d' v')(h:iI op d d' st R):MF K op v v' H (QD K H st R):=by
 unfold iI at h
 split at h
 ·cases r.int_inv;cases r'.int_inv
  exact .inl ⟨_,_,rfl,rfl,.here ok (.int _) h⟩
 ·rename_i a b
  cases r.str_inv;cases r'.str_inv
  refine .inr (.inl ⟨_,_,rfl,rfl,?_,?_⟩)
  ·rw[fM];simpa [kf]using h.1
  ·rw[YL];exact .here ok (.str _) h.2
 ·rename_i ds es
  obtain⟨a,vs,rfl,s1,q1⟩:=r.bM
  obtain⟨b,us,rfl,s2,q2⟩:=r'.bM
  cases ds with
  |nil =>
   cases q1.nil_inv
   exact .inr (.inr (.inr (.inl ⟨a,b,us,rfl,rfl,s1,s2,.here ok r' (by simpa using h.2)⟩)))
  |cons d ds =>
   refine .inr (.inr (.inl ⟨a,b,vs,us,rfl,rfl,s1,s2,?_,?_,fun e=>?_,fun _ p hp=>.IJ ok (q1.append q2) hp h.2⟩))
   ·intro e;subst e;cases q1
   ·rw[fM,<-q1.length,<-q2.length];exact h.1
   ·subst e
    cases q2
    exact .here ok r (by simpa using h.2)
 ·rename_i a b
  cases r.cJ;cases r'.cJ
  obtain⟨xs,e1,h⟩:=dZ h
  obtain⟨ys,e2,h⟩:=dZ h
  obtain⟨vs,g1,q1⟩:=ok.lst e1
  obtain⟨us,g2,q2⟩:=ok.lst e2
  refine .inr (.inr (.inr (.inr ⟨a,b,vs,us,rfl,rfl,g1,g2,?_,fun p hp=>.gF ok (q1.append q2) hp h.2⟩)))
  rw[fM,<-q1.length,<-q2.length];simpa using h.1
 ·cases r.int_inv;cases r'.int_inv
  exact⟨_,_,rfl,rfl,.here ok (.int _) h⟩
 ·cases r.int_inv;cases r'.int_inv
  exact .inl ⟨_,_,rfl,rfl,h.1.imp (fun z=>z) (fun z=>z),.here ok (.int _) h.2⟩
 ·rename_i a k
  cases r.cJ;cases r'.int_inv
  obtain⟨xs,e1,h1,h2,h⟩:=dZ h
  obtain⟨vs,g1,q1⟩:=ok.lst e1
  refine .inr (.inl ⟨a,k,vs,rfl,rfl,g1,by omega,by omega,?_,fun p hp=>.gF ok (q1.flat _) hp h.2⟩)
  rw[fM,<-q1.length];exact h1
 ·rename_i xs k
  obtain⟨a,vs,rfl,f,g⟩:=r.bM
  cases r'.int_inv
  obtain⟨⟨c1,c2,c3,c4⟩,h⟩:=h
  refine .inr (.inr ⟨a,k,vs,rfl,rfl,f,by rw[<-g.length];exact c1,by rw[<-g.length];exact c2,c3,c4,fun e=>?_,fun p hp=>.IJ ok (g.flat _) hp h⟩)
  subst e
  have e1:(ay (1:Int).toNat xs).flatten=xs:=by simp
  rw[e1]at h
  exact .here ok r h
 ·cases r.int_inv;cases r'.int_inv
  exact⟨_,_,rfl,rfl,h.1,.here ok (.int _) h.2⟩
 ·cases r.int_inv;cases r'.int_inv
  exact⟨_,_,rfl,rfl,h.1,.here ok (.int _) h.2⟩
 ·cases r.int_inv;cases r'.int_inv
  exact⟨_,_,rfl,rfl,h.1,.here ok (.int _) h.2⟩
 ·exact h.elim
end
section
variable {X:Cx}{C:bC}{sub:Nat->Nat->Bool}{E:XK}{a b c e:Expr}{x y z:Ex}{pos:Pos}
theorem Gq {op:sP}(ha:PE X a (bR X.K (aE C sub E x)))(hb:PE X b (bR X.K (aE C sub E y))):PE X (.BinOp a (An op) b pos) (bR X.K (aE C sub E (.bin op x y))) :=
 (Iy (Fk op) ha hb).imp fun σ H Q ⟨σd,st,R,r,ok,q,hq⟩=>by
 exact two (W:=fun d d' aF=>iI op d d' aF R) r ok q hq (fun d d' v v' H2 aF bQ r1 r2 h=>PN bQ r1 r2 h) (PD op)
noncomputable def Np (d:D)(st:aA):Option Bool:=match d with
 |.non=>some false
 |.bl b=>some b
 |.int i=>some (i != 0)
 |.str x=>if x.length<=bD then some (!x.isEmpty)else none
 |.tup ds=>some (!ds.isEmpty)
 |.ref a=>match st a with
  |some (.lst ds)=>some (!ds.isEmpty)
  |some (.dic ks _)=>some (!ks.isEmpty)
  |some _=>none
  |none=>none
 |.bL ds=>some (!ds.isEmpty)
 |_=>none
set_option tactic.hygienic true in
theorem tS {d:D}{st:aA}{P:Bool->Prop}:eE d st P↔∃ k,Np d st=some k/\P k:=by
 cases d with
 |str x =>
  show(x.length<=bD/\P (!x.isEmpty))↔∃ k,(if x.length<=bD then some (!x.isEmpty)else none)=some k/\P k
  split
  ·rename_i h;exact⟨fun z=>⟨_,rfl,z.2⟩,fun⟨k,e,q⟩=>⟨h,by cases e;exact q⟩⟩
  ·rename_i h;exact⟨fun z=>(h z.1).elim,fun⟨k,e,q⟩=>by cases e⟩
 |ref a =>
  show dY st a _ _↔∃ k,(match st a with|some (.lst ds)=>some (!ds.isEmpty)|some (.dic ks _)=>some (!ks.isEmpty)|some _=>none|none=>none)=some k/\P k
  unfold dY
  cases st a with
  |none=>exact⟨fun z=>z.elim,fun⟨k,e,q⟩=>by cases e⟩
  |some o=>cases o with
   |lst ds=>exact⟨fun z=>⟨_,rfl,z⟩,fun⟨k,e,q⟩=>by cases e;exact q⟩
   |dic ks vs=>exact⟨fun z=>⟨_,rfl,z⟩,fun⟨k,e,q⟩=>by cases e;exact q⟩
   |ins _ _=>exact⟨fun z=>z.elim,fun⟨k,e,q⟩=>by cases e⟩
   |tab _ _=>exact⟨fun z=>z.elim,fun⟨k,e,q⟩=>by cases e⟩
   |fn _ _=>exact⟨fun z=>z.elim,fun⟨k,e,q⟩=>by cases e⟩
   |cod _=>exact⟨fun z=>z.elim,fun⟨k,e,q⟩=>by cases e⟩
 |cY _ _=>exact⟨fun z=>z.elim,fun⟨k,e,q⟩=>by cases e⟩
 |exc _=>exact⟨fun z=>z.elim,fun⟨k,e,q⟩=>by cases e⟩
 |_=>exact⟨fun z=>⟨_,rfl,z⟩,fun⟨k,e,q⟩=>by cases e;exact q⟩
theorem iF {α:Type}(x:List α):(!x.isEmpty)=(((x.length:Nat):Int) != 0):=by
 cases x with
 |nil=>rfl
 |cons a r =>
 simp only[yv,ox,a9]
 symm
 rw[bne_iff_ne];omega
set_option tactic.hygienic true in
theorem xC {K:aa}{H:Hp}{st:aA}{d:D}{v:V}{P:Bool->Prop}(ok:aN K st H)(r:Rep K H d v)(h:eE d st P):∃ k,SQ K v H k/\P k:=by
 unfold eE at h
 split at h
 ·cases r.fS;exact⟨_,rfl,h⟩
 ·cases r.gH;exact⟨_,rfl,h⟩
 ·cases r.int_inv;exact⟨_,rfl,h⟩
 ·rename_i x P
  cases r.str_inv
  refine⟨_,⟨by rw[fM];simpa [kf]using h.1,?_⟩,h.2⟩
  rw[iF];simp [kf]
 ·obtain⟨a,vs,rfl,s1,q1⟩:=r.bM
  refine⟨_,.inr (.inl ⟨vs,s1,?_⟩),h⟩
  rw[iF,iF,q1.length]
 ·cases r.cJ
  obtain⟨ds,e,h⟩:=qQ ok h
  obtain⟨vs,g,q⟩:=ok.lst e
  refine⟨_,.inl ⟨vs,eJ.of g,?_⟩,h⟩
  rw[iF,iF,q.length]
 ·obtain⟨a,vs,rfl,s1,q1⟩:=r.kC
  refine⟨_,.inl ⟨vs,s1.sq,?_⟩,h⟩
  rw[iF,iF,q1.length]
 ·exact h.elim
theorem SE (h:PE X e (bR X.K (aE C sub E x)))(he:∀ whole,Qv e X.env whole=(do let v <-whole;oq e.pos;kg [v] (Tj v))):PT X e (jC X.K (aE C sub E x)) :=
 (SO h he).imp fun σ H Q ⟨σd,st,R,r,ok,q,hq⟩=>by
 refine⟨σd,st,_,r,ok,q,fun v H1 ⟨d,aC,s1,aM,r1,q1⟩=>?_⟩
 obtain⟨k,t,z⟩:=xC aM r1 q1
 exact⟨k,t,hq _ _ ⟨aC,s1,aM,z⟩⟩
theorem Bv (h:PT X e (jC X.K (aE C sub E x))):PT X (.UnaryOp .Not e pos) (jC X.K (aE C sub E (.not_ x))) :=
 (ZV h).imp fun σ H Q ⟨σd,st,R,r,ok,q,hq⟩=>by
 exact⟨σd,st,fun b aB=>R (!b) aB,r,ok,q,fun b H1 z=>hq _ _ z⟩
theorem Kd (h:PE X e (bR X.K (aE C sub E x))):PE X (.UnaryOp .Not e pos) (bR X.K (aE C sub E (.not_ x))):=by
 intro pz s σ H Q I ⟨σd,st,R,r,ok,q,hq⟩
 refine UnaryOp_ (aY (h pz s σ H _ I ⟨σd,st,_,r,ok,q,fun v H' z=>z⟩) fun u s1 ⟨v,H1,I1,rv,d,aC,st1s,aM,r1,q1⟩=>?_)
 obtain⟨k,t,z⟩:=xC aM r1 q1
 exact not_of (aY (HG pz s1 σ H1 v u (fun b H'=>Q (.bl (!b)) H') I1 rv ⟨k,t,hq _ _ (.after st1s (.here aM (.bl _) z))⟩) fun b s2 ⟨H2,I2,w⟩=>⟨.bl (!b),H2,I2,rfl,w⟩)
theorem Dm {op:To}(h:PT X e (jC X.K (aE C sub E x))):PW X (.BoolOp op [e] pos) (jC X.K (aE C sub E x)):=by
 cases op
 ·exact YT h
 ·exact Co h
theorem ZN {rest:List Expr}(hC:bO C C)(ha:PT X a (jC X.K (aE C sub E x)))(hb:PW X (.BoolOp .And (b::rest) pos) (jC X.K (aE C sub E y))):PW X (.BoolOp .And (a::b::rest) pos) (jC X.K (aE C sub E (.and_ x y))) :=
 (ZM ha hb).imp fun σ H Q ⟨σd,st,R,r,ok,q,hq⟩=>by
 refine⟨σd,st,fun k aC=>if k=true then aE C sub E y σd aC (fun d aB=>eE d aB fun b=>R b aB)else R false aC,r,ok,aS hC (fun _ _ z=>z) x (fun d aC z=>?_) q,fun k H1 ⟨aC,s1,aM,z⟩=>?_⟩
 ·rw[tS]at z ⊢
  obtain⟨k,t,z⟩:=z
  refine⟨k,t,?_⟩
  cases k with
  |true=>exact z
  |false =>
  have z':eE d aC fun b=>R b aC:=z
  rw[tS]at z'
  obtain⟨k',t',z'⟩:=z'
  rw[t]at t';cases t'
  exact z'
 ·cases k with
  |true=>exact⟨σd,aC,R,r.step ok s1,aM,z,fun k H2 ⟨aF,s2,bQ,w⟩=>hq _ _ ⟨aF,s1.trans s2,bQ,w⟩⟩
  |false=>exact hq _ _ ⟨aC,s1,aM,z⟩
theorem Jn {rest:List Expr}(hC:bO C C)(ha:PT X a (jC X.K (aE C sub E x)))(hb:PW X (.BoolOp .Or (b::rest) pos) (jC X.K (aE C sub E y))):PW X (.BoolOp .Or (a::b::rest) pos) (jC X.K (aE C sub E (.or_ x y))) :=
 (Gg ha hb).imp fun σ H Q ⟨σd,st,R,r,ok,q,hq⟩=>by
 refine⟨σd,st,fun k aC=>if k=true then R true aC else aE C sub E y σd aC (fun d aB=>eE d aB fun b=>R b aB),r,ok,aS hC (fun _ _ z=>z) x (fun d aC z=>?_) q,fun k H1 ⟨aC,s1,aM,z⟩=>?_⟩
 ·rw[tS]at z ⊢
  obtain⟨k,t,z⟩:=z
  refine⟨k,t,?_⟩
  cases k with
  |false=>exact z
  |true =>
  have z':eE d aC fun b=>R b aC:=z
  rw[tS]at z'
  obtain⟨k',t',z'⟩:=z'
  rw[t]at t';cases t'
  exact z'
 ·cases k with
  |false=>exact⟨σd,aC,R,r.step ok s1,aM,z,fun k H2 ⟨aF,s2,bQ,w⟩=>hq _ _ ⟨aF,s1.trans s2,bQ,w⟩⟩
  |true=>exact hq _ _ ⟨aC,s1,aM,z⟩
theorem Jt {rest:List Expr}(ha:PE X a (bR X.K (aE C sub E x)))(hb:PE X (.BoolOp .And (b::rest) pos) (bR X.K (aE C sub E y))):PE X (.BoolOp .And (a::b::rest) pos) (bR X.K (aE C sub E (.and_ x y))):=by
 intro pz s σ H Q I ⟨σd,st,R,r,ok,q,hq⟩
 refine BoolOp_and (aY (ha pz s σ H _ I ⟨σd,st,_,r,ok,q,fun v H' z=>z⟩) fun u s1 ⟨v,H1,I1,rv,d,aC,st1s,aM,r1,q1⟩=>?_)
 obtain⟨k,t,z⟩:=xC aM r1 q1
 refine aY (HG pz s1 σ H1 v u (fun b H'=>b=k/\H'=H1) I1 rv ⟨k,t,rfl,rfl⟩) fun b s2 ⟨H2,I2,e,e'⟩=>?_
 subst e e'
 cases b with
 |true=>exact hb pz s2 σ H2 Q I2 ⟨σd,aC,R,r.step ok st1s,aM,z,fun v H' w=>hq _ _ (.after st1s w)⟩
 |false=>exact⟨v,H2,I2,rv,hq _ _ (.after st1s (.here aM r1 z))⟩
theorem Ji {op:To}(h:PE X e (bR X.K (aE C sub E x))):PE X (.BoolOp op [e] pos) (bR X.K (aE C sub E x)):=Cb h
end
end L3
end
section
namespace L3
open PySem PySem.Spec PyProof.Rows L2 PySem.SeqAt
mutual
theorem AU:∀ d:D,bH d=true->bT d d=true
 |.non,_=>rfl
 |.bl b,_=>by simp [bT]
 |.int i,_=>by simp [bT]
 |.str x,_=>by simp [bT]
 |.tup ds,h=>by simp only[bH]at h;simp only[bT];exact lO ds h
 |.ref _,h=>by simp [bH]at h
 |.cY _ _,h=>by simp [bH]at h
 |.bL _,h=>by simp [bH]at h
 |.exc _,h=>by simp [bH]at h
theorem lO:∀ ds:List D,bI ds=true->dI ds ds=true
 |[],_=>rfl
 |d::ds,h=>by
  simp only[bI,ar]at h
  simp only[dI,ar]
  exact⟨AU d h.1,lO ds h.2⟩
end
theorem mH:∀{ds:List D}{d:D},bI ds=true->d∈ds->bH d=true
 |e::ds,d,h,m=>by
  simp only[bI,ar]at h
  rcases List.mem_cons.mp m with rfl|m
  ·exact h.1
  ·exact mH h.2 m
theorem lM:∀{ds:List D}{d:D},d∈ds->dJ d<=cC ds
 |e::ds,d,m=>by
  simp only[cC]
  rcases List.mem_cons.mp m with rfl|m
  ·omega
  ·have:=lM m;omega
theorem AZ:∀{ds es:List D}(e:Nat->Bool),(∀ j d d',ds[j]? = some d->es[j]? = some d'->e j=bT d d')->((bb (min ds.length es.length)).all e&&ds.length==es.length)=dI ds es
 |[],[],e,h=>by simp [dI]
 |[],_::_,e,h=>by simp [dI]
 |_::_,[],e,h=>by simp [dI]
 |d::ds,d'::es,e,h=>by
  have ih:=AZ (fun j=>e (j+1)) fun j x x' e1 e2=>h (j+1) x x' (by simpa using e1) (by simpa using e2)
  have h0:=h 0 d d' rfl rfl
  simp only[dI,a9,vw,jo,p9,u6,oy]
  rw[<-ih,h0]
  have hl:(ds.length+1==es.length+1)=(ds.length==es.length):=by simp
  rw[hl,Rb]
theorem OO {ds es:List D}(e:Nat->Bool)(hl:ds.length=es.length)(h:∀ j d d',ds[j]? = some d->es[j]? = some d'->e j=bT d d'):(bb ds.length).all e=dI ds es:=by
 rw[<-AZ e h,<-hl];simp
theorem GO:∀{ds es:List D},ds.length≠es.length->dI ds es=false
 |[],[],h=>(h rfl).elim
 |[],_::_,h=>rfl
 |_::_,[],h=>rfl
 |d::ds,d'::es,h=>by simp only[dI,GO (ds:=ds) (es:=es) (by simpa using h),cq]
section
variable {X:Cx}{pz:List (Addr×Obj)}{σ:L2.St}{H:Hp}{s:ah}{st:aA}
theorem aO.at {vs:List V}{aD:List af}(r:aO vs aD){j:Nat}(h:j<aD.toArray.size):∃ v,vs[j]? = some v/\RelV v aD.toArray[j]:=by
 have hl:=r.length
 have hj:j<vs.length:=by simp at h;omega
 obtain⟨u,e1,e2⟩:=aO.get r (aj hj)
 refine⟨vs[j],aj hj,?_⟩
 rw[sh]at e1
 obtain⟨h1,e1⟩:=e1
 simp only[List.getElem_toArray,e1]
 exact e2
theorem aH.get' {K:aa}:∀{ds:List D}{vs:List V}{i:Nat}{v:V},aH K H ds vs->vs[i]? = some v->∃ d,ds[i]? = some d/\Rep K H d v
 |_,_,_,_,.nil,e=>by simp at e
 |_,_,0,_,.cons h _,e=>by simp at e;subst e;exact⟨_,rfl,h⟩
 |_,_,i+1,v,.cons _ r,e=>by
  obtain⟨d,e1,e2⟩:=aH.get' (i:=i) (v:=v) r (by simpa using e)
  exact⟨d,by simpa using e1,e2⟩
set_option tactic.hygienic true in
theorem yG (I:Inv X pz σ H s):∀(n:Nat){d d':D}{v:V},dJ d<=n->bH d=true->bH d'=true->Rep X.K H d v->Rep X.K H d' v->d=d':=by
 intro n
 induction n with
 |zero =>
 intro d d' v hn p p' r r'
 cases r<;>cases r'<;>first|rfl|(simp [bH]at p;done)|(simp [bH]at p';done)|(simp [dJ]at hn;done)
 |succ n ih =>
 intro d d' v hn p p' r r'
 cases r<;>cases r'<;>first|rfl|(simp [bH]at p;done)|(simp [bH]at p';done)|skip
 rename_i ds a vs h r es us r' h'
 cases I.lS h h'
 have go:∀(ds es:List D)(vs:List V),cC ds<=n->bI ds=true->bI es=true->aH X.K H ds vs->aH X.K H es vs->ds=es:=by
  intro ds
  induction ds with
  |nil=>intro es vs _ _ _ r r';cases r;cases r';rfl
  |cons d ds ihs =>
  intro es vs hd pp pp' r r'
  cases r with
  |cons r1 r2=>cases r' with
   |cons r1' r2' =>
   simp only[cC]at hd
   simp only[bI,ar]at pp pp'
   rw[ih (by omega) pp.1 pp'.1 r1 r1',ihs _ _ (by omega) pp.2 pp'.2 r2 r2']
 rw[go ds es vs (by simp only[dJ]at hn;omega) (by simpa [bH]using p) (by simpa [bH]using p') r r']
def uY (A:cp)(s:ah)(u u':af)(b:Bool):Prop:=RcAt A s u u' b/\EqAt A s u u' b/\RcNeAt A s u u' (!b)
noncomputable def nO:D->Bool
 |.non=>true
 |.bl _=>true
 |.int _=>true
 |.str _=>true
 |_=>false
theorem Dh (x y:List Nat):((⟨x.toArray⟩:Str)==⟨y.toArray⟩)=(x==y):=by
 rw[<-Ts]
theorem tM {K:aa}{H:Hp}{A:cp}{s:ah}{d d':D}{v v':V}{u u':af}(p:nO d=true)(p':nO d'=true)(r:Rep K H d v)(rv:RelV v u)(r':Rep K H d' v')(bB:RelV v' u'):uY A s u u' (bT d d'):=by
 cases d with
 |non=>cases d' with
  |non =>
   cases r.fS;cases rv
   cases r'.fS;cases bB
   exact⟨RcAt.none_none,Ry _,RcNeAt.none_none⟩
  |bl b' =>
   cases r.fS;cases rv
   cases r'.gH;cases bB
   simp only[bT]
   exact⟨RcAt.none_bool _,EqAt.none_bool _,RcNeAt.none_bool _⟩
  |int i' =>
   cases r.fS;cases rv
   cases r'.int_inv;obtain⟨_,rfl⟩:=bB
   simp only[bT]
   exact⟨RcAt.none_int _ _,EqAt.none_int _ _,RcNeAt.none_int _ _⟩
  |str x' =>
   cases r.fS;cases rv
   cases r'.str_inv;obtain⟨_,rfl⟩:=bB
   simp only[bT]
   exact⟨RcAt.none_str _ _,EqAt.none_str _ _,RcNeAt.none_str _ _⟩
  |_=>cases p'
 |bl b=>cases d' with
  |non =>
   cases r.gH;cases rv
   cases r'.fS;cases bB
   simp only[bT]
   exact⟨RcAt.bool_none _,EqAt.bool_none _,RcNeAt.bool_none _⟩
  |bl b' =>
   cases r.gH;cases rv
   cases r'.gH;cases bB
   simp only[bT]
   exact⟨RcAt.bool_bool _ _,EqAt.bool_bool _ _,RcNeAt.bool_bool _ _⟩
  |int i' =>
   cases r.gH;cases rv
   cases r'.int_inv;obtain⟨_,rfl⟩:=bB
   simp only[bT]
   exact⟨RcAt.bool_int _ _ _,EqAt.bool_int _ _ _,RcNeAt.bool_int _ _ _⟩
  |str x' =>
   cases r.gH;cases rv
   cases r'.str_inv;obtain⟨_,rfl⟩:=bB
   simp only[bT]
   exact⟨RcAt.bool_str _ _ _,EqAt.bool_str _ _ _,RcNeAt.bool_str _ _ _⟩
  |_=>cases p'
 |int i=>cases d' with
  |non =>
   cases r.int_inv;obtain⟨_,rfl⟩:=rv
   cases r'.fS;cases bB
   simp only[bT]
   exact⟨RcAt.int_none _ _,EqAt.int_none _ _,RcNeAt.int_none _ _⟩
  |bl b' =>
   cases r.int_inv;obtain⟨_,rfl⟩:=rv
   cases r'.gH;cases bB
   simp only[bT]
   exact⟨RcAt.int_bool _ _ _,EqAt.int_bool _ _ _,RcNeAt.int_bool _ _ _⟩
  |int i' =>
   cases r.int_inv;obtain⟨_,rfl⟩:=rv
   cases r'.int_inv;obtain⟨_,rfl⟩:=bB
   simp only[bT]
   exact⟨RcAt.int_int _ _ _ _,EqAt.int_int _ _ _ _,RcNeAt.int_int _ _ _ _⟩
  |str x' =>
   cases r.int_inv;obtain⟨_,rfl⟩:=rv
   cases r'.str_inv;obtain⟨_,rfl⟩:=bB
   simp only[bT]
   exact⟨RcAt.int_str _ _ _ _,EqAt.int_str _ _ _ _,RcNeAt.int_str _ _ _ _⟩
  |_=>cases p'
 |str x=>cases d' with
  |non =>
   cases r.str_inv;obtain⟨_,rfl⟩:=rv
   cases r'.fS;cases bB
   simp only[bT]
   exact⟨RcAt.str_none _ _,EqAt.str_none _ _,RcNeAt.str_none _ _⟩
  |bl b' =>
   cases r.str_inv;obtain⟨_,rfl⟩:=rv
   cases r'.gH;cases bB
   simp only[bT]
   exact⟨RcAt.str_bool _ _ _,EqAt.str_bool _ _ _,RcNeAt.str_bool _ _ _⟩
  |int i' =>
   cases r.str_inv;obtain⟨_,rfl⟩:=rv
   cases r'.int_inv;obtain⟨_,rfl⟩:=bB
   simp only[bT]
   exact⟨RcAt.str_int _ _ _ _,EqAt.str_int _ _ _ _,RcNeAt.str_int _ _ _ _⟩
  |str x' =>
   cases r.str_inv;obtain⟨_,rfl⟩:=rv
   cases r'.str_inv;obtain⟨_,rfl⟩:=bB
   have e:bT (.str x) (.str x')=((⟨x.toArray⟩:Str)==⟨x'.toArray⟩):=by rw[Dh];simp only[bT]
   rw[e]
   exact⟨RcAt.str_str _ _ _ _,EqAt.str_str _ _ _ _,RcNeAt.str_str _ _ _ _⟩
  |_=>cases p'
 |_=>cases p
theorem gO {K:aa}{H:Hp}{A:cp}{s:ah}{l:Addr}{aD:Array af}{d':D}{v':V}{u':af}(hl:s.heap.IsTuple l aD)(hu:A.units<cLine)(p':nO d'=true)(r':Rep K H d' v')(bB:RelV v' u'):uY A s (.ref l) u' false/\uY A s u' (.ref l) false:=by
 cases d' with
 |non =>
 cases r'.fS;cases bB
 exact⟨⟨RcAt.tuple_none hl hu,EqAt.tuple_none hl hu,RcNeAt.tuple_none hl hu⟩,⟨RcAt.none_tuple hl hu,EqAt.none_tuple hl hu,RcNeAt.none_tuple hl hu⟩⟩
 |bl b =>
 cases r'.gH;cases bB
 exact⟨⟨RcAt.tuple_bool _ hl hu,EqAt.tuple_bool _ hl hu,RcNeAt.tuple_bool _ hl hu⟩,⟨RcAt.bool_tuple _ hl hu,EqAt.bool_tuple _ hl hu,RcNeAt.bool_tuple _ hl hu⟩⟩
 |int i =>
 cases r'.int_inv;obtain⟨_,rfl⟩:=bB
 exact⟨⟨RcAt.tuple_int _ _ hl hu,EqAt.tuple_int _ _ hl hu,RcNeAt.tuple_int _ _ hl hu⟩,⟨RcAt.int_tuple _ _ hl hu,EqAt.int_tuple _ _ hl hu,RcNeAt.int_tuple _ _ hl hu⟩⟩
 |str x =>
 cases r'.str_inv;obtain⟨_,rfl⟩:=bB
 exact⟨⟨RcAt.tuple_str _ _ hl hu,EqAt.tuple_str _ _ hl hu,RcNeAt.tuple_str _ _ hl hu⟩,⟨RcAt.str_tuple _ _ hl hu,EqAt.str_tuple _ _ hl hu,RcNeAt.str_tuple _ _ hl hu⟩⟩
 |_=>cases p'
theorem kY {K:aa}{H:Hp}{A:cp}{s:ah}{l:Addr}{aD:Array af}{d':D}{v':V}{u':af}(hl:s.heap.IsList l aD)(hu:A.units<cLine)(p':nO d'=true)(r':Rep K H d' v')(bB:RelV v' u'):uY A s (.ref l) u' false/\uY A s u' (.ref l) false:=by
 cases d' with
 |non =>
 cases r'.fS;cases bB
 exact⟨⟨RcAt.list_none hl hu,EqAt.list_none hl hu,RcNeAt.list_none hl hu⟩,⟨RcAt.none_list hl hu,EqAt.none_list hl hu,RcNeAt.none_list hl hu⟩⟩
 |bl b =>
 cases r'.gH;cases bB
 exact⟨⟨RcAt.list_bool _ hl hu,EqAt.list_bool _ hl hu,RcNeAt.list_bool _ hl hu⟩,⟨RcAt.bool_list _ hl hu,EqAt.bool_list _ hl hu,RcNeAt.bool_list _ hl hu⟩⟩
 |int i =>
 cases r'.int_inv;obtain⟨_,rfl⟩:=bB
 exact⟨⟨RcAt.list_int _ _ hl hu,EqAt.list_int _ _ hl hu,RcNeAt.list_int _ _ hl hu⟩,⟨RcAt.int_list _ _ hl hu,EqAt.int_list _ _ hl hu,RcNeAt.int_list _ _ hl hu⟩⟩
 |str x =>
 cases r'.str_inv;obtain⟨_,rfl⟩:=bB
 exact⟨⟨RcAt.list_str _ _ hl hu,EqAt.list_str _ _ hl hu,RcNeAt.list_str _ _ hl hu⟩,⟨RcAt.str_list _ _ hl hu,EqAt.str_list _ _ hl hu,RcNeAt.str_list _ _ hl hu⟩⟩
 |_=>cases p'
theorem IW (I:Inv X pz σ H s){A:cp}{a b:Addr}{vs us:List V}{b0:Bool}(e:Nat->Bool)(ha:cX X.K H a vs)(hb:cX X.K H b us)(hu:A.units<cLine)(hs:a=b->b0=true)
  (he:∀ j v v' u u',vs[j]? = some v->us[j]? = some v'->RelV v u->RelV v' u'->EqAt A.in1 s u u' (e j))(hb0:((bb (min vs.length us.length)).all e&&vs.length==us.length)=b0):uY A s (.ref a) (.ref b) b0:=by
 obtain⟨aD,r1,p1,_⟩:=I.tuple ha
 obtain⟨jts,r2,p2,_⟩:=I.tuple hb
 have l1:aD.toArray.size=vs.length:=by rw[ao];exact r1.length.symm
 have l2:jts.toArray.size=us.length:=by rw[ao];exact r2.length.symm
 have hi:∀ j (h1:j<aD.toArray.size)(h2:j<jts.toArray.size),EqAt A.in1 s aD.toArray[j] jts.toArray[j] (e j):=fun j h1 h2=>by
  obtain⟨v,e1,q1⟩:=aO.at r1 h1
  obtain⟨v',e2,q2⟩:=aO.at r2 h2
  exact he j v v' _ _ e1 e2 q1 q2
 have rc:RcAt A s (.ref a) (.ref b) b0:=by
  have:=RcAt.tuples (e:=e) p1 p2 hu hi
  rw[l1,l2,hb0]at this
  exact this
 have rn:RcNeAt A s (.ref a) (.ref b) (!b0):=by
  have:=RcNeAt.tuples (e:=e) p1 p2 hu hi
  rw[l1,l2,hb0]at this
  exact this
 refine⟨rc,?_,rn⟩
 by_cases q:a=b
 ·rw[hs q,q];exact Ry _
 ·exact Sh q rc
theorem SI (I:Inv X pz σ H s){A:cp}{a b:Addr}{vs us:List V}{b0:Bool}(e:Nat->Bool)(ha:eJ X.K H a vs)(hb:eJ X.K H b us)(hu:A.units<cLine)(hs:a=b->b0=true)
  (he:∀ j v v' u u',vs[j]? = some v->us[j]? = some v'->RelV v u->RelV v' u'->EqAt A.in1 s u u' (e j))(hn:vs.length≠us.length->b0=false)(hb0:vs.length=us.length->(bb vs.length).all e=b0):uY A s (.ref a) (.ref b) b0:=by
 obtain⟨aD,r1,p1,_⟩:=I.list ha
 obtain⟨jts,r2,p2,_⟩:=I.list hb
 have l1:aD.toArray.size=vs.length:=by rw[ao];exact r1.length.symm
 have l2:jts.toArray.size=us.length:=by rw[ao];exact r2.length.symm
 have hi:∀ j (h1:j<aD.toArray.size)(h2:j<jts.toArray.size),EqAt A.in1 s aD.toArray[j] jts.toArray[j] (e j):=fun j h1 h2=>by
  obtain⟨v,e1,q1⟩:=aO.at r1 h1
  obtain⟨v',e2,q2⟩:=aO.at r2 h2
  exact he j v v' _ _ e1 e2 q1 q2
 have both:RcAt A s (.ref a) (.ref b) b0/\RcNeAt A s (.ref a) (.ref b) (!b0):=by
  by_cases hl:vs.length=us.length
  ·have:=RcAt.lists (e:=e) p1.isList p2.isList (by rw[l1,l2,hl]) hu hi
   have rn:=RcNeAt.lists (e:=e) p1.isList p2.isList (by rw[l1,l2,hl]) hu hi
   rw[l1,hb0 hl]at this rn
   exact⟨this,rn⟩
  ·rw[hn hl]
   have hz:(aD.toArray.size != jts.toArray.size)=true:=by rw[l1,l2,bne_iff_ne];exact hl
   exact⟨RcAt.lists_lengths p1.isList p2.isList hz hu,RcNeAt.lists_lengths p1.isList p2.isList hz hu⟩
 refine⟨both.1,?_,both.2⟩
 by_cases q:a=b
 ·rw[hs q,q];exact Ry _
 ·exact Sh q both.1
theorem sC {d:D}(p:bH d=true):nO d=true∨∃ ds,d=.tup ds:=by
 cases d<;>first|exact .inl rfl|exact .inr ⟨_,rfl⟩|cases p
theorem Pr (I:Inv X pz σ H s):∀(n:Nat){d d':D}{A:cp}{v v':V}{u u':af},dJ d<=n->bH d=true->bH d'=true->Rep X.K H d v->RelV v u->Rep X.K H d' v'->RelV v' u'->A.units+n+2<cLine ->
  uY A s u u' (bT d d'):=by
 intro n
 induction n with
 |zero =>
  intro d d' A v v' u u' hn p p' r rv r' bB hu
  have lY:A.units<cLine:=by omega
  rcases sC p with q|⟨ds,rfl⟩
  ·rcases sC p' with q'|⟨iZ,rfl⟩
   ·exact tM q q' r rv r' bB
   ·obtain⟨b,us,rfl,h2,q2⟩:=r'.bM
    cases bB
    obtain⟨aD,r1,p1,_⟩:=I.tuple h2
    have:=(gO p1 lY q r rv).2
    have e:bT d (.tup iZ)=false:=by cases d<;>first|rfl|cases q
    rw[e];exact this
  ·simp only[dJ]at hn;omega
 |succ n ih =>
  intro d d' A v v' u u' hn p p' r rv r' bB hu
  have lY:A.units<cLine:=by omega
  rcases sC p with q|⟨ds,rfl⟩
  ·rcases sC p' with q'|⟨iZ,rfl⟩
   ·exact tM q q' r rv r' bB
   ·obtain⟨b,us,rfl,h2,q2⟩:=r'.bM
    cases bB
    obtain⟨aD,r1,p1,_⟩:=I.tuple h2
    have:=(gO p1 lY q r rv).2
    have e:bT d (.tup iZ)=false:=by cases d<;>first|rfl|cases q
    rw[e];exact this
  ·obtain⟨a,vs,rfl,h1,q1⟩:=r.bM
   cases rv
   rcases sC p' with q'|⟨iZ,rfl⟩
   ·obtain⟨aD,r1,p1,_⟩:=I.tuple h1
    have:=(gO p1 lY q' r' bB).1
    have e:bT (.tup ds) d'=false:=by cases d'<;>first|rfl|cases q'
    rw[e];exact this
   ·obtain⟨b,us,rfl,h2,q2⟩:=r'.bM
    cases bB
    have pd:bI ds=true:=by simpa [bH]using p
    have pd':bI iZ=true:=by simpa [bH]using p'
    have e0:bT (.tup ds) (.tup iZ)=dI ds iZ:=by simp only[bT]
    rw[e0]
    refine IW I (fun j=>match ds[j]?,iZ[j]? with|some x,some y=>bT x y|_,_=>true) h1 h2 lY (fun e=>?_) (fun j v v' u u' e1 e2 rv bB=>?_) ?_
    ·subst e
     have:=yG I (dJ (.tup ds)) (av _) p p' r r'
     cases this
     exact lO ds pd
    ·obtain⟨x,f1,g1⟩:=aH.get' q1 e1
     obtain⟨y,f2,g2⟩:=aH.get' q2 e2
     simp only[f1,f2]
     have hx:=lM (bf f1)
     simp only[dJ]at hn
     exact(ih (by omega) (mH pd (bf f1)) (mH pd' (bf f2)) g1 rv g2 bB (by simp only[h9];omega)).2.1
    ·rw[<-q1.length,<-q2.length]
     exact AZ _ fun j x y e1 e2=>by simp only[e1,e2]
end
noncomputable def qG (st:aA):D->Option (List D)
 |.ref a=>match st a with
  |some (.lst xs)=>some xs
  |_=>none
 |.bL xs=>some xs
 |_=>none
theorem kinds {st:aA}{d:D}(p:gK st d=true):nO d=true∨(∃ ds,d=.tup ds/\gP st ds=true)∨∃ xs,qG st d=some xs/\bI xs=true/\cC xs<=lE:=by
 cases d with
 |tup ds=>exact .inr (.inl ⟨ds,rfl,by simpa [gK]using p⟩)
 |ref a =>
  simp only[gK]at p
  cases q:st a with
  |none=>rw[q]at p;cases p
  |some o=>cases o with
   |lst xs =>
    rw[q]at p
    simp only[UO,ar,decide_eq_true_eq]at p
    exact .inr (.inr ⟨xs,by simp [qG,q],p⟩)
   |dic _ _=>rw[q]at p;cases p
   |ins _ _=>rw[q]at p;cases p
   |tab _ _=>rw[q]at p;cases p
   |fn _ _=>rw[q]at p;cases p
   |cod _=>rw[q]at p;cases p
 |bL xs =>
  simp only[gK,ar,decide_eq_true_eq]at p
  exact .inr (.inr ⟨xs,rfl,p⟩)
 |cY _ _=>cases p
 |exc _=>cases p
 |_=>exact .inl rfl
set_option tactic.hygienic true in
theorem B8 {st:aA}{d d':D}{xs ys:List D}(h:qG st d=some xs)(h':qG st d'=some ys):bJ st d d'=dI xs ys:=by
 cases d with
 |ref a =>
  simp only[qG]at h
  split at h
  ·rename_i zs e
   cases h
   cases d' with
   |ref b =>
    simp only[qG]at h'
    split at h'
    ·rename_i ws e'
     cases h'
     simp only[bJ,e,e',B9]
    ·cases h'
   |bL ws=>cases h';simp only[bJ,e,B9]
   |_=>cases h'
  ·cases h
 |bL zs =>
  cases h
  cases d' with
  |ref b =>
   simp only[qG]at h'
   split at h'
   ·rename_i ws e'
    cases h'
    simp only[bJ,e',B9]
   ·cases h'
  |bL ws=>cases h';simp only[bJ]
  |_=>cases h'
 |_=>cases h
theorem CM {st:aA}{d d':D}{xs:List D}(h:qG st d=some xs)(p:nO d'=true):bJ st d d'=false/\bJ st d' d=false:=by
 cases d<;>first|(cases h;done)|skip
 all_goals (cases d'<;>first|(cases p;done)|exact⟨rfl,rfl⟩|(simp [bJ];done))
theorem HB {st:aA}{d:D}{ds xs:List D}(h:qG st d=some xs):bJ st d (.tup ds)=false/\bJ st (.tup ds) d=false:=by
 cases d<;>first|(cases h;done)|exact⟨rfl,rfl⟩|(simp [bJ];done)
theorem CF {st:aA}{d d':D}(p:nO d=true)(p':nO d'=true):bJ st d d'=bT d d':=by
 cases d<;>first|(cases p;done)|skip
 all_goals (cases d'<;>first|(cases p';done)|rfl|(simp [bJ,bT];done))
theorem JU {st:aA}{d:D}{ds:List D}(p:nO d=true):bJ st d (.tup ds)=false/\bJ st (.tup ds) d=false:=by
 cases d<;>first|(cases p;done)|exact⟨rfl,rfl⟩|(simp [bJ];done)
theorem gL {st:aA}:∀{ds:List D}{d:D},gP st ds=true->d∈ds->gK st d=true
 |e::ds,d,h,m=>by
  simp only[gP,ar]at h
  rcases List.mem_cons.mp m with rfl|m
  ·exact h.1
  ·exact gL h.2 m
theorem G6 {st:aA}:∀{ds es:List D}(e:Nat->Bool),(∀ j d d',ds[j]? = some d->es[j]? = some d'->e j=bJ st d d')->((bb (min ds.length es.length)).all e&&ds.length==es.length)=gA st ds es
 |[],[],e,h=>by simp [gA]
 |[],_::_,e,h=>by simp [gA]
 |_::_,[],e,h=>by simp [gA]
 |d::ds,d'::es,e,h=>by
  have ih:=G6 (fun j=>e (j+1)) fun j x x' e1 e2=>h (j+1) x x' (by simpa using e1) (by simpa using e2)
  have h0:=h 0 d d' rfl rfl
  simp only[gA,a9,vw,jo,p9,u6,oy]
  rw[<-ih,h0]
  have hl:(ds.length+1==es.length+1)=(ds.length==es.length):=by simp
  rw[hl,Rb]
section
variable {X:Cx}{pz:List (Addr×Obj)}{σ:L2.St}{H:Hp}{s:ah}{st:aA}
set_option tactic.hygienic true in
theorem gB {K:aa}{d:D}{v:V}{xs:List D}(ok:aN K st H)(h:qG st d=some xs)(r:Rep K H d v):∃ a vs,v=.ref a/\eJ K H a vs/\aH K H xs vs:=by
 cases r with
 |ref a =>
 simp only[qG]at h
 split at h
 ·rename_i zs e
  cases h
  obtain⟨vs,g,q⟩:=ok.lst e
  exact⟨a,vs,rfl,eJ.of g,q⟩
 ·cases h
 |bL f q=>cases h;exact⟨_,_,rfl,f.sq,q⟩
 |_=>cases h
theorem pU (I:Inv X pz σ H s):∀{ds es:List D}{vs:List V},bI ds=true->bI es=true->aH X.K H ds vs->aH X.K H es vs->ds=es
 |_,_,_,_,_,.nil,.nil=>rfl
 |_,_,_,p,p',.cons h r,.cons h' r'=>by
  simp only[bI,ar]at p p'
  rw[yG I _ (av _) p.1 p'.1 h h',pU I p.2 p'.2 r r']
theorem C6 (I:Inv X pz σ H s){a:Addr}{vs us:List V}(h:eJ X.K H a vs)(h':cX X.K H a us):False:=by
 obtain⟨aD,_,p1,_⟩:=I.list h
 obtain⟨jts,_,p2,_⟩:=I.tuple h'
 exact ne_of_list_tuple p1.isList p2 rfl
theorem YW (I:Inv X pz σ H s)(ok:aN X.K st H):∀(n:Nat){d d':D}{v:V},dJ d<=n->gK st d=true->gK st d'=true->Rep X.K H d v->Rep X.K H d' v->bJ st d d'=true:=by
 intro n
 induction n with
 |zero =>
  intro d d' v hn p p' r r'
  rcases kinds p with q|⟨ds,rfl,q⟩|⟨xs,q,q1,q2⟩
  ·rcases kinds p' with q'|⟨iZ,rfl,q'⟩|⟨ys,q',q1',q2'⟩
   ·rw[CF q q']
    have pd:bH d=true:=by cases d<;>first|rfl|cases q
    have pd':bH d'=true:=by cases d'<;>first|rfl|cases q'
    rw[yG I _ (av _) pd pd' r r']
    exact AU d' pd'
   ·obtain⟨a,vs,rfl,_⟩:=r'.bM
    cases r<;>cases q
   ·obtain⟨a,vs,rfl,_⟩:=gB ok q' r'
    cases r<;>cases q
  ·simp only[dJ]at hn;omega
  ·obtain⟨a,vs,rfl,f1,g1⟩:=gB ok q r
   rcases kinds p' with q'|⟨iZ,rfl,q'⟩|⟨ys,q',q1',q2'⟩
   ·cases r'<;>cases q'
   ·obtain⟨b,us,e,f2,g2⟩:=r'.bM
    cases e
    exact(C6 I f1 f2).elim
   ·obtain⟨b,us,e,f2,g2⟩:=gB ok q' r'
    cases e
    cases I.pY f1 f2
    rw[B8 q q',pU I q1 q1' g1 g2]
    exact lO _ q1'
 |succ n ih =>
  intro d d' v hn p p' r r'
  rcases kinds p with q|⟨ds,rfl,q⟩|⟨xs,q,q1,q2⟩
  ·rcases kinds p' with q'|⟨iZ,rfl,q'⟩|⟨ys,q',q1',q2'⟩
   ·rw[CF q q']
    have pd:bH d=true:=by cases d<;>first|rfl|cases q
    have pd':bH d'=true:=by cases d'<;>first|rfl|cases q'
    rw[yG I _ (av _) pd pd' r r']
    exact AU d' pd'
   ·obtain⟨a,vs,rfl,_⟩:=r'.bM
    cases r<;>cases q
   ·obtain⟨a,vs,rfl,_⟩:=gB ok q' r'
    cases r<;>cases q
  ·obtain⟨a,vs,rfl,f1,g1⟩:=r.bM
   rcases kinds p' with q'|⟨iZ,rfl,q'⟩|⟨ys,q',q1',q2'⟩
   ·cases r'<;>cases q'
   ·obtain⟨b,us,e,f2,g2⟩:=r'.bM
    cases e
    cases I.lS f1 f2
    simp only[dJ]at hn
    have go:∀(ds es:List D)(vs:List V),cC ds<=n->gP st ds=true->gP st es=true->aH X.K H ds vs->aH X.K H es vs->gA st ds es=true:=by
     intro ds
     induction ds with
     |nil=>intro es vs _ _ _ r r';cases r;cases r';rfl
     |cons d ds ihs =>
      intro es vs hd pp pp' r r'
      cases r with
      |cons r1 r2=>cases r' with
       |cons r1' r2' =>
        simp only[cC]at hd
        simp only[gP,ar]at pp pp'
        simp only[gA,ar]
        exact⟨ih (by omega) pp.1 pp'.1 r1 r1',ihs _ _ (by omega) pp.2 pp'.2 r2 r2'⟩
    simp only[bJ]
    exact go ds iZ vs (by omega) q q' g1 g2
   ·obtain⟨b,us,e,f2,g2⟩:=gB ok q' r'
    cases e
    exact(C6 I f2 f1).elim
  ·obtain⟨a,vs,rfl,f1,g1⟩:=gB ok q r
   rcases kinds p' with q'|⟨iZ,rfl,q'⟩|⟨ys,q',q1',q2'⟩
   ·cases r'<;>cases q'
   ·obtain⟨b,us,e,f2,g2⟩:=r'.bM
    cases e
    exact(C6 I f1 f2).elim
   ·obtain⟨b,us,e,f2,g2⟩:=gB ok q' r'
    cases e
    cases I.pY f1 f2
    rw[B8 q q',pU I q1 q1' g1 g2]
    exact lO _ q1'
theorem nC {A:cp}{l b:Addr}{aD jts:Array af}(hl:s.heap.IsList l aD)(hb:s.heap.IsTuple b jts)(hu:A.units<cLine):uY A s (.ref l) (.ref b) false/\uY A s (.ref b) (.ref l) false :=
 ⟨⟨RcAt.list_tuple hl hb hu,EqAt.list_tuple hl hb hu,RcNeAt.list_tuple hl hb hu⟩,⟨RcAt.tuple_list hb hl hu,EqAt.tuple_list hb hl hu,RcNeAt.tuple_list hb hl hu⟩⟩
theorem NX (I:Inv X pz σ H s){A:cp}{a b:Addr}{vs us:List V}{xs ys:List D}(f1:eJ X.K H a vs)(g1:aH X.K H xs vs)(f2:eJ X.K H b us)(g2:aH X.K H ys us)(p1:bI xs=true)(d1:cC xs<=lE)(p2:bI ys=true)
  (hu:A.units+85<cLine):uY A s (.ref a) (.ref b) (dI xs ys):=by
 refine SI I (fun j=>match xs[j]?,ys[j]? with|some x,some y=>bT x y|_,_=>true) f1 f2 (by omega) (fun e=>?_) (fun j v v' u u' e1 e2 rv bB=>?_) (fun h=>?_) (fun h=>?_)
 ·subst e
  cases I.pY f1 f2
  rw[pU I p1 p2 g1 g2]
  exact lO _ p2
 ·obtain⟨x,h1,k1⟩:=aH.get' g1 e1
  obtain⟨y,h2,k2⟩:=aH.get' g2 e2
  simp only[h1,h2]
  have hx:=lM (bf h1)
  have hD:lE=80:=rfl
  exact(Pr I lE (by omega) (mH p1 (bf h1)) (mH p2 (bf h2)) k1 rv k2 bB (by simp only[h9];omega)).2.1
 ·exact GO (by rw[g1.length,g2.length];exact h)
 ·rw[<-g1.length]
  exact OO _ (by rw[g1.length,g2.length];exact h) fun j x y e1 e2=>by simp only[e1,e2]
theorem NF (I:Inv X pz σ H s)(ok:aN X.K st H):∀(n:Nat){d d':D}{A:cp}{v v':V}{u u':af},dJ d<=n->gK st d=true->gK st d'=true->Rep X.K H d v->RelV v u->Rep X.K H d' v'->RelV v' u'->A.units+n+85<cLine ->
  uY A s u u' (bJ st d d'):=by
 intro n
 induction n with
 |zero =>
  intro d d' A v v' u u' hn p p' r rv r' bB hu
  have lY:A.units<cLine:=by omega
  rcases kinds p with q|⟨ds,rfl,q⟩|⟨xs,q,q1,q2⟩
  ·rcases kinds p' with q'|⟨iZ,rfl,q'⟩|⟨ys,q',q1',q2'⟩
   ·rw[CF q q'];exact tM q q' r rv r' bB
   ·obtain⟨b,us,rfl,h2,g2⟩:=r'.bM
    cases bB
    obtain⟨aD,r1,p1,_⟩:=I.tuple h2
    rw[(JU q).1]
    exact(gO p1 lY q r rv).2
   ·obtain⟨b,us,rfl,h2,g2⟩:=gB ok q' r'
    cases bB
    obtain⟨aD,r1,p1,_⟩:=I.list h2
    rw[(CM q' q).2]
    exact(kY p1.isList lY q r rv).2
  ·simp only[dJ]at hn;omega
  ·obtain⟨a,vs,rfl,f1,g1⟩:=gB ok q r
   cases rv
   obtain⟨aD,r1,p1,_⟩:=I.list f1
   rcases kinds p' with q'|⟨iZ,rfl,q'⟩|⟨ys,q',q1',q2'⟩
   ·rw[(CM q q').1]
    exact(kY p1.isList lY q' r' bB).1
   ·obtain⟨b,us,rfl,h2,g2⟩:=r'.bM
    cases bB
    obtain⟨jts,r2,p2,_⟩:=I.tuple h2
    rw[(HB q).1]
    exact(nC p1.isList p2 lY).1
   ·obtain⟨b,us,rfl,h2,g2⟩:=gB ok q' r'
    cases bB
    rw[B8 q q']
    exact NX I f1 g1 h2 g2 q1 q2 q1' (by omega)
 |succ n ih =>
  intro d d' A v v' u u' hn p p' r rv r' bB hu
  have lY:A.units<cLine:=by omega
  rcases kinds p with q|⟨ds,rfl,q⟩|⟨xs,q,q1,q2⟩
  ·rcases kinds p' with q'|⟨iZ,rfl,q'⟩|⟨ys,q',q1',q2'⟩
   ·rw[CF q q'];exact tM q q' r rv r' bB
   ·obtain⟨b,us,rfl,h2,g2⟩:=r'.bM
    cases bB
    obtain⟨aD,r1,p1,_⟩:=I.tuple h2
    rw[(JU q).1]
    exact(gO p1 lY q r rv).2
   ·obtain⟨b,us,rfl,h2,g2⟩:=gB ok q' r'
    cases bB
    obtain⟨aD,r1,p1,_⟩:=I.list h2
    rw[(CM q' q).2]
    exact(kY p1.isList lY q r rv).2
  ·obtain⟨a,vs,rfl,f1,g1⟩:=r.bM
   cases rv
   obtain⟨aD,r1,p1,_⟩:=I.tuple f1
   rcases kinds p' with q'|⟨iZ,rfl,q'⟩|⟨ys,q',q1',q2'⟩
   ·rw[(JU q').2]
    exact(gO p1 lY q' r' bB).1
   ·obtain⟨b,us,rfl,h2,g2⟩:=r'.bM
    cases bB
    have e0:bJ st (.tup ds) (.tup iZ)=gA st ds iZ:=by simp only[bJ]
    refine IW I (fun j=>match ds[j]?,iZ[j]? with|some x,some y=>bJ st x y|_,_=>true) f1 h2 lY (fun e=>?_) (fun j v v' u u' e1 e2 rv bB=>?_) ?_
    ·subst e
     exact YW I ok _ (av _) p p' r r'
    ·obtain⟨x,k1,l1⟩:=aH.get' g1 e1
     obtain⟨y,k2,l2⟩:=aH.get' g2 e2
     simp only[k1,k2]
     have hx:=lM (bf k1)
     simp only[dJ]at hn
     exact(ih (by omega) (gL q (bf k1)) (gL q' (bf k2)) l1 rv l2 bB (by simp only[h9];omega)).2.1
    ·rw[<-g1.length,<-g2.length,e0]
     exact G6 _ fun j x y e1 e2=>by simp only[e1,e2]
   ·obtain⟨b,us,rfl,h2,g2⟩:=gB ok q' r'
    cases bB
    obtain⟨jts,r2,p2,_⟩:=I.list h2
    rw[(HB q').2]
    exact(nC p2.isList p1 lY).2
  ·obtain⟨a,vs,rfl,f1,g1⟩:=gB ok q r
   cases rv
   obtain⟨aD,r1,p1,_⟩:=I.list f1
   rcases kinds p' with q'|⟨iZ,rfl,q'⟩|⟨ys,q',q1',q2'⟩
   ·rw[(CM q q').1]
    exact(kY p1.isList lY q' r' bB).1
   ·obtain⟨b,us,rfl,h2,g2⟩:=r'.bM
    cases bB
    obtain⟨jts,r2,p2,_⟩:=I.tuple h2
    rw[(HB q).1]
    exact(nC p1.isList p2 lY).1
   ·obtain⟨b,us,rfl,h2,g2⟩:=gB ok q' r'
    cases bB
    rw[B8 q q']
    exact NX I f1 g1 h2 g2 q1 q2 q1' (by omega)
end
def nB (X:Cx)(op:CmpOp)(W:D->D->aA->(Bool->Prop)->Prop):Prop :=
 ∀(pz:List (Addr×Obj))(s:ah)(σ:L2.St)(H:Hp)(st:aA)(d d':D)(v v':V)(u u':af)(P:Bool->Prop),Inv X pz σ H s->aN X.K st H->Rep X.K H d v->RelV v u->Rep X.K H d' v'->RelV v' u'->W d d' st P ->
 wpAny (model X.prog X.w) X.A (ub op u u') (fun r s'=>∃ k,r=.bool k/\P k/\Inv X pz σ H s') X.xe s
theorem BD (w:List Nat):∀ z:List Nat,occurs w z=true↔∃ i,i+w.length<=z.length/\(z.drop i).take w.length=w
 |[]=>by
  unfold occurs
  constructor
  ·intro h;rw[zm]at h;subst h;exact⟨0,by simp,by simp⟩
  ·rintro⟨i,h,_⟩;rw[zm];exact List.length_eq_zero_iff.mp (by simp only[bh]at h;omega)
 |c::r=>by
  unfold occurs
  rw[jh,BD w r,List.isPrefixOf_iff_prefix]
  constructor
  ·rintro(h|⟨i,h1,h2⟩)
   ·exact⟨0,by have:=h.length_le;omega,by rw[rz];exact(List.prefix_iff_eq_take.mp h).symm⟩
   ·exact⟨i+1,by simp;omega,by simpa using h2⟩
  ·rintro⟨i,h1,h2⟩
   cases i with
   |zero=>exact .inl (by rw[rz]at h2;rw[List.prefix_iff_eq_take];exact h2.symm)
   |succ i=>exact .inr ⟨i,by simp at h1;omega,by simpa using h2⟩
theorem DZ (w z:List Nat):(!(oh ⟨z.toArray⟩ ⟨w.toArray⟩ 0 (⟨z.toArray⟩:Str).length 1).isEmpty)=occurs w z:=by
 rw[dy,PySem.StrLaws.found_iff,BD]
 refine⟨fun⟨i,h1,h2⟩=>⟨i,by simpa [kf]using h1,?_⟩,fun⟨i,h1,h2⟩=>⟨i,by simpa [kf]using h1,?_⟩⟩
 ·unfold yw at h2
  have:=eq_of_beq h2
  simp only[kf,ao]at this
  have e:=congrArg yl this
  simp only[wg,si,uh]at e
  exact e
 ·unfold yw
  rw[beq_iff_eq]
  simp only[kf,ao]
  apply Array.toList_inj.mp
  simp only[wg,si,uh]
  exact h2
section
variable {X:Cx}{C:bC}{sub:Nat->Nat->Bool}{E:XK}{a b c e:Expr}{x y z:Ex}{pos:Pos}
theorem Mt (hu:X.A.units+180<cLine):nB X .Eq (cW .eq):=by
 intro pz s σ H st d d' v v' u u' P I ok r rv r' bB ⟨p,p',q⟩
 have hD:lE=80:=rfl
 exact(NF I ok 80 (by have:=p.2;omega) p.1 p'.1 r rv r' bB (by omega)).1 _ _ _ _ ⟨_,rfl,q,I⟩
theorem Ly (hu:X.A.units+180<cLine):nB X .NotEq (cW .ne):=by
 intro pz s σ H st d d' v v' u u' P I ok r rv r' bB ⟨p,p',q⟩
 have hD:lE=80:=rfl
 exact(NF I ok 80 (by have:=p.2;omega) p.1 p'.1 r rv r' bB (by omega)).2.2 _ _ _ _ ⟨_,rfl,q,I⟩
theorem FN {op:CmpOp}{o:nZ}{f:Int->Int->Bool}(hW:∀ d d' st P,cW o d d' st P=tR f d d' P)
  (rule:∀(i j:Int)(t u:Tok)(Q:af->ah->Prop)(s:ah),Q (.bool (f i j)) s->wpAny (model X.prog X.w) X.A (ub op (.int i t) (.int j u)) Q X.xe s):nB X op (cW o):=by
 intro pz s σ H st d d' v v' u u' P I ok r rv r' bB q
 rw[hW]at q
 unfold tR at q
 split at q
 ·cases r.int_inv;cases r'.int_inv
  obtain⟨t,rfl⟩:=rv
  obtain⟨t',rfl⟩:=bB
  exact rule _ _ _ _ _ _ ⟨_,rfl,q,I⟩
 ·exact q.elim
theorem Nz:nB X .Lt (cW .lt):=FN (fun _ _ _ _=>rfl) fun _ _ _ _ _ _ h=>lt_int h
theorem Mh:nB X .LtE (cW .le):=FN (fun _ _ _ _=>rfl) fun _ _ _ _ _ _ h=>le_int h
theorem Mn:nB X .Gt (cW .gt):=FN (fun _ _ _ _=>rfl) fun _ _ _ _ _ _ h=>gt_int h
theorem Nd:nB X .GtE (cW .ge):=FN (fun _ _ _ _=>rfl) fun _ _ _ _ _ _ h=>ge_int h
theorem PF {pz:List (Addr×Obj)}{s:ah}{σ:L2.St}{H:Hp}{a:Addr}{vs us:List V}(I:Inv X pz σ H s)(h:H a=some (.lst vs))(f:lF X.K H a us):False:=by
 rcases f with⟨o,e⟩|⟨o,_,_,e,_⟩
 ·rw[h]at e;cases e
 ·have:=(I.bs a o (I.ok.mod.kK a o e)).2
  rw[h]at this;cases this
set_option tactic.hygienic true in
theorem G1 {pz:List (Addr×Obj)}{s:ah}{σ:L2.St}{H:Hp}{st:aA}(I:Inv X pz σ H s)(ok:aN X.K st H):∀(n:Nat){d d':D}{v:V},dJ d<=n->gK st d=true->gK st d'=true->Rep X.K H d v->Rep X.K H d' v->d=d':=by
 have lists:∀{d d':D}{v:V}{xs ys:List D},qG st d=some xs->qG st d'=some ys->bI xs=true->bI ys=true->Rep X.K H d v->Rep X.K H d' v->d=d':=by
  intro d d' v xs ys q q' p p' r r'
  cases r with
  |ref a=>cases r' with
   |ref _=>rfl
   |bL f g =>
    simp only[qG]at q
    split at q
    ·rename_i e
     obtain⟨vs,h,_⟩:=ok.lst e
     exact(PF I h f).elim
    ·cases q
   |_=>cases q'
  |bL f g=>cases r' with
   |ref _ =>
    simp only[qG]at q'
    split at q'
    ·rename_i e
     obtain⟨vs,h,_⟩:=ok.lst e
     exact(PF I h f).elim
    ·cases q'
   |bL f' g' =>
    cases q;cases q'
    cases I.pY f.sq f'.sq
    rw[pU I p p' g g']
   |_=>cases q'
  |_=>cases q
 intro n
 induction n with
 |zero =>
  intro d d' v hn p p' r r'
  rcases kinds p with q|⟨ds,rfl,q⟩|⟨xs,q,q1,q2⟩
  ·cases r<;>cases r'<;>first|rfl|(cases q;done)|skip
  ·simp only[dJ]at hn;omega
  ·obtain⟨a,vs,rfl,f1,g1⟩:=gB ok q r
   rcases kinds p' with q'|⟨iZ,rfl,q'⟩|⟨ys,q',q1',q2'⟩
   ·cases r'<;>cases q'
   ·obtain⟨b,us,e,f2,g2⟩:=r'.bM
    cases e
    exact(C6 I f1 f2).elim
   ·exact lists q q' q1 q1' r r'
 |succ n ih =>
  intro d d' v hn p p' r r'
  rcases kinds p with q|⟨ds,rfl,q⟩|⟨xs,q,q1,q2⟩
  ·cases r<;>cases r'<;>first|rfl|(cases q;done)|skip
  ·obtain⟨a,vs,rfl,f1,g1⟩:=r.bM
   rcases kinds p' with q'|⟨iZ,rfl,q'⟩|⟨ys,q',q1',q2'⟩
   ·cases r'<;>cases q'
   ·obtain⟨b,us,e,f2,g2⟩:=r'.bM
    cases e
    cases I.lS f1 f2
    simp only[dJ]at hn
    have go:∀(ds es:List D)(vs:List V),cC ds<=n->gP st ds=true->gP st es=true->aH X.K H ds vs->aH X.K H es vs->ds=es:=by
     intro ds
     induction ds with
     |nil=>intro es vs _ _ _ r r';cases r;cases r';rfl
     |cons d ds ihs =>
      intro es vs hd pp pp' r r'
      cases r with
      |cons r1 r2=>cases r' with
       |cons r1' r2' =>
        simp only[cC]at hd
        simp only[gP,ar]at pp pp'
        rw[ih (by omega) pp.1 pp'.1 r1 r1',ihs _ _ (by omega) pp.2 pp'.2 r2 r2']
    rw[go ds iZ vs (by omega) q q' g1 g2]
   ·obtain⟨b,us,e,f2,g2⟩:=gB ok q' r'
    cases e
    exact(C6 I f2 f1).elim
  ·obtain⟨a,vs,rfl,f1,g1⟩:=gB ok q r
   rcases kinds p' with q'|⟨iZ,rfl,q'⟩|⟨ys,q',q1',q2'⟩
   ·cases r'<;>cases q'
   ·obtain⟨b,us,e,f2,g2⟩:=r'.bM
    cases e
    exact(C6 I f1 f2).elim
   ·exact lists q q' q1 q1' r r'
theorem EV {pz:List (Addr×Obj)}{s:ah}{σ:L2.St}{H:Hp}{st:aA}(I:Inv X pz σ H s)(ok:aN X.K st H){ds:List D}{vs:List V}{aD:List af}{d:D}{v:V}{u:af}{A:cp}
  (g:aH X.K H ds vs)(r:aO vs aD)(p:cZ st ds)(pd:plainS st d)(rd:Rep X.K H d v)(rv:RelV v u)(hu:A.units+178<cLine):
  ∃ e:af->Bool,(∀ y,y∈aD.toArray->EqAt A.in1 s y u (e y))/\aD.toArray.any e=ds.any fun d'=>bJ st d' d:=by
 classical
 have hD:lE=80:=rfl
 have item:∀(d':D)(v':V)(y:af),d'∈ds->Rep X.K H d' v'->RelV v' y->EqAt A.in1 s y u (bJ st d' d):=fun d' v' y m r' bB=>by
  have h1:=lM m
  have h2:=p.2
  exact(NF I ok 80 (by omega) (gL p.1 m) pd.1 r' bB rd rv (by simp only[h9];omega)).2.1
 let e:af->Bool:=fun y=>decide (∃ d' v',d'∈ds/\Rep X.K H d' v'/\RelV v' y/\bJ st d' d=true)
 have he:∀(d':D)(v':V)(y:af),d'∈ds->Rep X.K H d' v'->RelV v' y->e y=bJ st d' d:=fun d' v' y m r' bB=>by
  show decide _=_
  cases q:bJ st d' d with
  |true=>exact decide_eq_true ⟨d',v',m,r',bB,q⟩
  |false =>
   refine decide_eq_false fun⟨d2,v2,m2,r2,rv2,q2⟩=>?_
   cases RelV.inj bB rv2
   have:=G1 I ok _ (av _) (gL p.1 m) (gL p.1 m2) r' r2
   subst this
   rw[q]at q2;cases q2
 refine⟨e,fun y hy=>?_,?_⟩
 ·obtain⟨j,hj,rfl⟩:=Array.mem_iff_getElem.mp hy
  obtain⟨v',e1,e2⟩:=aO.at r hj
  obtain⟨d',e3,e4⟩:=aH.get' g e1
  rw[he d' v' _ (bf e3) e4 e2]
  exact item d' v' _ (bf e3) e4 e2
 ·have go:∀(es:List D)(vs:List V)(aD:List af),(∀ d∈es,d∈ds)->aH X.K H es vs->aO vs aD->aD.any e=es.any fun d'=>bJ st d' d:=by
   intro es
   induction es with
   |nil=>intro vs aD _ g r;cases g;cases r;rfl
   |cons d1 es ih =>
    intro vs aD hm g r
    cases g with
    |cons g1 g2=>cases r with
     |cons r1 r2 =>
      simp only[iq]
      rw[he d1 _ _ (hm d1 (by simp)) g1 r1,ih _ _ (fun d m=>hm d (by simp [m])) g2 r2]
  rw[List.any_toArray]
  exact go ds vs aD (fun _ m=>m) g r
theorem P7 (k x:Str):(decide (k=x))=(x.cps.toList==k.cps.toList):=by
 by_cases h:k=x
 ·subst h;simp
 ·rw[decide_eq_false h]
  symm
  refine beq_eq_false_iff_ne.mpr fun e=>h ?_
  obtain⟨⟨k⟩⟩:=k
  obtain⟨⟨x⟩⟩:=x
  have e:x=k:=e
  subst e;rfl
theorem DT {pz:List (Addr×Obj)}{s:ah}{σ:L2.St}{H:Hp}{a:Addr}{T:List (Str×PyData)}(I:Inv X pz σ H s)(h:wc tw (fun b=>X.K.lookup b) a T=true):KTD.Here s.heap s.heap a (T.map fun p=>(p.1,va p.2)) :=
 ⟨(KTD.tab_of_look (fun d v=>KTD.flat_of_looks) (fun a o e=>I.iN a o e) h).text,fun _ _ e=>e⟩
theorem LU (k:List Nat):∀(T:List (Str×PyData)),KTD.inKeys (⟨k.toArray⟩:Str) (T.map fun p=>(p.1,va p.2))=(T.map fun p=>D.str p.1.cps.toList).any fun d=>bT d (.str k)
 |[]=>rfl
 |(x,d)::T=>by
  show(decide ((⟨k.toArray⟩:Str)=x)||KTD.inKeys _ _)=((x.cps.toList==k)||_)
  rw[LU k T,P7]
theorem Bh (hu:X.A.units+180<cLine):nB X .In (cW .in_)/\nB X .NotIn (cW .gE):=by
 have main:∀(neg:Bool)(pz:List (Addr×Obj))(s:ah)(σ:L2.St)(H:Hp)(st:aA)(d d':D)(v v':V)(u u':af)(P:Bool->Prop),Inv X pz σ H s->aN X.K st H->Rep X.K H d v->RelV v u->Rep X.K H d' v'->RelV v' u' ->
   HM d d' st (fun b=>P (if neg then !b else b))->wpAny (model X.prog X.w) X.A (ub (if neg then .NotIn else .In) u u') (fun r s'=>∃ k,r=.bool k/\P k/\Inv X pz σ H s') X.xe s:=by
  intro neg pz s σ H st d d' v v' u u' P I ok r rv r' bB q
  have lst:∀(a:Addr)(vs:List V)(ds:List D),eJ X.K H a vs->aH X.K H ds vs->plainS st d->cZ st ds->P (if neg then !(ds.any fun d'=>bJ st d' d)else ds.any fun d'=>bJ st d' d) ->
    wpAny (model X.prog X.w) X.A (ub (if neg then .NotIn else .In) u (.ref a)) (fun r s'=>∃ k,r=.bool k/\P k/\Inv X pz σ H s') X.xe s:=by
   intro a vs ds f g pd ps q
   obtain⟨aD,r1,p1,_⟩:=I.list f
   obtain⟨e,he,ha⟩:=EV I ok g r1 ps pd r rv (A:=X.A) (by omega)
   rw[<-ha]at q
   cases neg with
   |true=>exact notIn_listAt e p1.isList he ⟨_,rfl,q,I⟩
   |false=>exact in_listAt e p1.isList he ⟨_,rfl,q,I⟩
  unfold HM at q
  split at q
  ·obtain⟨a,vs,rfl,f,g⟩:=r'.bM
   cases bB
   obtain⟨aD,r1,p1,_⟩:=I.tuple f
   obtain⟨pd,ps,q⟩:=q
   obtain⟨e,he,ha⟩:=EV I ok g r1 ps pd r rv (A:=X.A) (by omega)
   rw[<-ha]at q
   cases neg with
   |true=>exact notIn_tupleAt e p1 he ⟨_,rfl,q,I⟩
   |false=>exact in_tupleAt e p1 he ⟨_,rfl,q,I⟩
  ·cases r'.cJ
   cases bB
   obtain⟨ds,e1,pd,ps,q⟩:=qQ ok q
   obtain⟨vs,g1,g2⟩:=ok.lst e1
   exact lst _ vs ds (eJ.of g1) g2 pd ps q
  ·obtain⟨a,rfl,T,h1,_,h2,_⟩:=r'.GD
   cases bB
   cases r.str_inv
   obtain⟨t,rfl⟩:=rv
   rw[h2,<-LU]at q
   cases neg with
   |true=>exact KTD.notin_text (DT I h1) ⟨_,rfl,q,I.tok _⟩
   |false=>exact KTD.in_text (DT I h1) ⟨_,rfl,q,I.tok _⟩
  ·obtain⟨a,vs,rfl,f,g⟩:=r'.kC
   cases bB
   exact lst a vs _ f.sq g q.1 q.2.1 q.2.2
  ·cases r.str_inv;cases r'.str_inv
   cases neg with
   |true =>
    refine aY (G3 (X:=X) pz s σ H _ _ _ _ (fun v H'=>H'=H/\∃ k,v=.bl k/\P k) I rv bB ⟨_,_,rfl,rfl,rfl,_,rfl,?_⟩) fun r s1 ⟨v,H',I1,r1,e,k,e',q'⟩=>?_
    ·rw[DZ];exact q
    ·subst e e';cases r1;exact⟨k,rfl,q',I1⟩
   |false =>
    refine aY (P5 (X:=X) pz s σ H _ _ _ _ (fun v H'=>H'=H/\∃ k,v=.bl k/\P k) I rv bB ⟨_,_,rfl,rfl,rfl,_,rfl,?_⟩) fun r s1 ⟨v,H',I1,r1,e,k,e',q'⟩=>?_
    ·rw[DZ];exact q
    ·subst e e';cases r1;exact⟨k,rfl,q',I1⟩
  ·exact q.elim
 exact⟨fun pz s σ H st d d' v v' u u' P I ok r rv r' bB q=>main false pz s σ H st d d' v v' u u' P I ok r rv r' bB q,fun pz s σ H st d d' v v' u u' P I ok r rv r' bB q=>main true pz s σ H st d d' v v' u u' P I ok r rv r' bB q⟩
theorem E1 {K:aa}{H:Hp}{d:D}{v:V}{u:af}(r:Rep K H d v)(rv:RelV v u):(u==g6)=FP d:=by
 rw[rv.R1]
 cases r<;>rfl
set_option tactic.hygienic true in
theorem Ak:nB X .Is (cW .is_)/\nB X .IsNot (cW .isnot):=by
 constructor
 ·intro pz s σ H st d d' v v' u u' P I ok r rv r' bB q
  have q:BW d d' P:=q
  unfold BW at q
  split at q
  ·cases r'.fS;cases bB
   exact is_none_gen ⟨_,rfl,by rw[E1 r rv];exact q,I⟩
  ·rename_i b
   cases r'.gH;cases bB
   cases r with
   |bl c=>cases rv;exact is_bool ⟨_,rfl,q,I⟩
   |non=>cases rv;exact kl rfl (by intro z;cases z) ⟨_,rfl,q,I⟩
   |int i=>obtain⟨t,rfl⟩:=rv;exact kl rfl (by intro z;cases z) ⟨_,rfl,q,I⟩
   |str z=>obtain⟨t,rfl⟩:=rv;exact kl rfl (by intro z;cases z) ⟨_,rfl,q,I⟩
   |tup _ _=>cases rv;exact kl rfl (by intro z;cases z) ⟨_,rfl,q,I⟩
   |ref _=>cases rv;exact kl rfl (by intro z;cases z) ⟨_,rfl,q,I⟩
   |bL _ _=>cases rv;exact kl rfl (by intro z;cases z) ⟨_,rfl,q,I⟩
   |cY _=>cases rv;exact kl rfl (by intro z;cases z) ⟨_,rfl,q,I⟩
  ·exact q.elim
 ·intro pz s σ H st d d' v v' u u' P I ok r rv r' bB q
  have q:BW d d' (fun b=>P (!b)):=q
  unfold BW at q
  split at q
  ·cases r'.fS;cases bB
   exact isnot_none_gen ⟨_,rfl,by rw[E1 r rv];exact q,I⟩
  ·rename_i b
   cases r'.gH;cases bB
   cases r with
   |bl c=>cases rv;exact isnot_bool ⟨_,rfl,q,I⟩
   |non=>cases rv;exact je rfl (by intro z;cases z) ⟨_,rfl,q,I⟩
   |int i=>obtain⟨t,rfl⟩:=rv;exact je rfl (by intro z;cases z) ⟨_,rfl,q,I⟩
   |str z=>obtain⟨t,rfl⟩:=rv;exact je rfl (by intro z;cases z) ⟨_,rfl,q,I⟩
   |tup _ _=>cases rv;exact je rfl (by intro z;cases z) ⟨_,rfl,q,I⟩
   |ref _=>cases rv;exact je rfl (by intro z;cases z) ⟨_,rfl,q,I⟩
   |bL _ _=>cases rv;exact je rfl (by intro z;cases z) ⟨_,rfl,q,I⟩
   |cY _=>cases rv;exact je rfl (by intro z;cases z) ⟨_,rfl,q,I⟩
  ·exact q.elim
noncomputable def jK:nZ->CmpOp
 |.eq=>.Eq|.ne=>.NotEq|.lt=>.Lt|.le=>.LtE|.gt=>.Gt|.ge=>.GtE|.is_=>.Is|.isnot=>.IsNot|.in_=>.In|.gE=>.NotIn
theorem yP (hu:X.A.units+180<cLine):∀ o:nZ,nB X (jK o) (cW o)
 |.eq=>Mt hu
 |.ne=>Ly hu
 |.lt=>Nz
 |.le=>Mh
 |.gt=>Mn
 |.ge=>Nd
 |.is_=>Ak.1
 |.isnot=>Ak.2
 |.in_=>(Bh hu).1
 |.gE=>(Bh hu).2
theorem Gc {o:nZ}(hu:X.A.units+180<cLine)(ha:PE X a (bR X.K (aE C sub E x)))(hb:PE X b (bR X.K (aE C sub E y)))(hm:nr (jK o) b=false):PE X (.Compare a [jK o] [b] pos) (bR X.K (aE C sub E (.cmp o x y))):=by
 intro pz s σ H Q I ⟨σd,st,R,r,ok,q,hq⟩
 refine wpAny_Compare1 (aY (ha pz s σ H _ I ⟨σd,st,_,r,ok,q,fun v H' z=>z⟩) fun u s1 ⟨v,H1,I1,rv,d,aC,cQ,aM,r1,q1⟩ =>
 aY (hb pz s1 σ H1 _ I1 ⟨σd,aC,_,r.step ok cQ,aM,q1,fun v H' z=>z⟩) fun u' s2 ⟨v',H2,I2,bB,d',aF,fL,bQ,r2,q2⟩ =>
 aY (yP hu o pz s2 σ H2 aF d d' v v' u u' _ I2 bQ (r1.step aM fL) rv r2 bB q2) fun w s3 ⟨k,e,q3,I3⟩=>?_) hm
 subst e
 exact⟨.bl k,H2,I3,rfl,hq _ _ (.after (cQ.trans fL) (.here bQ (.bl k) q3))⟩
theorem Fg {o:nZ}(hu:X.A.units+180<cLine)(ha:PE X a (bR X.K (aE C sub E x)))(hb:PE X b (bR X.K (aE C sub E y)))(hm:nr (jK o) b=false):PT X (.Compare a [jK o] [b] pos) (jC X.K (aE C sub E (.cmp o x y))):=by
 intro pz s σ H Q I ⟨σd,st,R,r,ok,q,hq⟩
 refine vy (aY (ha pz s σ H _ I ⟨σd,st,_,r,ok,q,fun v H' z=>z⟩) fun u s1 ⟨v,H1,I1,rv,d,aC,cQ,aM,r1,q1⟩ =>
 aY (hb pz s1 σ H1 _ I1 ⟨σd,aC,_,r.step ok cQ,aM,q1,fun v H' z=>z⟩) fun u' s2 ⟨v',H2,I2,bB,d',aF,fL,bQ,r2,q2⟩ =>
 aY (yP hu o pz s2 σ H2 aF d d' v v' u u' _ I2 bQ (r1.step aM fL) rv r2 bB q2) fun w s3 ⟨k,e,q3,I3⟩=>?_) hm
 subst e
 exact jc ⟨H2,I3,hq _ _ ⟨aF,cQ.trans fL,bQ,q3⟩⟩
theorem V8 {o o':nZ}(hu:X.A.units+180<cLine)(ha:PE X a (bR X.K (aE C sub E x)))(hb:PE X b (bR X.K (aE C sub E y)))(hc:PE X c (bR X.K (aE C sub E z)))(hm:zo [jK o,jK o'] [b,c]=false):
 PE X (.Compare a [jK o,jK o'] [b,c] pos) (bR X.K (aE C sub E (.chain o o' x y z))):=by
 intro pz s σ H Q I ⟨σd,st,R,r,ok,q,hq⟩
 refine Compare_chain (aY (ha pz s σ H _ I ⟨σd,st,_,r,ok,q,fun v H' z=>z⟩) fun u s1 ⟨v,H1,I1,rv,d,aC,cQ,aM,r1,q1⟩ =>
 chain_link (aY (hb pz s1 σ H1 _ I1 ⟨σd,aC,_,r.step ok cQ,aM,q1,fun v H' z=>z⟩) fun u' s2 ⟨v',H2,I2,bB,d',aF,fL,bQ,r2,q2⟩ =>
 aY (yP hu o pz s2 σ H2 aF d d' v v' u u' _ I2 bQ (r1.step aM fL) rv r2 bB q2) fun w s3 ⟨k,e,q3,I3⟩=>?_)) hm
 subst e
 refine jc ?_
 cases k with
 |false=>exact ite_ff ⟨.bl false,H2,I3,rfl,hq _ _ (.after (cQ.trans fL) (.here bQ (.bl _) q3))⟩
 |true =>
 refine ite_tt (chain_last (aY (hc pz s3 σ H2 _ I3 ⟨σd,aF,_,(r.step ok cQ).step aM fL,bQ,q3,fun v H' z=>z⟩) fun u3 s4 ⟨v3,H4,I4,rv3,d3,cN,s4s,tH,r4,q4⟩ =>
  aY (yP hu o' pz s4 σ H4 cN d' d3 v' v3 u' u3 _ I4 tH (r2.step bQ s4s) bB r4 rv3 q4) fun w s5 ⟨k,e,q5,I5⟩=>?_))
 subst e
 exact⟨.bl k,H4,I5,rfl,hq _ _ (.after ((cQ.trans fL).trans s4s) (.here tH (.bl k) q5))⟩
theorem SF {o o':nZ}(hu:X.A.units+180<cLine)(ha:PE X a (bR X.K (aE C sub E x)))(hb:PE X b (bR X.K (aE C sub E y)))(hc:PE X c (bR X.K (aE C sub E z)))(hm:zo [jK o,jK o'] [b,c]=false):
 PT X (.Compare a [jK o,jK o'] [b,c] pos) (jC X.K (aE C sub E (.chain o o' x y z))):=by
 intro pz s σ H Q I ⟨σd,st,R,r,ok,q,hq⟩
 refine isTrue_chain (aY (ha pz s σ H _ I ⟨σd,st,_,r,ok,q,fun v H' z=>z⟩) fun u s1 ⟨v,H1,I1,rv,d,aC,cQ,aM,r1,q1⟩ =>
 test_link (aY (hb pz s1 σ H1 _ I1 ⟨σd,aC,_,r.step ok cQ,aM,q1,fun v H' z=>z⟩) fun u' s2 ⟨v',H2,I2,bB,d',aF,fL,bQ,r2,q2⟩ =>
 aY (yP hu o pz s2 σ H2 aF d d' v v' u u' _ I2 bQ (r1.step aM fL) rv r2 bB q2) fun w s3 ⟨k,e,q3,I3⟩=>?_)) hm
 subst e
 refine jc ?_
 cases k with
 |false=>exact ite_ff ⟨H2,I3,hq _ _ ⟨aF,cQ.trans fL,bQ,q3⟩⟩
 |true =>
 refine ite_tt (test_last (aY (hc pz s3 σ H2 _ I3 ⟨σd,aF,_,(r.step ok cQ).step aM fL,bQ,q3,fun v H' z=>z⟩) fun u3 s4 ⟨v3,H4,I4,rv3,d3,cN,s4s,tH,r4,q4⟩ =>
  aY (yP hu o' pz s4 σ H4 cN d' d3 v' v3 u' u3 _ I4 tH (r2.step bQ s4s) bB r4 rv3 q4) fun w s5 ⟨k,e,q5,I5⟩=>?_))
 subst e
 exact jc ⟨H4,I5,hq _ _ ⟨cN,(cQ.trans fL).trans s4s,tH,q5⟩⟩
end
end L3
end
section
namespace L3
open PySem PySem.Spec PyProof.Rows PyProof.V L2
section
variable {X:Cx}{C:bC}{sub:Nat->Nat->Bool}{E:XK}{a b c e:Expr}{x y z:Ex}{pos:Pos}
theorem ZY (n:Nat)(i:Int):L2.mV n i=mV n i:=rfl
theorem C2 {K:aa}{H:Hp}{ds:List D}{vs:List V}{i:Int}{d:D}(r:aH K H ds vs)(h:eM ds i=some d):∃ v,L2.eM vs i=some v/\Rep K H d v:=by
 unfold eM at h
 unfold L2.eM
 rw[ZY,<-r.length]
 cases e:mV ds.length i with
 |none=>rw[e]at h;cases h
 |some j =>
 rw[e]at h
 obtain⟨v,e1,e2⟩:=r.get (i:=j) h
 exact⟨v,e1,e2⟩
noncomputable def Z6 (K:aa):R2:=fun x y H Q=>∃(p:Addr)(T:List (Str×PyData))(k:Str)(d:Ra),x=.ref p/\y=.str k/\wc tw (fun b=>K.lookup b) p T=true/\qc k T=some d/\mY d=true/\∀ v u,RelV v u->Flat u d->Q v H
noncomputable def MM (K:aa):R2:=fun x y H Q=>Ld K x y H Q∨Z6 K x y H Q
theorem tP {k:Str}{d:Ra}:∀{T:List (Str×PyData)},qc k T=some d->qc k (T.map fun p=>(p.1,va p.2))=some (.flat d)
 |[],h=>by cases h
 |(x,e)::T,h=>by
  show(if decide (k=x)=true then some (va e)else _)=_
  have h:(if decide (k=x)=true then some e else qc k T)=some d:=h
  by_cases c:decide (k=x)=true
  ·rw[if_pos c]at h ⊢;cases h;rfl
  ·rw[if_neg c]at h ⊢;exact tP h
theorem Ic {X:Cx}:uZ X (Z6 X.K):=by
 intro value slice pz s σ H x y v u Q I rx ry h hs
 obtain⟨p,T,k,d,rfl,rfl,hT,hd,hsd,q⟩:=h
 cases rx
 obtain⟨t,rfl⟩:=ry
 have hh:=DT I hT
 refine subscriptTail_builtin_flat hh.typeIs slot_dict_getitem.lookup ?_ hs
 unfold uz
 try with_reducible refine gq ?_
 refine ae (tj hh.typeIs (by decide) ?_)
 refine ae (fy (name:=ik "__getitem__") hh.typeIs yx
  (fk yx hh.typeIs entry_dict_getitem ?_ (args_dict_getitem _ _)))
 show wpAny _ _ (dictGet p (.str k t) >>= _) _ _ s
 refine ae (KTD.dictGet_text hh (fun d' v ha hv=>?_) fun hn=>?_)
 ·rw[tP hd]at ha
  cases ha
  have hv:Flat v d:=hv
  refine ak ⟨v,rfl,ak ⟨Flat.notRef hv,?_⟩⟩
  obtain⟨w,rw'⟩:∃ w,RelV w v:=by
   cases d with
   |none=>cases Flat.none_inv hv;exact⟨.non,rfl⟩
   |bool b=>cases Flat.bool_inv hv;exact⟨.bl b,rfl⟩
   |int i=>obtain⟨t,rfl⟩:=Flat.int_inv hv;exact⟨.int i,⟨t,rfl⟩⟩
   |str x=>obtain⟨t,rfl⟩:=Flat.str_inv hv;exact⟨.str x,⟨t,rfl⟩⟩
   |_=>cases hsd
  exact⟨w,H,I.tok _,rw',q w v rw' hv⟩
 ·rw[tP hd]at hn;cases hn
theorem Eu {X:Cx}:uZ X (MM X.K):=Ax.or Ic
theorem QY {K:aa}(v v':V)(H:Hp)(Q Q':L2.VK)(h:∀ v H,Q v H->Q' v H)(z:MM K v v' H Q):MM K v v' H Q':=by
 rcases z with z|⟨p,T,k,d,e,e',e1,e2,e3,q⟩
 ·refine .inl ?_
  rcases z with⟨p,xs,i,v,e,e',s,t,q⟩|⟨p,xs,i,v,e,e',s,t,q⟩|⟨z,i,c,e,e',s,t,q⟩
  ·exact .inl ⟨p,xs,i,v,e,e',s,t,h _ _ q⟩
  ·exact .inr (.inl ⟨p,xs,i,v,e,e',s,t,h _ _ q⟩)
  ·exact .inr (.inr ⟨z,i,c,e,e',s,t,h _ _ q⟩)
 ·exact .inr ⟨p,T,k,d,e,e',e1,e2,e3,fun v u r f=>h _ _ (q v u r f)⟩
theorem IF {k:List Nat}{d:D}:∀{T:List (Str×PyData)},(T.all fun p=>mY p.2)=true->uL (T.map fun p=>.str p.1.cps.toList) (T.map fun p=>qO p.2) (.str k)=some d->∃ e,qc (⟨k.toArray⟩:Str) T=some e/\mY e=true/\d=qO e
 |[],_,h=>by cases h
 |(x,e)::T,a,h=>by
  simp only[p9,ar]at a
  have h:(if(x.cps.toList==k)=true then some (qO e)else uL (T.map fun p=>.str p.1.cps.toList) (T.map fun p=>qO p.2) (.str k))=some d:=h
  show ∃ e',(if decide ((⟨k.toArray⟩:Str)=x)=true then some e else qc _ T)=some e'/\_
  rw[P7]
  by_cases c:(x.cps.toList==k)=true
  ·rw[if_pos c]at h;cases h
   exact⟨e,if_pos c,a.1,rfl⟩
  ·rw[if_neg c]at h
   obtain⟨e',h1,h2⟩:=IF a.2 h
   exact⟨e',(if_neg c).trans h1,h2⟩
theorem TX {K:aa}{H:Hp}{e:Ra}{v:V}{u:af}(s:mY e=true)(r:RelV v u)(f:Flat u e):Rep K H (qO e) v:=by
 cases e with
 |none=>cases Flat.none_inv f;cases RelV.inj r (show RelV .non .none from rfl);exact .non
 |bool b=>cases Flat.bool_inv f;cases RelV.inj r (show RelV (.bl b) (.bool b)from rfl);exact .bl b
 |int i=>obtain⟨t,rfl⟩:=Flat.int_inv f;cases RelV.inj r (show RelV (.int i) (.int i t)from⟨t,rfl⟩);exact .int i
 |str x=>obtain⟨t,rfl⟩:=Flat.str_inv f;cases RelV.inj r (show RelV (.str x) (.str x t)from⟨t,rfl⟩);exact .str x.cps.toList
 |_=>cases s
theorem RU {K:aa}{H:Hp}{st:aA}{R:VK}{d d':D}{v v':V}(ok:aN K st H)(r:Rep K H d v)(r':Rep K H d' v')(h:sF d d' st R):MM K v v' H (QD K H st R):=by
 unfold sF at h
 split at h
 ·obtain⟨a,vs,rfl,f,g⟩:=r.bM
  cases r'.int_inv
  obtain⟨d,e,q⟩:=fB h
  obtain⟨v,e1,e2⟩:=C2 g e
  exact .inl (.inr (.inl ⟨a,vs,_,v,rfl,rfl,f,e1,.here ok e2 q⟩))
 ·obtain⟨a,vs,rfl,f,g⟩:=r.kC
  cases r'.int_inv
  obtain⟨d,e,q⟩:=fB h
  obtain⟨v,e1,e2⟩:=C2 g e
  exact .inl (.inl ⟨a,vs,_,v,rfl,rfl,f.sq,e1,.here ok e2 q⟩)
 ·cases r.str_inv
  cases r'.int_inv
  obtain⟨l,h⟩:=h
  obtain⟨c,e,q⟩:=fB h
  exact .inl (.inr (.inr ⟨_,_,c,rfl,rfl,by rw[fM];simpa [kf]using l,e,.here ok (.str [c]) q⟩))
 ·obtain⟨a,rfl,T,h1,h2,h3,h4⟩:=r.GD
  cases r'.str_inv
  obtain⟨d,e,q⟩:=fB h
  rw[h3,h4]at e
  obtain⟨e',e1,e2,rfl⟩:=IF h2 e
  exact .inr ⟨a,T,_,e',rfl,rfl,h1,e1,e2,fun v u r f=>.here ok (TX e2 r f) q⟩
 ·cases r.cJ
  obtain⟨ds,e,q⟩:=qQ ok h
  obtain⟨vs,g1,g2⟩:=ok.lst e
  split at q
  ·cases r'.int_inv
   obtain⟨d,e,q⟩:=fB q
   obtain⟨v,e1,e2⟩:=C2 g2 e
   exact .inl (.inl ⟨_,vs,_,v,rfl,rfl,eJ.of g1,e1,.here ok e2 q⟩)
  ·exact q.elim
 ·exact h.elim
theorem Na (ha:PE X a (bR X.K (aE C sub E x)))(hb:PE X b (bR X.K (aE C sub E y)))(hp:rV b):PE X (.Subscript a b pos) (bR X.K (aE C sub E (.ix x y))) :=
 (UP Eu ha hb hp).imp fun σ H Q ⟨σd,st,R,r,ok,q,hq⟩=>by
 exact two (W:=fun d d' aF=>sF d d' aF R) r ok q hq (fun d d' v v' H2 aF bQ r1 r2 h=>RU bQ r1 r2 h) QY
theorem vC {prog:br}{w:dg}{A:cp}{E:af->ah->Prop}{s:ah}{t sl:Addr}{items:Array af}{vl vu:af}{lo hi:Option Int}{Q:af->ah->Prop}(ht:IsTup s.heap t items)(hs:s.heap.IsSliceOf sl vl vu .none)(pl:uy vl lo)(pu:uy vu hi)
  (hw:HT.cA items.size 0 lo=0/\HT.cA items.size items.size hi=items.size)(h:Q (.ref t) s):wpAny (model prog w) A (uz (.ref t) (.ref sl)) Q E s:=by
 obtain⟨os,hos,hcs,hds⟩:=id hs
 have hTs:s.TypeIs (.ref sl) "slice":=⟨os,hos,hcs⟩
 unfold uz
 try with_reducible refine gq ?_
 first|refine ae (ak ?_)|skip
 refine ae (tj ht.typeIs (by decide) ?_)
 refine ae (fy (name:=ik "__getitem__") ht.typeIs gV
  (fk gV ht.typeIs w9 ?_ (yc _ _)))
 show wpAny _ _ (jy (.ref t) >>= _) _ _ s
 refine ae (xp ht ?_)
 refine ae (u0 hTs ?_)
 rw[if_pos (by decide)]
 refine ae (HT.pL hs pl pu ?_)
 have hyes:(((HT.cA items.size 0 lo:Nat):Int)==0&&(1:Int)==1&&(HT.cA items.size items.size hi-HT.cA items.size 0 lo)==items.size)=true:=by
  rw[hw.1,hw.2];simp
 show wpAny _ _ (if(((HT.cA items.size 0 lo:Nat):Int)==0&&(1:Int)==1&&(HT.cA items.size items.size hi-HT.cA items.size 0 lo)==items.size)=true then _ else _) _ _ s
 rw[if_pos hyes]
 have hex:∀{Q:Bool->ah->Prop},Q true s->wpAny (model prog w) A.in1 (r0 (.ref t)) Q E s:=fun h=>by
  unfold r0
  exact ae (u0 ht.typeIs (ak h))
 refine ae (hex ?_)
 rw[if_pos rfl]
 exact ae (r6 (ak ⟨_,rfl,ak h⟩))
theorem QM (n d:Nat)(o:Option Int):HT.cA n d o=cA n d o:=rfl
theorem aH.cut {K:aa}{H:Hp}{ds:List D}{vs:List V}(r:aH K H ds vs)(lo hi:Option Int):aH K H (cut ds lo hi) (cut vs lo hi):=by
 unfold L3.cut
 rw[r.length]
 exact(r.drop _).take _
def Fh (K:aa):V->Option Int->Option Int->Hp->L2.VK->Prop:=fun x lo hi H Q=>∃ a xs,x=.ref a/\cX K H a xs/\(HT.cA xs.length 0 lo=0/\HT.cA xs.length xs.length hi=xs.length)/\Q (.ref a) H
theorem W4:wY X (Fh X.K):=by
 intro pz s σ H x v vl vu lo hi sl Q I rx hs pl pu h
 obtain⟨a,xs,rfl,hx,hw,q⟩:=h
 cases rx
 obtain⟨aD,r,ht,hz⟩:=I.tuple hx
 have hlen:aD.toArray.size=xs.length:=by rw[ao];exact r.length.symm
 refine⟨"tuple", _,PyProof.Rows.slot_tuple_getitem.lookup,ht.typeIs,?_⟩
 exact vC ht hs pl pu (by rw[hlen];exact hw) ⟨.ref a,H,I,rfl,q⟩
abbrev As (K:aa):V->Option Int->Option Int->Hp->L2.VK->Prop:=fun x lo hi H Q=>Dt K x lo hi H Q∨Fh K x lo hi H Q∨Z5 K x lo hi H Q
theorem Ea:wY X (As X.K):=wY.or L2.HL (wY.or W4 YY)
set_option tactic.hygienic true in
theorem T2 {K:aa}{H:Hp}{st:aA}{R:VK}{Q:L2.VK}{d:D}{v:V}{lo hi:Option Int}(ok:aN K st H)(r:Rep K H d v)(h:BS d lo hi st R)(hq:∀ v H',QD K H st R v H'->Q v H'):As K v lo hi H Q:=by
 unfold BS at h
 split at h
 ·rename_i ds0
  obtain⟨a,vs,rfl,f,g⟩:=r.bM
  by_cases hw:HT.cA vs.length 0 lo=0/\HT.cA vs.length vs.length hi=vs.length
  ·refine .inr (.inl ⟨a,vs,rfl,f,hw,hq _ _ (.here ok r ?_)⟩)
   have e:L3.cut ds0 lo hi=ds0:=by
    unfold L3.cut
    rw[g.length,<-QM,<-QM,hw.1,hw.2,rz,Nat.sub_zero,<-g.length,List.take_length]
   rw[e]at h
   exact h
  ·exact .inl ⟨a,vs,rfl,f,hw,fun p hp=>hq _ _ (.IJ ok (g.cut lo hi) hp h)⟩
 ·cases r.cJ
  obtain⟨ds,e,h⟩:=dZ h
  obtain⟨vs,g1,g2⟩:=ok.lst e
  exact .inr (.inr ⟨_,vs,rfl,eJ.of g1,fun p hp=>hq _ _ (.gF ok (g2.cut lo hi) hp h)⟩)
 ·exact h.elim
inductive DG (K:aa)(te:St->aA->(List D->aA->Prop)->Prop)(σ:L2.St)(H:Hp)(Q:Option Int->Hp->Prop):Prop where
 |mk (σd:St)(st:aA)(R:Option Int->aA->Prop)(r:dA K H σd σ)(ok:aN K st H)(q:te σd st (fun ds aB=>nI ds fun o=>R o aB))(hq:∀(o:Option Int) H',QX K H st (R o) H'->Q o H'):DG K te σ H Q
theorem _root_.L2.PO.imp {X:Cx}{e:Option Expr}{t t':TO}(i:∀ σ H Q,t' σ H Q->t σ H Q)(h:PO X e t):PO X e t':=fun pz s σ H Q I q=>h pz s σ H Q I (i σ H Q q)
theorem WX:PO X none (DG X.K (bG C sub E [])) :=
 X7.imp fun σ H Q ⟨σd,st,R,r,ok,q,hq⟩=>by
 exact hq _ _ ⟨st,.refl,ok,q⟩
theorem XG (h:PE X e (bR X.K (aE C sub E x))):PO X (some e) (DG X.K (bG C sub E [x])) :=
 (WS h).imp fun σ H Q ⟨σd,st,R,r,ok,q,hq⟩=>by
 refine⟨σd,st,_,r,ok,q,fun v H1 ⟨d,aC,s1,aM,r1,q1⟩=>?_⟩
 cases d with
 |int i=>cases r1.int_inv;exact⟨i,rfl,hq _ _ ⟨aC,s1,aM,q1⟩⟩
 |_=>exact q1.elim
theorem Od {lo hi:Option Expr}{xl xh:List Ex}{p2:Pos}(ha:PE X a (bR X.K (aE C sub E x)))(hl:PO X lo (DG X.K (bG C sub E xl)))(hh:PO X hi (DG X.K (bG C sub E xh))):
 PE X (.Subscript a (.Slice lo hi none p2) pos) (bR X.K (aE C sub E (.sl x xl xh))) :=
 (SR Ea ha hl hh).imp fun σ H Q ⟨σd,st,R,r,ok,q,hq⟩=>by
 refine⟨σd,st,_,r,ok,q,fun v H1 ⟨d,aC,s1,aM,r1,q1⟩=>?_⟩
 refine⟨σd,aC,_,r.step ok s1,aM,q1,fun lo H2 ⟨aF,s2,bQ,q2⟩=>?_⟩
 refine⟨σd,aF,_,(r.step ok s1).step aM s2,bQ,q2,fun hi H3 ⟨bK,s3,vA,q3⟩=>?_⟩
 exact T2 vA ((r1.step aM s2).step bQ s3) q3 fun v H' z=>hq _ _ (.after ((s1.trans s2).trans s3) z)
def vJ (X:Cx)(f:af)(W:List D->aA->VK->Prop):Prop :=
 ∀(pz:List (Addr×Obj))(s:ah)(σ:L2.St)(H:Hp)(st:aA)(ds:List D)(vs:List V)(us:List af)(R:VK),Inv X pz σ H s->aN X.K st H->aH X.K H ds vs->aO vs us->W ds st R ->
 wpAny (model X.prog X.w) X.A (call f us) (EP X pz σ (QD X.K H st R)) X.xe s
inductive Cr (K:aa)(W:List D->aA->VK->Prop)(vs:List V)(H:Hp)(Q:L2.VK):Prop where
 |mk (ds:List D)(st:aA)(R:VK)(r:aH K H ds vs)(ok:aN K st H)(q:W ds st R)(hq:∀ v H',QD K H st R v H'->Q v H'):Cr K W vs H Q
theorem vJ.call {f:af}{W:List D->aA->VK->Prop}(h:vJ X f W):uC X f (Cr X.K W):=fun pz s σ H vs us Q I rv ⟨ds,st,R,r,ok,q,hq⟩ =>
 aY (h pz s σ H st ds vs us R I ok r rv q) fun u s' ⟨v,H',I',r',z⟩=>⟨v,H',I',r',hq _ _ z⟩
theorem GW {K:aa}{W:List D->aA->VK->Prop}{xs:List Ex}{σ:L2.St}{H:Hp}{Q:L2.VK}(h:bR K (fun σ st R=>bG C sub E xs σ st fun ds aB=>W ds aB R) σ H Q):Ef (Cr K W) (jB K (bG C sub E xs)) σ H Q:=by
 obtain⟨σd,st,R,r,ok,q,hq⟩:=h
 refine⟨σd,st,_,r,ok,q,fun vs H1 ⟨ds,aC,s1,aM,r1,q1⟩=>?_⟩
 exact⟨ds,aC,R,r1,aM,q1,fun v H' z=>hq _ _ (.after s1 z)⟩
theorem Jm {W:List D->aA->VK->Prop}{n:Str}{id:String}{p:Pos}{es:List Expr}{xs:List Ex}(hW:vJ X (.builtin id) W)(hg:Gl X n)(hm:X.mg n=none)(hv:cz n=some (.builtin id))(ha:PA X (e::es) (jB X.K (bG C sub E xs)))
 (hn:n ≠"__name__")(hdb:(n==("__debug__" : Str))=false)(he:ai (e::es) X.env=(false,eval e X.env)::ai es X.env)(dC:(dh pos (ai es X.env)).any (·.1)=false):
 PE X (.Call (.Name n p) (e::es) [] pos) (bR X.K fun σ st R=>bG C sub E xs σ st fun ds aB=>W ds aB R) :=
 (IX hW.call hg hm hv ha hn hdb he dC).imp fun σ H Q h=>GW h
theorem Ep {W:List D->aA->VK->Prop}{n:Str}{T:String}{p:Pos}{es:List Expr}{xs:List Ex}(hW:vJ X (.type T) W)(hg:Gl X n)(hm:X.mg n=none)(hv:cz n=some (.type T))(ha:PA X (e::es) (jB X.K (bG C sub E xs)))
 (hn:n ≠"__name__")(hdb:(n==("__debug__" : Str))=false)(he:ai (e::es) X.env=(false,eval e X.env)::ai es X.env)(dC:(dh pos (ai es X.env)).any (·.1)=false):
 PE X (.Call (.Name n p) (e::es) [] pos) (bR X.K fun σ st R=>bG C sub E xs σ st fun ds aB=>W ds aB R) :=
 (PC hW.call hg hm hv ha hn hdb he dC).imp fun σ H Q h=>GW h
theorem aH.one {K:aa}{H:Hp}{d:D}{vs:List V}(r:aH K H [d] vs):∃ v,vs=[v]/\Rep K H d v:=by
 cases r with|cons h r=>cases r;exact⟨_,rfl,h⟩
theorem OG {K:aa}{H:Hp}{st:aA}{d:D}{v:V}{P:Nat->Prop}(ok:aN K st H)(r:Rep K H d v)(h:oT d st P):∃ n,Z8 K v H n/\P n:=by
 unfold oT at h
 split at h
 ·obtain⟨a,vs,rfl,f,g⟩:=r.bM
  exact⟨_,.inr ⟨vs,f,g.length⟩,h⟩
 ·cases r.str_inv
  exact⟨_,⟨by rw[fM];simpa [kf]using h.1,by simp [kf]⟩,h.2⟩
 ·cases r.cJ
  obtain⟨ds,e,h⟩:=qQ ok h
  obtain⟨vs,g1,g2⟩:=ok.lst e
  exact⟨_,.inl ⟨vs,eJ.of g1,g2.length⟩,h⟩
 ·obtain⟨a,vs,rfl,f,g⟩:=r.kC
  exact⟨_,.inl ⟨vs,f.sq,g.length⟩,h⟩
 ·exact h.elim
theorem aZ:vJ X (.builtin "len") (gX .len):=by
 intro pz s σ H st ds vs us R I ok r rv q
 match ds,q with
 |[d],q =>
 have q:oT d st fun n=>R (.int (n:Nat)) st:=q
 obtain⟨v,rfl,rd⟩:=r.one
 obtain⟨n,l,q⟩:=OG ok rd q
 exact TU pz s σ H _ us _ I rv ⟨v,n,rfl,l,.here ok (.int _) q⟩
 |[],q=>exact(show False from q).elim
 |_::_::_,q=>exact(show False from q).elim
end
end L3
end
section
namespace L3
open PySem PySem.Spec PyProof.Rows L2
section
variable {X:Cx}{pz:List (Addr×Obj)}{σ:L2.St}{H:Hp}{s:ah}
def PH (K:aa)(H:Hp)(a:Addr)(vs:List V):Prop:=eJ K H a vs∨cX K H a vs
theorem JZ {A:cp}{E:af->ah->Prop}{a:Addr}{vs:List V}{Q:af->ah->Prop}(hh:A.handled=none)(I:Inv X pz σ H s)(h:PH X.K H a vs)
  (hQ:∀(aD:List af)(I0:Addr)(fp wr:List Addr)(St:Nat->Heap->Prop)(s₂:ah),aO vs aD->Walks X.prog X.w A I0 fp wr aD.length (fun i v=>aD[i]? = some v) St->St 0 s₂.heap->(∀ b∈fp,b<s₂.heap.objs.size) ->
   (∀ h' tk,(∀ b o,b∉wr->s₂.heap.get? b=some o->h'.get? b=some o)->Inv X pz σ H { s₂ with heap:=h',toks:=tk })->Q (.ref I0) s₂):wpAny (model X.prog X.w) A (vz (.ref a)) Q E s:=by
 rcases h with h|h
 ·obtain⟨aD,r,p,hz⟩:=I.list h
  have hl:=p.isList
  have eB:a<s.heap.objs.size:=by obtain⟨_,e,_⟩:=hl;exact bc e
  have W:=Walks.list (prog:=X.prog) (w:=X.w) (A:=A) hh s.heap.objs.size a (bz eB) aD.toArray
  have e1:aD.toArray.size=aD.length:=by simp
  have e2:(fun(i:Nat)(v:af)=>aD.toArray[i]? = some v)=fun i v=>aD[i]? = some v:=by funext i v;simp
  rw[e1,e2]at W
  refine yz hl (hQ aD s.heap.objs.size _ _ _ _ r W ⟨⟨_,aw _ rfl,rfl,rfl⟩,hl.push _⟩ (fun b hb=>?_) fun h' tk hk=>?_)
  ·show b<(s.heap.push _).objs.size
   rw[ff]
   rcases List.mem_cons.mp hb with rfl|hb
   ·exact gm _
   ·rcases List.mem_cons.mp hb with rfl|hb
    ·exact kd eB
    ·cases hb
  ·exact I.kept (t':=tk) (old_kept hk)
 ·obtain⟨aD,r,p,hz⟩:=I.tuple h
  have hl:s.heap.IsTuple a aD.toArray:=p
  have eB:a<s.heap.objs.size:=by obtain⟨_,e,_⟩:=hl;exact bc e
  have W:=Sz (prog:=X.prog) (w:=X.w) (A:=A) hh s.heap.objs.size a (bz eB) aD.toArray
  have e1:aD.toArray.size=aD.length:=by simp
  have e2:(fun(i:Nat)(v:af)=>aD.toArray[i]? = some v)=fun i v=>aD[i]? = some v:=by funext i v;simp
  rw[e1,e2]at W
  refine lh hl (hQ aD s.heap.objs.size _ _ _ _ r W ⟨⟨_,aw _ rfl,rfl,rfl⟩,hl.push _⟩ (fun b hb=>?_) fun h' tk hk=>?_)
  ·show b<(s.heap.push _).objs.size
   rw[ff]
   rcases List.mem_cons.mp hb with rfl|hb
   ·exact gm _
   ·rcases List.mem_cons.mp hb with rfl|hb
    ·exact kd eB
    ·cases hb
  ·refine I.kept (t':=tk) fun b o e=>hk b o (fun hm=>?_) (ag _ e)
   rcases List.mem_cons.mp hm with e1|hm
   ·exact absurd (e1▸Heap.lt_size e) (fj _)
   ·cases hm
theorem nW {K:aa}{st:aA}{d:D}{v:V}{P:List Nat->List D->Prop}(ok:aN K st H)(r:Rep K H d v)(h:eG d st P):∃ a vs as ds,v=.ref a/\PH K H a vs/\aH K H ds vs/\P as ds:=by
 unfold eG at h
 split at h
 ·obtain⟨a,vs,rfl,f,g⟩:=r.bM
  exact⟨a,vs,_,_,rfl,.inr f,g,h⟩
 ·cases r.cJ
  obtain⟨ds,e,h⟩:=dZ h
  obtain⟨vs,g1,g2⟩:=ok.lst e
  exact⟨_,vs,_,ds,rfl,.inl (eJ.of g1),g2,h⟩
 ·obtain⟨a,vs,rfl,f,g⟩:=r.kC
  exact⟨a,vs,_,_,rfl,.inl f.sq,g,h⟩
 ·exact h.elim
theorem A2 {K:aa}:∀{ds:List D}{vs:List V}{aD:List af}{bs:List Bool},boolsOf ds=some bs->aH K H ds vs->aO vs aD->aD=bs.map rb
 |_,_,_,_,h,.nil,.nil=>by cases h;rfl
 |d::ds,_,_,bs,h,.cons r1 r2,.cons v1 v2=>by
  cases d with
  |bl b =>
   simp only[boolsOf,dz]at h
   obtain⟨bs',e,rfl⟩:=h
   cases r1.gH
   cases v1
   rw[A2 e r2 v2];rfl
  |_=>simp [boolsOf]at h
theorem all_range (bs:List Bool):(bb bs.length).all (fun i=>(bs[i]?).getD true)=bs.all id:=by
 induction bs with
 |nil=>rfl
 |cons b bs ih =>
 simp only[a9,jo,p9,u6,oy,om,km,kn,id]
 rw[<-ih]
theorem any_range (bs:List Bool):(bb bs.length).any (fun i=>(bs[i]?).getD true)=bs.any id:=by
 induction bs with
 |nil=>rfl
 |cons b bs ih =>
 simp only[a9,jo,iq,oz,oy,om,km,kn,id]
 rw[<-ih]
theorem zW {prog:br}{w:dg}{A:cp}(bs:List Bool):TruthOf prog w A (fun i v=>(bs.map rb)[i]? = some v) (fun i=>(bs[i]?).getD true):=fun i v s Q E hP hQ=>by
 have hP:(bs.map rb)[i]? = some v:=hP
 rw[be,dz]at hP
 obtain⟨b,e,rfl⟩:=hP
 simp only[e,kn]at hQ
 exact jc hQ
theorem iY (hh:X.A.handled=none):vJ X (.builtin "all") (gX .all):=by
 intro pz s σ H st ds vs us R I ok r rv q
 match ds,q with
 |[d],q =>
 have q:gX .all [d] st R:=q
 rw[O7]at q
 obtain⟨v,rfl,rd⟩:=r.one
 obtain⟨u,rfl,ru⟩:=vals1 rv
 obtain⟨a,ws,as,xs,rfl,sa,g,q⟩:=nW ok rd q
 cases ru
 obtain⟨bs,e,q⟩:=fB q
 refine call_all_walk (JZ (A:=X.A.in1) hh I sa fun aD I0 fp wr St s₂ rr W h0 hfp hk=>?_)
 cases A2 e g rr
 refine⟨I0,fp,wr,_,_,St,_,rfl,W,h0,zW bs,fun h' tk hk'=>⟨.bl _,H,hk h' tk hk',rfl,?_⟩⟩
 rw[ab,all_range]
 exact .here ok (.bl _) q
 |[],q=>exact(show False from q).elim
 |_::_::_,q=>exact(show False from q).elim
theorem EB (hh:X.A.handled=none):vJ X (.builtin "any") (gX .any):=by
 intro pz s σ H st ds vs us R I ok r rv q
 match ds,q with
 |[d],q =>
 have q:gX .any [d] st R:=q
 rw[PR]at q
 obtain⟨v,rfl,rd⟩:=r.one
 obtain⟨u,rfl,ru⟩:=vals1 rv
 obtain⟨a,ws,as,xs,rfl,sa,g,q⟩:=nW ok rd q
 cases ru
 obtain⟨bs,e,q⟩:=fB q
 refine call_any_walk (JZ (A:=X.A.in1) hh I sa fun aD I0 fp wr St s₂ rr W h0 hfp hk=>?_)
 cases A2 e g rr
 refine⟨I0,fp,wr,_,_,St,_,rfl,W,h0,zW bs,fun h' tk hk'=>⟨.bl _,H,hk h' tk hk',rfl,?_⟩⟩
 rw[ab,any_range]
 exact .here ok (.bl _) q
 |[],q=>exact(show False from q).elim
 |_::_::_,q=>exact(show False from q).elim
theorem A9:vJ X (.type "list") (gX .list):=by
 intro pz s σ H st ds vs us R I ok r rv q
 match ds,q with
 |[d],q =>
 have q:gX .list [d] st R:=q
 rw[K8]at q
 obtain⟨v,rfl,rd⟩:=r.one
 obtain⟨a,ws,as,xs,rfl,sa,g,q⟩:=nW ok rd q
 exact IV pz s σ H _ us _ I rv ⟨a,ws,rfl,sa,fun l hl=>.gF ok g hl q.2⟩
 |[],q=>exact(show False from q).elim
 |_::_::_,q=>exact(show False from q).elim
theorem fA:vJ X (.type "tuple") (gX .tuple):=by
 intro pz s σ H st ds vs us R I ok r rv q
 match ds,q with
 |[d],q =>
 have q:gX .tuple [d] st R:=q
 rw[JF]at q
 obtain⟨v,rfl,rd⟩:=r.one
 obtain⟨a,ws,as,xs,rfl,sa,g,q⟩:=nW ok rd q
 rcases sa with sa|sa
 ·exact uS pz s σ H _ us _ I rv ⟨a,ws,rfl,.inl ⟨sa,fun l hl=>.IJ ok g hl q.2⟩⟩
 ·exact uS pz s σ H _ us _ I rv ⟨a,ws,rfl,.inr ⟨sa,.here ok (.tup sa g) q.2⟩⟩
 |[],q=>exact(show False from q).elim
 |_::_::_,q=>exact(show False from q).elim
theorem Pl {K:aa}{a:Addr}{vs:List V}(h:H a=some (.lst vs)):PV K "list" (.ref a) H:=.inl ⟨rfl,vs,eJ.of h⟩
theorem yV (l:Addr)(items:Array af)(n:Nat)(b:Addr)(items2:Array af)(n2:Nat)(dd:Option Addr)(sl:Array (Option af))(hs0:¬(!items.isEmpty&&d7 (items.size+items2.size))=true)(hs1:items.size<=sizeLine)(hs2:items.size+items2.size<=sizeLine+1):
 Meets (Builtin.«list.extend» ⟨[.ref l,.ref b],[]⟩) (fun _ R s=>s.heap.get? l=some { cls:=.type "list", dict:=none,data:=.seq items n,slots:=#[] }/\s.heap.get? b=some { cls:=.type "tuple", dict:=dd,data:=.seq items2 n2,slots:=sl }/\R (.ok (.ret g6)) { s with heap:=s.heap.update l (jz fun x=>x++items2),toks:=s.toks }) :=
 .of_wp fun prog w A R s h=>by
 obtain⟨hp,g,d,tk,os⟩:=s;obtain⟨hl,hb,h⟩:=h;have f1:=AutoSeq1.idx_int;have f2:=AutoSeq1.sub_tuple_tuple;have f3:=AutoSeq1.sub_list_list;have f4:=AutoSeq1.sub_tuple_list;have f5:=AutoSeq1.sub_list_tuple;
 have hz':(items++items2).size<=sizeLine+1:=by rw[Array.size_append];exact hs2
 wp_walk using(qi hl rfl (hz:=hs1) (_hz':=hz')),tx hl,tx hb;exact⟨_,rfl,h⟩
def R5 (K:aa):V->List V->Hp->L2.VK->Prop:=fun x vs H Q=>∃ l b xs zs,x=.ref l/\vs=[.ref b]/\H l=some (.lst xs)/\cX K H b zs/\xs.length+zs.length<=sizeLine/\Q .non (upd H l (.lst (xs++zs)))
theorem MR:UZ X "list.extend" (R5 X.K):=by
 intro pz s σ H x vs v us Q I rx rv h
 obtain⟨l,b,xs,zs,rfl,rfl,hH,hB,hz,q⟩:=h
 cases rx
 obtain⟨u,rfl,ru⟩:=rv.one
 cases ru
 obtain⟨z,aD,n,r,hl,e⟩:=I.tY hH
 obtain⟨mS,r2,p2,_⟩:=I.tuple hB
 have hl2:=r2.length
 obtain⟨⟨cls,dd,data,sl⟩,ho,hc,n2,hd⟩:=id p2
 simp only at hc hd
 subst hc hd
 have iD:aD.toArray.size+mS.toArray.size<=sizeLine:=by rw[ao,ao];omega
 have hlong:¬(!aD.toArray.isEmpty&&d7 (aD.toArray.size+mS.toArray.size))=true:=by
  rw[AS iD,cq]
  exact g9
 refine n9 yd ⟨_,e,rfl⟩ xb (wb _ _)
  (yV l aD.toArray n b mS.toArray n2 dd sl hlong (by rw[ao];omega) (by omega)) ⟨e,ho,?_⟩
 refine⟨.non,_,I.L5 (kD:=aD++mS) hH e (by simp) (r.append r2) ?_,rfl,q⟩
 rw[bg]
 omega
def JK (X:Cx)(T id:String)(W:D->List D->aA->VK->Prop):Prop :=
 ∀(pz:List (Addr×Obj))(s:ah)(σ:L2.St)(H:Hp)(st:aA)(d:D)(ds:List D)(v:V)(vs:List V)(u:af)(us:List af)(R:VK),Inv X pz σ H s->aN X.K st H->Rep X.K H d v->RelV v u->aH X.K H ds vs->aO vs us->W d ds st R ->
 wpAny (model X.prog X.w) X.A (call (.builtin id) (u::us)) (EP X pz σ (QD X.K H st R)) X.xe s
inductive Aj (K:aa)(W:D->List D->aA->VK->Prop)(v:V)(vs:List V)(H:Hp)(Q:L2.VK):Prop where
 |mk (d:D)(ds:List D)(st:aA)(R:VK)(r:Rep K H d v)(rs:aH K H ds vs)(ok:aN K st H)(q:W d ds st R)(hq:∀ v H',QD K H st R v H'->Q v H'):Aj K W v vs H Q
theorem JK.mt {T id:String}{W:D->List D->aA->VK->Prop}(h:JK X T id W):UZ X id (Aj X.K W):=fun pz s σ H v vs u us Q I rv rvs ⟨d,ds,st,R,r,rs,ok,q,hq⟩ =>
 aY (h pz s σ H st d ds v vs u us R I ok r rv rs rvs q) fun u s' ⟨v,H',I',r',z⟩=>⟨v,H',I',r',hq _ _ z⟩
theorem Q2:JK X "list" "list.append" (jH .append):=by
 intro pz s σ H st d ds v vs u us R I ok r rv rs rvs q
 cases d<;>first|exact(show False from q).elim|skip
 match ds,q with
 |[d],q =>
 cases r.cJ
 obtain⟨w,rfl,rd⟩:=rs.one
 obtain⟨xs,e,q⟩:=dZ (st:=st) q
 obtain⟨ys,g1,g2⟩:=ok.lst e
 exact L2.qU pz s σ H _ _ u us _ I rv rvs ⟨_,ys,w,rfl,rfl,g1,by rw[fM,<-g2.length];exact q.1,.set ok e (g2.append (.cons rd .nil)) .non q.2⟩
 |[],q=>exact(show False from q).elim
 |_::_::_,q=>exact(show False from q).elim
theorem OH:JK X "list" "list.extend" (jH .extend):=by
 intro pz s σ H st d ds v vs u us R I ok r rv rs rvs q
 cases d<;>first|exact(show False from q).elim|skip
 match ds,q with
 |[d],q =>
 cases r.cJ
 obtain⟨w,rfl,rd⟩:=rs.one
 obtain⟨xs,e,q⟩:=dZ (st:=st) q
 obtain⟨ys,g1,g2⟩:=ok.lst e
 have q:wN d st fun zs=>xs.length+zs.length<=bD/\R .non (put st _ (.lst (xs++zs))):=q
 cases d<;>first|exact(show False from q).elim|skip
 ·obtain⟨b,ws,rfl,f,g⟩:=rd.bM
  exact MR pz s σ H _ _ u us _ I rv rvs ⟨_,b,ys,ws,rfl,rfl,g1,f,by rw[fM,<-g2.length,<-g.length];exact q.1,.set ok e (g2.append g) .non q.2⟩
 ·cases rd.cJ
  obtain⟨zs,e2,q⟩:=dZ (st:=st) q
  obtain⟨ws,k1,k2⟩:=ok.lst e2
  exact L2.xG pz s σ H _ _ u us _ I rv rvs ⟨_,_,ys,ws,rfl,rfl,g1,k1,by rw[fM,<-g2.length,<-k2.length];exact q.1,.set ok e (g2.append k2) .non q.2⟩
 |[],q=>exact(show False from q).elim
 |_::_::_,q=>exact(show False from q).elim
theorem Er:JK X "list" "list.pop" (jH .pop):=by
 intro pz s σ H st d ds v vs u us R I ok r rv rs rvs q
 cases d<;>first|exact(show False from q).elim|skip
 match ds,q with
 |[],q =>
 cases r.cJ
 cases rs
 obtain⟨xs,e,q⟩:=dZ (st:=st) q
 obtain⟨ys,g1,g2⟩:=ok.lst e
 obtain⟨d,e2,q⟩:=fB q
 obtain⟨w,k1,k2⟩:=g2.get e2
 exact L2.GF pz s σ H _ _ u us _ I rv rvs ⟨_,ys,w,rfl,rfl,g1,by rw[<-g2.length];exact k1,.set ok e g2.dropLast k2 q⟩
 |_::_,q=>exact(show False from q).elim
theorem Q0 {K:aa}{m:MT}{st:aA}{d:D}{v:V}(hm:m≠.index)(ok:aN K st H)(r:Rep K H d v)(h:wZ m d st):PV K "list" v H:=by
 unfold wZ at h
 split at h
 all_goals first|(exact h.elim;done)|(exact absurd rfl hm;done)|skip
 all_goals
 cases r.cJ
 obtain⟨ds,e,_⟩:=dZ h
 obtain⟨vs,g,_⟩:=ok.lst e
 exact Pl g
end
section
variable {X:Cx}{C:bC}{sub:Nat->Nat->Bool}{E:XK}{a b c e o:Expr}{x y z:Ex}{pos apos jQ:Pos}
theorem OS {m:MT}{name:Str}{id:String}{es:List Expr}{xs:List Ex}(hmi:m≠.index)(slot:Slot "list" name id)(hty:Tn (.builtin id)=pure (.type "method_descriptor"))(hm:JK X "list" id (jH m))(ho:PE X o (bR X.K (aE C sub E x)))(ha:PA X (e::es) (jB X.K (bG C sub E xs)))
 (jI:gh o name X.env (eval o X.env)=eval o X.env)
 (uN:((dh jQ (ai (e::es) X.env)).all (fun x=>!x.1)&&(ou jQ (kc [] X.env)).all (fun x=>x.1.isSome)&&decide ((e::es).length+([]:List qw).length+(if([]:List qw).isEmpty then 0 else 1)<30))=true)(jJ:(apos.endLine==jQ.line)=true)
 (hs:ai (e::es) X.env=(false,eval e X.env)::ai es X.env)(qI:(dh jQ (ai es X.env)).any (·.1)=false):
 PE X (.Call (.Attribute o name apos) (e::es) [] jQ) (bR X.K (aE C sub E (.dF m x xs))) :=
 (Jb oo slot hty hm.mt ho ha jI uN jJ hs qI).imp fun σ H Q ⟨σd,st,R,r,ok,q,hq⟩=>by
 refine⟨σd,st,_,r,ok,q,fun v H1 ⟨d,aC,s1,aM,r1,q1⟩=>⟨Q0 hmi aM r1 q1.1,?_⟩⟩
 refine⟨σd,aC,_,r.step ok s1,aM,q1.2,fun vs H2 ⟨ds,aF,s2,bQ,r2,q2⟩=>?_⟩
 exact⟨d,ds,aF,R,r1.step aM s2,r2,bQ,q2,fun v H' z=>hq _ _ (.after (s1.trans s2) z)⟩
theorem XE {m:MT}{name:Str}{id:String}(hmi:m≠.index)(slot:Slot "list" name id)(hty:Tn (.builtin id)=pure (.type "method_descriptor"))(hm:JK X "list" id (jH m))(ho:PE X o (bR X.K (aE C sub E x)))
 (jI:gh o name X.env (eval o X.env)=eval o X.env)(jJ:(apos.endLine==jQ.line)=true):
 PE X (.Call (.Attribute o name apos) [] [] jQ) (bR X.K (aE C sub E (.dF m x []))) :=
 (Eh oo slot hty hm.mt ho jI jJ).imp fun σ H Q ⟨σd,st,R,r,ok,q,hq⟩=>by
 refine⟨σd,st,_,r,ok,q,fun v H1 ⟨d,aC,s1,aM,r1,q1⟩=>⟨Q0 hmi aM r1 q1.1,?_⟩⟩
 exact⟨d,[],aC,R,r1,.nil,aM,q1.2,fun v H' z=>hq _ _ (.after s1 z)⟩
inductive fO (K:aa)(C:bC)(f:Nat)(vs:List V)(H:Hp)(Q:L2.VK)(E:L2.XK):Prop where
 |mk (ds:List D)(st:aA)(R:VK)(r:aH K H ds vs)(ok:aN K st H)(q:C f ds st R (fun _ _=>False))(hq:∀ v H',QD K H st R v H'->Q v H'):fO K C f vs H Q E
theorem Ac {CX:zP}{k:Nat}{f:Addr}{fid:Nat}{fd:gw}{ps:List Str}{n:Str}{p:Pos}{es:List Expr}{xs:List Ex}(F:fJ X.prog X.w X.K X.mg X.base CX k f fd ps (fO X.K C fid))(hr:cR k X.A)(hg:Gl X n)(hm:X.mg n=some (.ref f))
 (hk:fe X.K (.ref f)=true)(hb:Binds X.K fd ps [])(hx:oH CX X E0)(ha:PA X (e::es) (jB X.K (bG C sub (fun _ _=>False) xs)))
 (hdb:(n==("__debug__" : Str))=false)(he:ai (e::es) X.env=(false,eval e X.env)::ai es X.env)(dC:(dh pos (ai es X.env)).any (·.1)=false):
 PE X (.Call (.Name n p) (e::es) [] pos) (bR X.K (aE C sub (fun _ _=>False) (.call fid xs))) :=
 (VZ F hr hg hm hk hb .nil hx ha hdb he dC).imp fun σ H Q ⟨σd,st,R,r,ok,q,hq⟩=>by
 refine⟨σd,st,_,r,ok,q,fun vs H1 ⟨ds,aC,s1,aM,r1,q1⟩=>?_⟩
 show fO X.K C fid (vs++[]) H1 Q E0
 rw[fh]
 exact⟨ds,aC,R,r1,aM,q1,fun v H' z=>hq _ _ (.after s1 z)⟩
end
noncomputable abbrev EF:XK:=fun _ _=>False
structure A6 (K:aa)(H:Hp)(st:aA)(P:gS)(D:Ends):Prop where
 nx:∀ σ' H' dS aB,dA K H' dS σ'->Step H st H' aB->aN K aB H'->P.nx dS aB->D.nx σ' H'
 rt:∀ v H',QD K H st P.rt v H'->D.rt v H'
 bk:∀ σ' H' dS aB,dA K H' dS σ'->Step H st H' aB->aN K aB H'->P.bk dS aB->D.bk σ' H'
 ct:∀ σ' H' dS aB,dA K H' dS σ'->Step H st H' aB->aN K aB H'->P.ct dS aB->D.ct σ' H'
 ex:∀ c σd st,¬P.ex c σd st
theorem A6.after {K:aa}{H H1:Hp}{st aC:aA}{P:gS}{D:Ends}(h:A6 K H st P D)(s:Step H st H1 aC):A6 K H1 aC P D :=
 ⟨fun σ' H' dS aB r t ok q=>h.nx σ' H' dS aB r (s.trans t) ok q,fun v H' z=>h.rt v H' (.after s z),fun σ' H' dS aB r t ok q=>h.bk σ' H' dS aB r (s.trans t) ok q,fun σ' H' dS aB r t ok q=>h.ct σ' H' dS aB r (s.trans t) ok q,h.ex⟩
inductive iH (K:aa)(ts:gS->St->aA->Prop)(D:Ends)(σ:L2.St)(H:Hp):Prop where
 |mk (σd:St)(st:aA)(P:gS)(r:dA K H σd σ)(ok:aN K st H)(q:ts P σd st)(h:A6 K H st P D):iH K ts D σ H
section
variable {X:Cx}{C:bC}{sub:Nat->Nat->Bool}{a b c e:Expr}{x y z:Ex}{pos:Pos}{s:Stmt}{ss:List Stmt}{xs:List Sx}{sx:Sx}
theorem Hy:kA X [] (iH X.K (cO C sub [])) :=
 XQ.imp fun D σ H ⟨σd,st,P,r,ok,q,h⟩=>by
 exact h.nx _ _ _ _ r .refl ok q
theorem Ce (h1:PS X s (iH X.K (wpS C sub sx)))(h2:kA X ss (iH X.K (cO C sub xs))):kA X (s::ss) (iH X.K (cO C sub (sx::xs))) :=
 (TK h1 h2).imp fun D σ H ⟨σd,st,P,r,ok,q,h⟩=>by
 exact⟨σd,st,_,r,ok,q,⟨fun σ' H' dS aB r' s' gC q'=>⟨dS,aB,P,r',gC,q',h.after s'⟩,h.rt,h.bk,h.ct,h.ex⟩⟩
theorem qD {P:gS}{σd:St}{st:aA}{x:Ex}{Q:VK}(hC:bO C C)(he:∀ c σd st,¬P.ex c σd st)(q:aE C sub (fun c aB=>P.ex c σd aB) x σd st Q):aE C sub EF x σd st Q :=
 aS hC (fun c st z=>he _ _ _ z) x (fun _ _ z=>z) q
theorem Hc {P:gS}{σd:St}{st:aA}{xs:List Ex}{Q:List D->aA->Prop}(hC:bO C C)(he:∀ c σd st,¬P.ex c σd st)(q:bG C sub (fun c aB=>P.ex c σd aB) xs σd st Q):bG C sub EF xs σd st Q :=
 cL hC (fun c st z=>he _ _ _ z) xs (fun _ _ z=>z) q
theorem Hm (hC:bO C C)(h:PE X e (bR X.K (aE C sub EF x))):PS X (.Return (some e) pos) (iH X.K (wpS C sub (.ret x))) :=
 (Z9 h).imp fun D σ H ⟨σd,st,P,r,ok,q,h⟩=>by
 exact⟨σd,st,_,r,ok,qD hC h.ex q,h.rt⟩
theorem Nm (hC:bO C C)(h:PE X e (bR X.K (aE C sub EF x)))(hs:mf e none pos.line X.env=pure false):PS X (.Expr e pos) (iH X.K (wpS C sub (.ex x))) :=
 (XT h hs).imp fun D σ H ⟨σd,st,P,r,ok,q,h⟩=>by
 exact⟨σd,st,_,r,ok,qD hC h.ex q,fun v H' ⟨d,aB,s',gC,_,q'⟩=>h.nx _ _ _ _ (r.step ok s') s' gC q'⟩
theorem Ny {as bs:List Stmt}{ax bx:List Sx}(hC:bO C C)(hc:PT X c (jC X.K (aE C sub EF x)))(ha:kA X as (iH X.K (cO C sub ax)))(hb:kA X bs (iH X.K (cO C sub bx))):PS X (.If c as bs pos) (iH X.K (wpS C sub (.iff x ax bx))) :=
 (Gw hc ha hb).imp fun D σ H ⟨σd,st,P,r,ok,q,h⟩=>by
 refine⟨σd,st,fun k aB=>if k=true then cO C sub ax P σd aB else cO C sub bx P σd aB,r,ok,qD hC h.ex q,fun k H' ⟨aB,s',gC,q'⟩=>?_⟩
 cases k with
 |true=>exact⟨σd,aB,P,r.step ok s',gC,q',h.after s'⟩
 |false=>exact⟨σd,aB,P,r.step ok s',gC,q',h.after s'⟩
theorem ZH {cl:Nat}{es:List Ex}(hC:bO C C)(hn:∀ σd st,¬bG C sub EF es σd st fun _ _=>False):PS X s (iH X.K (wpS C sub (.rais cl es))) :=
 UM.imp fun D σ H ⟨σd,st,P,r,ok,q,h⟩=>by
 exact hn σd st (cL hC (fun c st z=>(h.ex _ _ _ z).elim) es (fun _ _ z=>(h.ex _ _ _ z).elim) q)
inductive JC (K:aa)(g:D->St->aA->(St->aA->Prop)->Prop)(v:V)(σ:L2.St)(H:Hp)(Q:L2.St->Hp->Prop):Prop where
 |mk (d:D)(σd:St)(st:aA)(M:St->aA->Prop)(r:Rep K H d v)(sr:dA K H σd σ)(ok:aN K st H)(q:g d σd st M)(hq:∀ σ' H' dS aB,dA K H' dS σ'->Step H st H' aB->aN K aB H'->M dS aB->Q σ' H'):JC K g v σ H Q
theorem _root_.L2.PG.imp {X:Cx}{e:Expr}{t t':TG}(i:∀ v σ H Q,t' v σ H Q->t v σ H Q)(h:PG X e t):PG X e t':=fun pz s σ H v u Q I r q=>h pz s σ H v u Q I r (i v σ H Q q)
theorem S3 {E:XK}{i:Nat}(h:PG X e (BV i)):PG X e (JC X.K (mD C sub E (.nm i))) :=
 h.imp fun v σ H Q ⟨d,σd,st,M,rd,r,ok,q,hq⟩=>by
 exact hq _ _ _ _ (r.set i rd) .refl ok q
theorem MA {tg:Expr}{t:Tg}(hC:bO C C)(he:PE X e (bR X.K (aE C sub EF x)))(hg:PG X tg (JC X.K (mD C sub EF t)))
 (hs:p0 [tg] e pos.line X.env=pure false)(hw:p8 [tg] e X.env=pure none)(h1:(e9 [tg] X.env).map (·.2)=[mv tg X.env]):PS X (.Assign [tg] e pos) (iH X.K (wpS C sub (.asg t x))) :=
 (Cs he hg hs hw h1).imp fun D σ H ⟨σd,st,P,r,ok,q,h⟩=>by
 refine⟨σd,st,_,r,ok,qD hC h.ex q,fun v H' ⟨d,aB,s',gC,rd,q'⟩=>?_⟩
 refine⟨d,σd,aB,P.nx,rd,r.step ok s',gC,uE hC (fun c st z=>h.ex _ _ _ z) (fun _ _ z=>z) t q',fun σ2 H2 rF aF r2 s2 bQ q2=>?_⟩
 exact h.nx _ _ _ _ r2 (s'.trans s2) bQ q2
theorem XJ {bs:List Stmt}{bx:List Sx}(hC:bO C C)(hp:qz (model X.prog X.w) X.A X.env X.xe)(hc:PT X c (jC X.K (aE C sub EF x)))(hb:kA X bs (iH X.K (cO C sub bx))):PS X (.While c bs [] pos) (iH X.K (wpS C sub (.whl x bx))) :=
 (TY hp hc hb).imp fun D σ H ⟨σd,st,P,r,ok,q,h⟩=>by
 obtain⟨n,q⟩:=q
 refine⟨fun m σ' H'=>∃ dS aB,dA X.K H' dS σ'/\Step H st H' aB/\aN X.K aB H'/\nT _ m dS aB,⟨n,σd,st,r,.refl,ok,q⟩,fun m σ1 H1 ⟨σd1,aC,r1,s1,aM,q1⟩=>?_⟩
 cases m with
 |zero=>exact q1.elim
 |succ m =>
  simp only[nT]at q1
  refine⟨σd1,aC,fun k aB=>if k=true then cO C sub bx _ σd1 aB else P.nx σd1 aB,r1,aM,qD hC h.ex q1,fun k H2 ⟨aF,s2,bQ,q2⟩=>?_⟩
  cases k with
  |false=>exact h.nx _ _ _ _ (r1.step aM s2) (s1.trans s2) bQ q2
  |true =>
  refine⟨fun σ' H'=>∃ dS aB,dA X.K H' dS σ'/\Step H st H' aB/\aN X.K aB H'/\nT _ m dS aB,fun σ' H' z=>⟨m,gm _,z⟩,?_⟩
  refine⟨σd1,aF,_,r1.step aM s2,bQ,q2,⟨fun σ' H' dS aB r' s' gC q'=>⟨dS,aB,r',(s1.trans s2).trans s',gC,q'⟩,fun v H' z=>h.rt _ _ (.after (s1.trans s2) z),fun σ' H' dS aB r' s' gC q'=>h.nx _ _ _ _ r' ((s1.trans s2).trans s') gC q',
   fun σ' H' dS aB r' s' gC q'=>⟨dS,aB,r',(s1.trans s2).trans s',gC,q'⟩,h.ex⟩⟩
end
noncomputable def UU (x:Str):It:=⟨fun i _=>i<x.cps.size,fun i H v H'=>H'=H/\∃ c,x.cps[i]? = some c/\v=.str ⟨#[c]⟩,fun i _=>x.cps.size<=i⟩
theorem JD {P:br}{w:dg}{K:aa}{tg:Expr}(it:Addr)(x:Str)(t:Tok)(ty:String)(hty:["enumerate","zip","dict_itemiterator","dict_reverseitemiterator","odict_iterator","itertools.zip_longest","itertools.pairwise"].contains ty=false)
  (W:∀ A:cp,A.handled=none->Walks P w A it [it] [it] x.cps.size (SignAt x) (fun i h=>h.IsStrIter it ty x t i))
  (hd:∀(A:cp)(i:Nat)(s:ah)(Q:Option af->ah->Prop)(E:af->ah->Prop),A.handled=none->s.heap.IsStrIter it ty x t i->x.cps.size<=i->(∀ h',(∀ b o,b≠it->s.heap.get? b=some o->h'.get? b=some o)->Q none { s with heap:=h' })->wpAny (model P w) A (rg (.ref it)) Q E s)
  (hself:∀(A:cp)(i:Nat)(s:ah)(Q:af->ah->Prop)(E:af->ah->Prop),s.heap.IsStrIter it ty x t i->Q (.ref it) s->wpAny (model P w) A (vz (.ref it)) Q E s):Turn P w K tg (UU x) [it] it (fun i h=>h.IsStrIter it ty x t i) where
 mem:=by simp
 obj:=fun i h st b hb=>by
  have e:b=it:=by simpa using hb
  subst e
  obtain⟨o,e,c,d⟩:=st
  exact⟨o,e,fun v z=>by rw[d]at z;cases z⟩
 keep:=fun i h h' st k=>let⟨o,e,r⟩:=st;⟨o,k it (by simp) o e,r⟩
 item:=by
  intro X hP hw hK hc i pz s σ H E I hf st hg
  subst hP hw hK
  obtain⟨f0,f1,f2,f3,f4,f5⟩:=hf it (by simp)
  refine(W X.A (I.ok.hd hc)).item i s _ _ hg st fun v h' tk hv aB kk=>?_
  obtain⟨c,u,hc',rfl⟩:=hv
  have I1:Inv X pz σ H { s with heap:=h',toks:=tk }:=I.turned (fun b o hb e=>kk b o (by simpa using hb) e) f0 f1 f3 f4 f5
  obtain⟨o,e,c1,d⟩:=id aB
  exact⟨_,rfl,FU (s:={ s with heap:=h',toks:=tk }) e c1 d hty ⟨.str ⟨#[c]⟩,H,I1,⟨u,rfl⟩,⟨rfl,c,hc',rfl⟩,aB,fun b hb=>(hf b hb).1⟩⟩
 done:=by
  intro X hP hw hK hc i pz s σ H E I hf st hg
  subst hP hw hK
  obtain⟨f0,f1,f2,f3,f4,f5⟩:=hf it (by simp)
  exact hd X.A i s _ _ (I.ok.hd hc) st hg fun h' eb=>⟨rfl,I.turned (t':=s.toks) (fun b o hb e=>eb b o hb e) f0 f1 f3 f4 f5⟩
 self:=fun A i s Q E st h=>hself A i s Q E st h
structure zV (K:aa)(J:It)(as:List Nat)(xs:List D)(H1:Hp)(aC:aA):Prop where
 go:∀ i H st d,Step H1 aC H st->aN K st H->same as aC st->xs[i]? = some d->J.go i H
 yld:∀ i H st d x H',Step H1 aC H st->aN K st H->same as aC st->xs[i]? = some d->J.yld i H x H'->Step H st H' st/\aN K st H'/\Rep K H' d x
 stop:∀ i H st,Step H1 aC H st->aN K st H->same as aC st->xs.length<=i->J.stop i H
inductive QJ (K:aa)(H:Hp)(st:aA)(M:List Nat->List D->aA->Prop)(J:It)(H1:Hp):Prop where
 |mk (as:List Nat)(xs:List D)(aC:aA)(s:Step H st H1 aC)(ok:aN K aC H1)(j:zV K J as xs H1 aC)(q:M as xs aC):QJ K H st M J H1
inductive wV (K:aa)(te:St->aA->(List Nat->List D->aA->Prop)->Prop)(σ:L2.St)(H:Hp)(R:It->Hp->Prop):Prop where
 |mk (σd:St)(st:aA)(M:List Nat->List D->aA->Prop)(r:dA K H σd σ)(ok:aN K st H)(q:te σd st M)(hq:∀ J H1,QJ K H st M J H1->R J H1):wV K te σ H R
section
variable {K:aa}{H1:Hp}{aC:aA}{a:Addr}{xs:List D}{vs:List V}
theorem ZE (aM:aN K aC H1)(f:cX K H1 a vs)(g:aH K H1 xs vs):zV K (Ee K a) [] xs H1 aC where
 go:=fun i H st d s ok _ e=>let⟨v,e1,_⟩:=g.get e;⟨vs,v,iK aM s f,e1⟩
 yld:=fun i H st d x H' s ok _ e ⟨e',h⟩=>by
  subst e'
  obtain⟨v,e1,e2⟩:=g.get e
  have:=h vs (iK aM s f)
  rw[e1]at this;cases this
  exact⟨.refl,ok,e2.step aM s⟩
 stop:=fun i H st s ok _ l=>⟨vs,iK aM s f,by rw[<-g.length];exact l⟩
theorem RZ (aM:aN K aC H1)(f:lF K H1 a vs)(g:aH K H1 xs vs):zV K (VP K a) [] xs H1 aC where
 go:=fun i H st d s ok _ e=>let⟨v,e1,_⟩:=g.get e;⟨vs,v,(rD aM s f).sq,e1⟩
 yld:=fun i H st d x H' s ok _ e ⟨e',h⟩=>by
  subst e'
  obtain⟨v,e1,e2⟩:=g.get e
  have:=h vs (rD aM s f).sq
  rw[e1]at this;cases this
  exact⟨.refl,ok,e2.step aM s⟩
 stop:=fun i H st s ok _ l=>⟨vs,(rD aM s f).sq,by rw[<-g.length];exact l⟩
theorem YN (aM:aN K aC H1)(e0:aC a=some (.lst xs)):zV K (VP K a) [a] xs H1 aC where
 go:=fun i H st d s ok sm e=>by
  have e':st a=some (.lst xs):=(sm a (by simp)).trans e0
  obtain⟨us,g1,g2⟩:=ok.lst e'
  obtain⟨v,e1,_⟩:=g2.get e
  exact⟨us,v,eJ.of g1,e1⟩
 yld:=fun i H st d x H' s ok sm e ⟨e',h⟩=>by
  subst e'
  have e':st a=some (.lst xs):=(sm a (by simp)).trans e0
  obtain⟨us,g1,g2⟩:=ok.lst e'
  obtain⟨v,e1,e2⟩:=g2.get e
  have:=h us (eJ.of g1)
  rw[e1]at this;cases this
  exact⟨.refl,ok,e2⟩
 stop:=fun i H st s ok sm l=>by
  have e':st a=some (.lst xs):=(sm a (by simp)).trans e0
  obtain⟨us,g1,g2⟩:=ok.lst e'
  exact⟨us,eJ.of g1,by rw[<-g2.length];exact l⟩
theorem O5 (lo:Int)(n:Nat):zV K (VM lo n) [] (fF lo n) H1 aC where
 go:=fun i H st d s ok _ e=>by
  have:=(List.getElem?_eq_some_iff.mp e).1
  show i<n
  simpa [fF]using this
 yld:=fun i H st d x H' s ok _ e ⟨e',h⟩=>by
  subst e' h
  simp only[fF,be,dz]at e
  obtain⟨k,e1,rfl⟩:=e
  have:k=i:=by
   rw[sh]at e1
   obtain⟨_,e2⟩:=e1
   simp at e2
   exact e2.symm
  subst this
  exact⟨.refl,ok,.int _⟩
 stop:=fun i H st s ok _ l=>by show n<=i;simpa [fF]using l
theorem KO (x:List Nat):zV K (UU ⟨x.toArray⟩) [] (x.map fun c=>.str [c]) H1 aC where
 go:=fun i H st d s ok _ e=>by
  have:=(List.getElem?_eq_some_iff.mp e).1
  show i<(⟨x.toArray⟩:Str).cps.size
  simpa using this
 yld:=fun i H st d v H' s ok _ e ⟨e',c,ec,ev⟩=>by
  subst e' ev
  simp only[be,dz]at e
  obtain⟨c',e1,rfl⟩:=e
  have:c=c':=by
   have ec:x.toArray[i]? = some c:=ec
   simp at ec
   rw[ec]at e1;exact cy e1
  subst this
  exact⟨.refl,ok,.str [c]⟩
 stop:=fun i H st s ok _ l=>by
  show(⟨x.toArray⟩:Str).cps.size<=i
  simpa using l
end
section
variable {X:Cx}{C:bC}{sub:Nat->Nat->Bool}{a b c e tg:Expr}{x y z:Ex}{pos:Pos}
theorem _root_.L2.PI.imp {X:Cx}{tg e:Expr}{t t':TI}(i:∀ σ H Q,t' σ H Q->t σ H Q)(h:PI X tg e t):PI X tg e t':=fun pz s σ H Q I q=>h pz s σ H Q I (i σ H Q q)
theorem Az {E:XK}(h:PE X e (bR X.K (aE C sub E x))):PI X tg e (wV X.K fun σ st M=>bG C sub E [x] σ st fun ds aC=>gI none ds aC fun as xs=>M as xs aC):=by
 intro pz s σ H R I ⟨σd,st,M,r,ok,q,hq⟩
 refine aY (h pz s σ H _ I ⟨σd,st,_,r,ok,q,fun v H' z=>z⟩) fun u s1 ⟨v,H1,I1,rv,d,aC,cQ,aM,r1,q1⟩=>?_
 have fresh:∀{b:Addr},b∈[s1.heap.objs.size]->kP X pz H1 b:=fun{b} hb=>by
  have e:b=s1.heap.objs.size:=by simpa using hb
  subst e
  exact I1.DO (av _) (I1.bN.fresh (av _))
 have tup:∀(a:Addr)(vs:List V)(as:List Nat)(xs:List D),v=.ref a->cX X.K H1 a vs->zV X.K (Ee X.K a) as xs H1 aC->M as xs aC->wpAny (model X.prog X.w) X.A (vz u) (VB X pz σ tg R) X.xe s1:=by
  intro a vs as xs e f j q
  subst e
  cases rv
  obtain⟨aD,rr,p,hz⟩:=I1.tuple f
  exact lh (show s1.heap.IsTuple a aD.toArray from p) ⟨s1.heap.objs.size,[s1.heap.objs.size],_,_,H1,rfl,I1.kept (t':=s1.toks) fun b o e=>ag _ e,M8 a _,⟨_,aw _ rfl,rfl,rfl⟩,fun b hb=>fresh hb,hq _ _ ⟨as,xs,aC,cQ,aM,j,q⟩⟩
 have lst:∀(a:Addr)(vs:List V)(as:List Nat)(xs:List D),v=.ref a->eJ X.K H1 a vs->zV X.K (VP X.K a) as xs H1 aC->M as xs aC->wpAny (model X.prog X.w) X.A (vz u) (VB X pz σ tg R) X.xe s1:=by
  intro a vs as xs e f j q
  subst e
  cases rv
  obtain⟨aD,rr,p,hz⟩:=I1.list f
  exact yz p.isList ⟨s1.heap.objs.size,[s1.heap.objs.size],_,_,H1,rfl,I1.kept (t':=s1.toks) fun b o e=>ag _ e,N3 a _,⟨_,aw _ rfl,rfl,rfl⟩,fun b hb=>fresh hb,hq _ _ ⟨as,xs,aC,cQ,aM,j,q⟩⟩
 have q1:nL d aC fun as xs=>M as xs aC:=q1
 cases d with
 |tup ds =>
  obtain⟨a,vs,e,f,g⟩:=r1.bM
  exact tup a vs _ _ e f (ZE aM f g) q1
 |str z =>
  have q1:z.length<=bD/\M [] (z.map fun c=>.str [c]) aC:=q1
  cases r1.str_inv
  obtain⟨t,rfl⟩:=rv
  cases ha:(⟨z.toArray⟩:Str).cps.all (·< 128)
  ·exact wpAny_pyIter_wide ha ⟨s1.heap.objs.size,[s1.heap.objs.size],_,UU ⟨z.toArray⟩,H1,rfl,I1.kept (t':=s1.toks) fun b o e=>ag _ e,
   JD s1.heap.objs.size ⟨z.toArray⟩ t "str_iterator" (by decide) (fun A hA=>Walks.strWide hA _ _ t) (fun A i s Q E hA hi hn hQ=>wpAny_pyNext_wide_end hA hi (by simpa using hn) fun h' he=>hQ h' he) (fun A i s Q E hi hQ=>wpAny_pyIter_striter_wide hi hQ),
   ⟨_,aw _ rfl,rfl,rfl⟩,fun b hb=>fresh hb,hq _ _ ⟨_,_,aC,cQ,aM,KO z,q1.2⟩⟩
  ·exact wpAny_pyIter_ascii ha ⟨s1.heap.objs.size,[s1.heap.objs.size],_,UU ⟨z.toArray⟩,H1,rfl,I1.kept (t':=s1.toks) fun b o e=>ag _ e,
   JD s1.heap.objs.size ⟨z.toArray⟩ t "str_ascii_iterator" (by decide) (fun A hA=>Walks.strAscii hA _ _ t) (fun A i s Q E hA hi hn hQ=>wpAny_pyNext_ascii_end hA hi (by simpa using hn) fun h' he=>hQ h' he) (fun A i s Q E hi hQ=>wpAny_pyIter_striter_ascii hi hQ),
   ⟨_,aw _ rfl,rfl,rfl⟩,fun b hb=>fresh hb,hq _ _ ⟨_,_,aC,cQ,aM,KO z,q1.2⟩⟩
 |ref a =>
  cases r1.cJ
  obtain⟨ds,e,q1⟩:=dZ (st:=aC) q1
  obtain⟨vs,g1,g2⟩:=aM.lst e
  exact lst _ vs _ _ rfl (eJ.of g1) (YN aM e) q1
 |bL ds =>
  obtain⟨a,vs,e,f,g⟩:=r1.kC
  exact lst a vs _ _ e f.sq (RZ aM f g) q1
 |_=>exact(show False from q1).elim
theorem WQ {E:XK}{p:Pos}(hC:bO C C)(hg:Gl X "range")(hm:X.mg "range" = none)(ha:PA X [a] (jB X.K (bG C sub E [x])))(hs:ai [a] X.env=[(false,eval a X.env)]):
 PI X tg (.Call (.Name "range" p) [a] [] pos) (wV X.K fun σ st M=>bG C sub E [x] σ st fun ds aC=>gI (some .range) ds aC fun as xs=>M as xs aC) :=
 (OR hg hm ha hs).imp fun σ H R ⟨σd,st,M,r,ok,q,hq⟩=>by
 refine⟨σd,st,_,r,ok,mZ [x] hC q,fun vs H1 ⟨ds,aC,s1,aM,r1,l1,q1⟩=>?_⟩
 match ds,l1,q1 with
 |[d],_,q1 =>
  obtain⟨v,rfl,rd⟩:=r1.one
  have q1:gI (some .range) [d] aC fun as xs=>M as xs aC:=q1
  cases d with
  |int j =>
  cases rd.int_inv
  exact⟨j,rfl,q1.1.1,q1.1.2,hq _ _ ⟨_,_,aC,s1,aM,O5 0 _,q1.2⟩⟩
  |_=>exact(show False from q1).elim
theorem VO {k:Option IK}{aD:List Ex}{iter:Expr}{t:Tg}{bs:List Stmt}{bx:List Sx}(hC:bO C C)(hp:qz (model X.prog X.w) X.A X.env X.xe)(hc:X.calm=true)
 (hi:PI X tg iter (wV X.K fun σ st M=>bG C sub EF aD σ st fun ds aC=>gI k ds aC fun as xs=>M as xs aC))(hg:PG X tg (JC X.K (mD C sub EF t)))(hb:kA X bs (iH X.K (cO C sub bx)))
 (hs:∀ x,gu iter X.env x=pure x):PS X (.For tg iter bs [] pos) (iH X.K (wpS C sub (.iM t k aD bx))) :=
 (ZL hp hc hi hg hb hs).imp fun DD σ H ⟨σd,st,P,r,ok,q,h⟩=>by
 refine⟨σd,st,_,r,ok,Hc hC h.ex q,fun J H1 ⟨as,xs,aC,s1,aM,j,q1⟩=>?_⟩
 refine⟨fun i m σ' H'=>∃ dS aB,dA X.K H' dS σ'/\Step H1 aC H' aB/\aN X.K aB H'/\m+i=xs.length/\vH (same as aC) (fun(x:L3.D) next σ st=>mD C sub (fun c aB=>P.ex c σ aB) t x σ st fun σ' aB=>cO C sub bx { P with nx:=next,ct:=next,bk:=P.nx } σ' aB) P.nx (xs.drop i) dS aB,⟨xs.length,σd,aC,r.step ok s1,.refl,aM,by omega,by simpa using q1⟩,fun i m σ2 H2 ⟨rF,aF,r2,s2,bQ,e2,q2⟩=>?_⟩
 by_cases hi':i<xs.length
 ·have ed:xs.drop i=xs[i]::xs.drop (i+1):=e8 hi'
  rw[ed]at q2
  obtain⟨g2,q2⟩:=q2
  refine .inr ⟨j.go i H2 aF xs[i] s2 bQ g2 (aj hi'),fun σ' H'=>∃ dS aB,dA X.K H' dS σ'/\Step H1 aC H' aB/\aN X.K aB H'/\vH (same as aC) (fun(x:L3.D) next σ st=>mD C sub (fun c aB=>P.ex c σ aB) t x σ st fun σ' aB=>cO C sub bx { P with nx:=next,ct:=next,bk:=P.nx } σ' aB) P.nx (xs.drop (i+1)) dS aB,
  fun σ' H' ⟨dS,aB,r',s',gC,q'⟩=>⟨m-1,by omega,dS,aB,r',s',gC,by omega,q'⟩,fun v H3 y3=>?_⟩
  obtain⟨s3,vA,r3⟩:=j.yld i H2 aF xs[i] v H3 s2 bQ g2 (aj hi') y3
  refine⟨xs[i],rF,aF,_,r3,r2.step bQ s3,vA,uE hC (fun c st z=>h.ex _ _ _ z) (fun _ _ z=>z) t q2,fun σ4 H4 σd4 cN r4 s4 tH q4=>?_⟩
  refine⟨σd4,cN,_,r4,tH,q4,⟨fun σ' H' dS aB r' s' gC q'=>⟨dS,aB,r',((s2.trans s3).trans s4).trans s',gC,q'⟩,fun v H' z=>h.rt _ _ (.after (((s1.trans s2).trans s3).trans s4) z),
  fun σ' H' dS aB r' s' gC q'=>h.nx _ _ _ _ r' ((((s1.trans s2).trans s3).trans s4).trans s') gC q',fun σ' H' dS aB r' s' gC q'=>⟨dS,aB,r',((s2.trans s3).trans s4).trans s',gC,q'⟩,h.ex⟩⟩
 ·have ed:xs.drop i=[]:=lp (by omega)
  rw[ed]at q2
  exact .inl ⟨j.stop i H2 aF s2 bQ q2.1 (by omega),h.nx _ _ _ _ r2 (s1.trans s2) bQ q2.2⟩
end
section
variable {X:Cx}{C:bC}{sub:Nat->Nat->Bool}{a b c e o i tg:Expr}{x y z:Ex}{pos:Pos}
noncomputable def kE (is:List Nat)(vs:List V)(σ:L2.St):L2.St:=(is.zip vs).foldl (fun σ p=>σ.set p.1 (some p.2)) σ
noncomputable def sL (is:List Nat):EA:=fun vs σ H Q=>vs.length=is.length/\Q (kE is vs σ) H
theorem Dz:BA X [] (sL []):=fun pz s σ H vs us Q I r h=>by
 have:vs=[]:=List.length_eq_zero_iff.mp h.1
 subst this
 exact YQ pz s σ H [] us Q I r ⟨rfl,h.2⟩
theorem X6 {es:List Expr}{i:Nat}{is:List Nat}(h1:PG X e (BV i))(h2:BA X es (sL is))(hs:(e9 (e::es) X.env).map (·.2)=mv e X.env::(e9 es X.env).map (·.2)):BA X (e::es) (sL (i::is)):=fun pz s σ H vs us Q I r h=>by
 obtain⟨hl,h⟩:=h
 cases vs with
 |nil=>simp at hl
 |cons v vs=>exact SM h1 h2 hs pz s σ H (v::vs) us Q I r ⟨v,vs,rfl,by simpa using hl,h⟩
theorem dA.eZ {K:aa}{H:Hp}:∀(is:List Nat){ds:List D}{vs:List V}{σd:St}{σ:L2.St},dA K H σd σ->aH K H ds vs->dA K H ((is.zip ds).foldl (fun σ p=>σ.set p.1 (some p.2)) σd) (kE is vs σ)
 |[],_,_,_,_,r,_=>by simpa [kE]using r
 |_::_,_,_,_,_,r,.nil=>by simpa [kE]using r
 |i::is,_,_,_,_,r,.cons h t=>by
  have:=dA.eZ is (r.set i h) t
  simpa [kE]using this
theorem Nh {E:XK}{es:List Expr}{k:Nat}{is:List Nat}(hc:X.calm=true)(h:BA X es (sL is))(hn:(e9 es X.env).length=is.length)(eV:(e9 es X.env).findIdx? (·.1)=none):
 PG X (.Tuple es k pos) (JC X.K (mD C sub E (.tp is))) :=
 (QP hc h hn eV).imp fun v σ H Q ⟨d,σd,st,M,rd,r,ok,q,hq⟩=>by
 cases d with
 |tup ds0 =>
  have q:ds0.length=is.length/\M _ st:=q
  obtain⟨a,vs,rfl,f,g⟩:=rd.bM
  exact⟨a,vs,rfl,f,by rw[<-g.length];exact q.1,by rw[<-g.length];exact q.1,hq _ _ _ _ (r.eZ is g) .refl ok q.2⟩
 |_=>exact(show False by cases is<;>exact q).elim
theorem Lo {E:XK}(ho:PE X o (bR X.K (aE C sub E x)))(hi:PE X i (bR X.K (aE C sub E y)))
 (ha:∀ v,mv (.Subscript o i pos) X.env v=(do
  let ov <-kg [v] (eval o X.env)
  let iv <-kg [v,ov] (eval i X.env)
  oq pos
  kg [v,ov,iv] (Qr ov iv v)
  Tp [v,ov,iv] [])):PG X (.Subscript o i pos) (JC X.K (mD C sub E (.ix x y))) :=
 (Fi ho hi set_list ha).imp fun v σ H Q ⟨d,σd,st,M,rd,r,ok,q,hq⟩=>by
 refine⟨σd,st,_,r,ok,q,fun v1 H1 ⟨d1,aC,s1,aM,r1,q1⟩=>?_⟩
 refine⟨σd,aC,_,r.step ok s1,aM,q1,fun v2 H2 ⟨d2,aF,s2,bQ,r2,q2⟩=>?_⟩
 have r1':=r1.step aM s2
 have rd':=(rd.step ok s1).step aM s2
 have q2:AF d1 d2 d aF fun bK=>M σd bK:=q2
 cases d1<;>first|exact(show False from q2).elim|skip
 cases d2<;>first|exact(show False from q2).elim|skip
 cases r1'.cJ
 cases r2.int_inv
 rw[KS]at q2
 obtain⟨xs,e,q2⟩:=dZ q2
 obtain⟨j,ej,q2⟩:=fB q2
 obtain⟨vs,g1,g2⟩:=bQ.lst e
 refine⟨_,vs,_,j,rfl,rfl,g1,by rw[<-g2.length];exact ej,?_⟩
 have s3:=kB (H:=H2) (st:=aF) (o:=.lst (vs.set j v)) (m':=.lst (xs.set j d)) e
 exact hq _ _ _ _ (((r.step ok s1).step aM s2).step bQ s3) ((s1.trans s2).trans s3) (bQ.set e (g2.set rd' j)) q2
end
noncomputable def jX (cells:List (Str×Addr)):List (Str×NameKind)->List (Str×Addr)->List (Str×Addr)
 |[],cs=>cs
 |(n,k)::r,cs=>jX cells r (if k == .free then(n,(cells.lookup n).getD 0)::cs else cs)
theorem B2 {env:Env}:∀(names:List (Str×NameKind))(cs:List (Str×Addr)),(∀ p∈names,p.2=.free->∃ c,env.cells.lookup p.1=some c) ->
  (forIn names cs fun(p:Str×NameKind)(cs:List (Str×Addr))=>(if p.2 == .free then do let c <-cellOf env p.1;pure (n5 ((p.1,c)::cs))else pure (n5 cs):Sem (ForInStep (List (Str×Addr)))))=pure (jX env.cells names cs)
 |[],cs,_=>by simp [jX]
 |(n,k)::r,cs,h=>by
  have ih:=fun cs=>B2 r cs fun p hp=>h p (cg _ hp)
  simp only[vg,jX]
  cases e:(k==nv)with
  |true =>
   obtain⟨c,hc⟩:=h (n,k) (de ..) (by simpa using e)
   have hc:env.cells.lookup n=some c:=hc
   simp only[if_true,cellOf,hc,kn,pure_bind]
   exact ih _
  |false =>
   simp only[az,if_false,pure_bind]
   exact ih _
theorem oN {env:Env}{scope:Scope}(h:∀ p∈scope.names,p.2=.free->∃ c,env.cells.lookup p.1=some c):yh scope env=pure (jX env.cells scope.names []):=by
 rw[<-B2 scope.names [] h]
 unfold yh
 simp only[bind_pure]
set_option tactic.hygienic true in
theorem jY {cells:List (Str×Addr)}:∀(names:List (Str×NameKind))(cs:List (Str×Addr)){x:Str}{c:Addr},(∀ p∈names,p.2=.free->∃ c,cells.lookup p.1=some c)->(∀ x c,cs.lookup x=some c->cells.lookup x=some c)->(jX cells names cs).lookup x=some c->cells.lookup x=some c
 |[],cs,x,c,_,h,e=>h x c e
 |(n,k)::r,cs,x,c,hn,h,e=>by
  simp only[jX]at e
  refine jY r _ (fun p hp=>hn p (cg _ hp)) (fun y d ed=>?_) e
  split at ed
  ·rename_i hk
   obtain⟨c',hc'⟩:=hn (n,k) (de ..) (by simpa using hk)
   have hc':cells.lookup n=some c':=hc'
   rw[c5]at ed
   split at ed
   ·rename_i q
    have q:y=n:=by simpa using q
    subst q
    rw[hc']at ed ⊢
    simpa using ed
   ·exact h y d ed
  ·exact h y d ed
theorem FE {cells:List (Str×Addr)}:∀(names:List (Str×NameKind))(cs:List (Str×Addr)){x:Str},(∃ c,cs.lookup x=some c)->∃ c,(jX cells names cs).lookup x=some c
 |[],cs,x,h=>h
 |(n,k)::r,cs,x,h=>by
  simp only[jX]
  refine FE r _ ?_
  split
  ·rw[c5]
   split
   ·exact⟨_,rfl⟩
   ·exact h
  ·exact h
set_option tactic.hygienic true in
theorem uD {cells:List (Str×Addr)}:∀(names:List (Str×NameKind))(cs:List (Str×Addr)){x:Str},names.lookup x=some .free->∃ c,(jX cells names cs).lookup x=some c
 |[],cs,x,h=>by simp at h
 |(n,k)::r,cs,x,h=>by
  simp only[jX]
  rw[c5]at h
  split at h
  ·rename_i q
   cases h
   refine FE r _ ?_
   simp only[beq_self_eq_true,if_true]
   rw[c5,q]
   exact⟨_,rfl⟩
  ·exact uD r _ h
theorem pN {env:Env}:∀{names:List (Str×NameKind)}{x:Str}{k:ue},(names.map fun(n,k)=>if(k==nv&&env.scope.kind == .function&&env.kindOf n==some .cell)then(n,xt)else(n,k)).lookup x=some k->∃ k',names.lookup x=some k'/\(k'=k∨(k'=.free/\k=.cell))
 |[],x,k,h=>by simp at h
 |(n,k0)::r,x,k,h=>by
  simp only[aq]at h
  cases q:(x==n)with
  |true =>
   refine⟨k0,by simp only[c5,q],?_⟩
   by_cases hc:(k0==nv&&env.scope.kind == .function&&env.kindOf n==some .cell)=true
   ·simp only[hc,if_true,c5,q]at h
    cases h
    simp only[ar]at hc
    exact .inr ⟨by simpa using hc.1.1,rfl⟩
   ·simp only[hc,if_false,c5,q,az]at h
    cases h
    exact .inl rfl
  |false =>
   simp only[c5,q]
   refine pN (env:=env) (names:=r) ?_
   by_cases hc:(k0==nv&&env.scope.kind == .function&&env.kindOf n==some .cell)=true
   ·simp only[hc,if_true,c5,q]at h
    exact h
   ·simp only[hc,if_false,c5,q,az]at h
    exact h
set_option tactic.hygienic true in
theorem pP {env:Env}:∀{names:List (Str×NameKind)}{x:Str},names.lookup x=some .free->(names.map fun(n,k)=>if(k==nv&&env.scope.kind == .function&&env.kindOf n==some .cell)then(n,xt)else(n,k)).lookup x=some .cell∨(names.map fun(n,k)=>if(k==nv&&env.scope.kind == .function&&env.kindOf n==some .cell)then(n,xt)else(n,k)).lookup x=some .free
 |[],x,h=>by simp at h
 |(n,k0)::r,x,h=>by
  simp only[aq]
  rw[c5]at h
  split at h
  ·rename_i q;cases h
   split
   ·exact .inl (by rw[c5,q])
   ·exact .inr (by rw[c5,q])
  ·rename_i q
   split
   ·rw[c5,q];exact pP h
   ·rw[c5,q];exact pP h
structure kR (X:Cx)(scope:Scope)(cn:List Str)(aK:List Nat):Prop where
 kind:scope.kind=.function
 nocell:∀ y∈scope.names,y.2≠.cell
 names:∀ y∈scope.names,y.2=.local->scope.names.lookup y.1=some .local
 free:∀ y∈scope.names,y.2=.free->X.env.kindOf y.1=some .cell∨X.env.kindOf y.1=some .free
 len:cn.length=aK.length
 cap:∀(j:Nat)(y:Str),cn[j]? = some y->scope.names.lookup y=some .free/\∃ i,aK[j]? = some i/\X.N[i]? = some y/\(X.env.kindOf y=some .cell∨X.env.kindOf y=some .free)
noncomputable def lV (X:Cx)(scope:Scope)(own cn:List Str)(fp:List Addr)(s:ah)(H:Hp)(Ca:Addr):Cx :=
 { X with N:=own++cn,s₀:=s,H₀:=H,env:=compEnvC scope (jX X.env.cells scope.names []) Ca X.env,outer:=X.stack,ex:=fp,fn:=fun _=>false,calm:=true,pn:=[],xe:=fun _ _=>False }
noncomputable def oS (aK:List Nat)(σ:L2.St):L2.St:=aK.map fun i=>(σ[i]?).getD none
section
variable {X:Cx}{scope:Scope}{own cn:List Str}{aK:List Nat}{fp:List Addr}{pz:List (Addr×Obj)}{σ:L2.St}{H:Hp}{s:ah}
theorem kR.cells (S:kR X scope cn aK)(ok:X.Ok):∀ p∈scope.names,p.2=.free->∃ c,X.env.cells.lookup p.1=some c:=fun p hp e=>ok.has p.1 (S.free p hp e)
theorem RP (S:kR X scope cn aK)(hc:X.calm=true)(I:Inv X pz σ H s)(hf:∀ b∈fp,kP X pz H b)(eB:∀ b∈fp,b<s.heap.objs.size){Ca:Addr}(hC:s.heap.objs.size<=Ca):(lV X scope own cn fp s H Ca).Ok where
 mod:=I.ok.mod
 kind:=S.kind
 glob:=I.ok.glob
 blt:=I.ok.blt
 above:=hC
 inj:=fun x y c h1 h2=>I.ok.inj x y c (jY _ [] (S.cells I.ok) (fun _ _ h=>by simp at h) h1) (jY _ [] (S.cells I.ok) (fun _ _ h=>by simp at h) h2)
 has:=fun x h=>by
  refine uD _ [] ?_
  rcases h with h|h
  ·obtain⟨k,e,r⟩:=pN (env:=X.env) (show gy x (qd _ scope.names)=_ from h)
   rcases r with rfl|⟨rfl,_⟩
   ·exact absurd rfl (S.nocell _ (gx e))
   ·exact e
  ·obtain⟨k,e,r⟩:=pN (env:=X.env) (show gy x (qd _ scope.names)=_ from h)
   rcases r with rfl|⟨rfl,r⟩
   ·exact e
   ·cases r
 cab:=fun x c h _=>by cases h
 hd:=fun _=>I.ok.hd hc
 frames:=I.ok.frames
 stk:=.inl rfl
 exf:=fun b hb=>⟨fun e=>absurd (eB b hb) (by rw[e];exact Nat.not_lt.mpr hC),fun x c h=>(hf b hb).2.2.2.2.1 x c (jY _ [] (S.cells I.ok) (fun _ _ h=>by simp at h) h)⟩
 bs:=I.bs
 bsz:=bu I.ok.bsz I.sz
 noex:=fun b o e hb=>by
  rcases(hf b hb).2.2.2.1 with z|z
  ·exact I.ok.noex b o e z
  ·exact absurd (bq (bc e) (bu I.ok.bsz z)) (fj _)
 exfs:=fun b hb z=>by
  rcases List.mem_cons.mp (I.BX b z)with e|e
  ·exact(hf b hb).2.1 e
  ·exact(hf b hb).2.2.1 e
 kO:=I.stack
 frf:=I.LG
theorem KD (S:kR X scope cn aK)(hc:X.calm=true)(I:Inv X pz σ H s)(hf:∀ b∈fp,kP X pz H b)(eB:∀ b∈fp,b<s.heap.objs.size){Ca:Addr}(hC:s.heap.objs.size<=Ca){h1:Heap}{tk:Nat}
  {m:Str->Option af}(hn:h1.Ns Ca m)(hk:∀ b o,s.heap.get? b=some o->h1.get? b=some o):
  Inv (lV X scope own cn fp s H Ca) [] (ay own.length none++oS aK σ) H { s with heap:=h1,toks:=tk } where
 ok:=RP S hc I hf eB hC
 os:=rfl
 bare:=I.bare
 base:=Un.kept hk
 loc:=⟨m,hn,fun i y v h1' h2 h3=>by
  have hi:own.length<=i:=by
   refine zl fun hi=>?_
   rw[c9 (by simpa using hi),dw]at h2
   split at h2<;>cases h2
  rw[du (by simpa using hi)]at h2
  have h1':(own++cn)[i]? = some y:=h1'
  rw[du hi]at h1'
  simp only[pf,oS,be,dz]at h2
  obtain⟨k,e1,e2⟩:=h2
  obtain⟨hfr,i',e3,e4,e5⟩:=S.cap _ y h1'
  rw[e1]at e3;cases e3
  cases e6:σ[k]? with
  |none=>rw[e6]at e2;cases e2
  |some u =>
   rw[e6]at e2
   have e2:u=some v:=e2
   subst e2
   obtain⟨m0,hn0,hl0⟩:=I.loc
   obtain⟨w,rw',lk⟩:=hl0 k y v e4 e6 (e5.elim (fun z=>.inr (.inl z)) fun z=>.inr (.inr z))
   refine⟨w,rw',?_⟩
   rcases lk with⟨z,_⟩|⟨_,c,ec,⟨oc,hoc,hdc⟩⟩
   ·rcases e5 with e5|e5
    ·rw[e5]at z;cases z
    ·rw[e5]at z;cases z
   ·obtain⟨c',ec'⟩:=uD (cells:=X.env.cells) scope.names [] hfr
    have:=jY _ [] (S.cells I.ok) (fun _ _ h=>by simp at h) ec'
    rw[ec]at this;cases this
    exact .inr ⟨pP (env:=X.env) hfr,c,ec',⟨oc,hk _ _ hoc,hdc⟩⟩⟩
 cell:=fun x c h=>by
  obtain⟨v,o,ho,hd⟩:=I.cell x c (jY _ [] (S.cells I.ok) (fun _ _ h=>by simp at h) h)
  exact⟨v,o,hk _ _ ho,hd⟩
 free:=I.bN.fresh hC
 jT:=fun x c h=>I.jT x c (jY _ [] (S.cells I.ok) (fun _ _ h=>by simp at h) h)
 pin:=fun p hp=>absurd (show p∈([]:List (Addr×Obj))from hp) (by simp)
 bN:=I.bN.kept hk
 len:=by
  show(ay own.length none++oS aK σ).length=(own++cn).length
  simp [oS,S.len]
end
noncomputable def CW (ifs:List Expr)(env:Env):Sem Bool:=forIn ifs true fun c r=>if r=true then do let ok <-Qv c env (eval c env);pure (n5 ok)else pure (n5 r)
def K6 (X:Cx)(ifs:List Expr)(t:L2.TT):Prop :=
 ∀(pz:List (Addr×Obj))(s:ah)(σ:L2.St)(H:Hp)(Q:Bool->Hp->Prop),Inv X pz σ H s->t σ H Q->wpAny (model X.prog X.w) X.A (CW ifs X.env) (TP X pz σ Q) X.xe s
inductive AE (K:aa)(te:St->aA->(Bool->aA->Prop)->Prop)(σ:L2.St)(H:Hp)(Q:Bool->Hp->Prop):Prop where
 |mk (σd:St)(st:aA)(R:Bool->aA->Prop)(r:dA K H σd σ)(ok:aN K st H)(q:te σd st R)(hq:∀(b:Bool) H',QX K H st (R b) H'->Q b H'):AE K te σ H Q
section
variable {X:Cx}{C:bC}{sub:Nat->Nat->Bool}{E:XK}{a b c e o i tg:Expr}{x y z:Ex}{pos:Pos}
theorem Dq:K6 X [] (AE X.K (jP C sub E [])):=fun pz s σ H Q I ⟨σd,st,R,r,ok,q,hq⟩=>by
 unfold CW
 simp only[wj]
 exact ak ⟨H,I,hq true H ⟨st,.refl,ok,q⟩⟩
end
theorem GK {prog:br}{w:dg}{A:cp}{s:ah}{R:Sd->ah->Prop}{elt target iter:Expr}{ifs:List Expr}{scope:Scope}{pos:Pos}{it acc:af}{env:Env}(I:Nat->ah->Prop)
 (turn:∀ n s,I n s->wpAny (model prog w) A (rg it) (fun r s₁=>match r with
  |none=>R (.ok .next) s₁
  |some v=>wpAny (model prog w) A (qg target it v) (fun _ s₁'=>wpAny (model prog w) A (mv target env v) (fun _ s₂ =>
   wpAny (model prog w) A (CW ifs env) (fun ok s₃ =>
   if ok=true then wpAny (model prog w) A (eval elt env) (fun x s₄ =>
    wpAny (model prog w) A (call (.builtin "list.append") [acc,x]) (fun _ s₅=>∃ m,m<n/\I m s₅) (fun _ _=>False) s₄) (fun _ _=>False) s₃
   else ∃ m,m<n/\I m s₃) (fun _ _=>False) s₂) (fun _ _=>False) s₁') (fun _ _=>False) s₁) (fun _ _=>False) s)
 (n:Nat)(h:I n s):
 ku (model prog w) A (.compLoop (.ListComp elt [⟨target,iter,ifs,0⟩] scope pos) 0 it acc env) R s:=by
 refine codeAny_loop rfl I (fun n s hI=>?_) n h
 show wpAny _ A ((compTurn (.ListComp elt [⟨target,iter,ifs,0⟩] scope pos) 0 it acc env).onRaise (fun x=>do noteFrame x env;theTreesLotGoes x)) _ _ s
 refine wpAny_noted ?_
 rw[compTurn_list]
 refine ae (px (ae (jw (turn n s hI) (fun r s₁ h₁=>?_) fun _ _ h'=>h'.elim)))
 cases r with
 |none=>exact ak h₁
 |some v =>
 refine ae (jw h₁ (fun _ s₁' h₁'=>?_) fun _ _ h'=>h'.elim)
 refine ae (jw h₁' (fun _ s₂ h₂=>ae (jw h₂ (fun ok s₃ h₃=>?_) fun _ _ h'=>h'.elim)) fun _ _ h'=>h'.elim)
 cases ok with
 |false=>exact ak ⟨rfl,h₃⟩
 |true =>
  exact ae (ae (jw h₃ (fun x s₄ h₄=>ae (jw h₄ (fun _ s₅ h₅=>ak (ak ⟨rfl,h₅⟩)) fun _ _ h'=>h'.elim)) fun _ _ h'=>h'.elim))
noncomputable def K5 (K:aa):Bool->Nat->TG
 |true,_=>BV 0
 |false,n=>ZP K n (sL (bb n))
theorem BL:∀(is:List Nat)(vs:List V)(σ:L2.St)(n i:Nat),(∀ j∈is,j<n)->n<=i->(kE is vs σ)[i]? = σ[i]?
 |[],_,_,_,_,_,_=>by simp [kE]
 |_::_,[],_,_,_,_,_=>by simp [kE]
 |j::is,v::vs,σ,n,i,h,hi=>by
  have:=BL is vs (σ.set j (some v)) n i (fun k hk=>h k (cg _ hk)) hi
  simp only[kE,j0,qh]at this ⊢
  rw[this]
  have:=h j (de ..)
  rw[i5 (by omega)]
theorem DW:∀(is:List Nat)(vs:List V)(σ:L2.St),(kE is vs σ).length=σ.length
 |[],_,_=>by simp [kE]
 |_::_,[],_=>by simp [kE]
 |j::is,v::vs,σ=>by
  have:=DW is vs (σ.set j (some v))
  simp only[kE,j0,qh,Qk]at this ⊢
  exact this
theorem ME {K:aa}{H:Hp}{one:Bool}{n:Nat}{d:D}{v:V}{σd:St}{σ:L2.St}{P:St->Prop}{Q:L2.St->Hp->Prop}(hn:one=true->n=1)(h:kI one (bb n) d σd P)(r:dA K H σd σ)(rd:Rep K H d v)
 (hQ:∀ σ2 rF,dA K H rF σ2->P rF->(∀ i,n<=i->σ2[i]? = σ[i]?)->σ2.length=σ.length->Q σ2 H):K5 K one n v σ H Q:=by
 cases one with
 |true =>
 cases hn rfl
 have h:P (σd.set 0 (some d)):=h
 refine hQ _ _ (r.set 0 rd) h (fun i hi=>?_) (by simp)
 rw[i5 (by omega)]
 |false =>
 cases d with
 |tup ds =>
  rw[QC]at h
  obtain⟨a,vs,rfl,f,g⟩:=rd.bM
  have hl:vs.length=n:=by rw[<-g.length,h.1];simp
  refine⟨a,vs,rfl,f,hl,by simp [hl],hQ _ _ (r.eZ _ g) h.2 (fun i hi=>BL _ _ _ n i (fun j hj=>by simpa using hj) hi) (DW _ _ _)⟩
 |_=>exact(show False by cases n<;>exact h).elim
section
variable {K:aa}{H:Hp}{st:aA}{Da:Addr}{ys zs:List V}
theorem WB (hD:H Da=some (.lst ys)){a:Addr}{vs:List V}(h:cX K H a vs):cX K (upd H Da (.lst zs)) a vs:=by
 rcases h with(h|⟨o,h⟩)|h
 ·exact .inl (.inl (by rw[bA (MI h hD (by simp))];exact h))
 ·exact .inl (.inr ⟨o,by rw[bA (MI h hD (by simp))];exact h⟩)
 ·exact .inr h
theorem UG (hD:H Da=some (.lst ys)){a:Addr}{vs:List V}(h:lF K H a vs):lF K (upd H Da (.lst zs)) a vs:=by
 rcases h with⟨o,h⟩|h
 ·exact .inl ⟨o,by rw[bA (MI h hD (by simp))];exact h⟩
 ·exact .inr h
mutual
theorem Rep.alt (hD:H Da=some (.lst ys)):∀{d:D}{v:V},Rep K H d v->Rep K (upd H Da (.lst zs)) d v
 |_,_,.non=>.non
 |_,_,.bl b=>.bl b
 |_,_,.int i=>.int i
 |_,_,.str x=>.str x
 |_,_,.tup h r=>.tup (WB hD h) (aH.alt hD r)
 |_,_,.ref a=>.ref a
 |_,_,.bL h r=>.bL (UG hD h) (aH.alt hD r)
 |_,_,.cY h=>.cY h
theorem aH.alt (hD:H Da=some (.lst ys)):∀{ds:List D}{vs:List V},aH K H ds vs->aH K (upd H Da (.lst zs)) ds vs
 |_,_,.nil=>.nil
 |_,_,.cons h r=>.cons (Rep.alt hD h) (aH.alt hD r)
end
theorem aN.alt (ok:aN K st H)(hD:H Da=some (.lst ys))(hn:st Da=none):aN K st (upd H Da (.lst zs)):=fun a o e=>by
 have ne:a≠Da:=fun z=>by rw[z,hn]at e;cases e
 have:=ok a o e
 cases o with
 |lst ds =>
  obtain⟨vs,q,r⟩:=this
  exact⟨vs,by rw[bA ne];exact q,r.alt hD⟩
 |dic _ _=>exact this.elim
 |ins c fs =>
  obtain⟨C,dx,ws,q,q2,q3,r⟩:=this
  exact⟨C,dx,ws,q,by rw[bA ne];exact q2,q3,r.alt hD⟩
 |tab ks vs =>
  cases this with
  |tup xs ws q q0 q1 q2 q3 q4 r=>exact .tup xs ws (by rw[bA ne];exact q) q0 q1 q2 (q3.alt hD) q4 (r.alt hD)
  |num xs ws q q0 q1 q2 q4 r=>exact .num xs ws (by rw[bA ne];exact q) q0 q1 q2 q4 (r.alt hD)
 |fn f cs =>
  obtain⟨vs,⟨T,clos,pm,ctv,c',oc,ne0,t,q,ec,co,inj,dom,cap⟩,r⟩:=this
  have ka:∀{b o u},H b=some (.frz o u)->upd H Da (.lst zs) b=some (.frz o u):=fun{b o u} z=>by
   rw[bA (fun w=>by rw[w,hD]at z;cases z)];exact z
  exact⟨vs,⟨T,clos,pm,ctv,c',oc,ne0,t,ka q,ka ec,co,inj,dom,cap.of fun b o z=>ka z⟩,r.alt hD⟩
 |cod κ =>
  obtain⟨q0,q|⟨c',oc,q,ec,co⟩⟩:=this
  ·exact⟨q0,.inl (by rw[bA ne];exact q)⟩
  ·exact⟨q0,.inr ⟨c',oc,by rw[bA ne];exact q,by rw[bA (fun w=>by rw[w,hD]at ec;cases ec)];exact ec,co⟩⟩
theorem aN.take (ok:aN K st H)(hD:H Da=some (.lst ys)){ds:List D}(r:aH K H ds ys):aN K (put st Da (.lst ds)) H:=fun a o e=>by
 by_cases ha:a=Da
 ·subst ha
  rw[aV]at e;cases e
  exact⟨ys,hD,r⟩
 ·rw[aU ha]at e
  exact ok a o e
end
theorem T4 {K:aa}{H:Hp}{σd:St}{σ:L2.St}(r:dA K H σd σ)(n:Nat)(aK:List Nat):dA K H (ay n none++aK.map fun i=>(σd[i]?).getD none) (ay n none++oS aK σ):=by
 refine⟨by simp [oS],fun i d e=>?_⟩
 by_cases hi:i<n
 ·rw[c9 (by simpa using hi),dw]at e
  split at e<;>cases e
 ·rw[du (by simpa using hi)]at e ⊢
  simp only[pf,be,dz]at e ⊢
  obtain⟨k,e1,e2⟩:=e
  cases q:σd[k]? with
  |none=>rw[q]at e2;cases e2
  |some u =>
   rw[q]at e2
   have e2:u=some d:=e2
   subst e2
   obtain⟨v,h1,h2⟩:=r.2 k d q
   refine⟨v,?_,h2⟩
   simp only[oS,be,dz]
   exact⟨k,e1,by rw[h1];rfl⟩
theorem YI {P:br}{w:dg}{H:Hp}{h h':Heap}{Ca:Addr}(ok:gQ P w H h)(hn:H Ca=none)(hs:j9 Ca h h'):gQ P w H h':=fun b u e=>by
 refine(ok b u e).nF (fun c v hc q=>hs.extBut c v ?_ q) (fun _ q=>q) fun _ _ q=>q
 rcases hc with z|z
 ·rw[z];exact fun y=>by rw[y,hn]at e;cases e
 ·exact fun y=>by rw[y,hn]at z;cases z
section
variable {X:Cx}{C:bC}{sub:Nat->Nat->Bool}{elt iter tg:Expr}{ifs:List Expr}{xe:Ex}{lG aD:List Ex}{pos:Pos}{scope:Scope}{own cn:List Str}{aK:List Nat}{one:Bool}{k:Option IK}
theorem FD (hC:bO C C)(S:kR X scope cn aK)(hc:X.calm=true)(nH:one=true->own.length=1)
  (hg:∀ fp s H Ca,PG (lV X scope own cn fp s H Ca) tg (K5 X.K one own.length))
  (hts:∀ fp s H Ca,K6 (lV X scope own cn fp s H Ca) ifs (AE X.K (jP C sub EF lG)))
  (he:∀ fp s H Ca,PE (lV X scope own cn fp s H Ca) elt (bR X.K (aE C sub EF xe)))
  {use:Option (af->Sem Unit)}{Qf:af->ah->Prop}
  {pz:List (Addr×Obj)}{s₂:ah}{σ:L2.St}{σd:St}{H1:Hp}{aC:aA}{J:It}{fp:List Addr}{it:Addr}{tn:Nat->Heap->Prop}{as:List Nat}{xs:List D}{R:List D->aA->Prop}
  (I2:Inv X pz σ H1 s₂)(T:Turn X.prog X.w X.K tg J fp it tn)(t0:tn 0 s₂.heap)(f2:∀ b∈fp,kP X pz H1 b)(r:dA X.K H1 σd σ)(aM:aN X.K aC H1)(j:zV X.K J as xs H1 aC)
  (q:jG (same as aC) (fun x aF K=>kI one (bb own.length) x (ay own.length none++aK.map fun i=>(σd[i]?).getD none) fun σ' =>
    jP C sub EF lG σ' aF fun b bK=>if b=true then aE C sub EF xe σ' bK fun d cN=>K (some d) cN else K none bK) xs [] aC R)
  (fin:∀(Da Ca:Addr)(H':Hp)(aB:aA)(ds:List D)(m:Str->Option af)(s':ah),s'.heap.Ns Ca m->(∀ h',j9 Ca s'.heap h'->Inv X pz σ H' { s' with heap:=h' })->Inv X pz σ H' s'->Ca≠X.env.locals->(∀ x c,X.env.cells.lookup x=some c->c≠Ca)->Ca∉X.fs->X.s₀.heap.objs.size<=Ca->(∀ p∈X.pn++pz,p.1≠Ca)->H' Ca=none->Step H1 aC H' aB->aN X.K (put aB Da (.lst ds)) H'->H1 Da=none->aB Da=none->R ds aB ->
   Ta (model X.prog X.w) X.A X.xe use Qf (.ref Da) Ca (.ok .next) s'):
  wpAny (model X.prog X.w) X.A (newList []) (fun acc s₃ =>
   wpAny (model X.prog X.w) X.A (newFunctionEnv scope X.env.globals (jX X.env.cells scope.names []) [] X.env.qual none .none (some X.env)) (fun cenv s₄ =>
    ku (model X.prog X.w) X.A (.compStart (.ListComp elt [⟨tg,iter,ifs,0⟩] scope pos) 0 (.ref it) acc { cenv with scope:=relabel scope X.env }) (Ta (model X.prog X.w) X.A X.xe use Qf acc cenv.locals) s₄) X.xe s₃) X.xe s₂:=by
 have hD1:H1 s₂.heap.objs.size=none:=I2.fresh
 obtain⟨tf,htf0⟩:∃ tf:D->aA->(Option D->aA->Prop)->Prop,tf=fun x aF K=>kI one (bb own.length) x (ay own.length none++aK.map fun i=>(σd[i]?).getD none) fun σ' =>
    jP C sub EF lG σ' aF fun b bK=>if b=true then aE C sub EF xe σ' bK fun d cN=>K (some d) cN else K none bK:=⟨_,rfl⟩
 have htf:∀ x aF (K:Option D->aA->Prop),tf x aF K->kI one (bb own.length) x (ay own.length none++aK.map fun i=>(σd[i]?).getD none) fun σ' =>
    jP C sub EF lG σ' aF fun b bK=>if b=true then aE C sub EF xe σ' bK fun d cN=>K (some d) cN else K none bK:=fun x aF K h=>by rw[htf0]at h;exact h
 rw[<-htf0]at q
 refine fv ?_
 have I3:=I2.SS (aD:=[]) (ys:=[]) (t':=s₂.toks) .nil (cx _)
 generalize hS3:({ s₂ with heap:=s₂.heap.push { cls:=.type "list", dict:=none,data:=.seq ([]:List af).toArray } }:ah)=s₃
 have I3:Inv X pz σ (upd H1 s₂.heap.objs.size (.lst [])) s₃:=by rw[<-hS3];exact I3
 have lt3:s₂.heap.objs.size<s₃.heap.objs.size:=by rw[<-hS3];show _<(s₂.heap.push _).objs.size;rw[ff];exact gm _
 have old3:∀ b o,s₂.heap.get? b=some o->s₃.heap.get? b=some o:=fun b o e=>by rw[<-hS3];exact ag _ e
 generalize hDa:s₂.heap.objs.size=Da at *
 have hlt2:∀ b∈fp,b<Da:=fun b hb=>by
  obtain⟨o,e,_⟩:=T.obj _ _ t0 b hb
  rw[<-hDa];exact bc e
 have f3:∀ b∈fp,kP X pz (upd H1 Da (.lst [])) b:=fun b hb=>⟨by rw[bA (bz (hlt2 b hb))];exact(f2 b hb).1,(f2 b hb).2⟩
 have hlt3:∀ b∈fp,b<s₃.heap.objs.size:=fun b hb=>Si (hlt2 b hb) lt3
 refine wk S.nocell (by intro y hy;simp at hy) (fun h₁ hns hsb=>?_) S.kind
 have keep1:∀ b o,s₃.heap.get? b=some o->h₁.get? b=some o:=fun b o e=>hsb.extBut b o (bz (bc e)) (ag _ e)
 have t1:tn 0 h₁:=T.keep _ _ _ t0 fun b hb o e=>keep1 b o (old3 b o e)
 have B0:=KD (own:=own) S hc I3 f3 hlt3 (av _) (tk:=s₃.toks+([]:List (Str×Value)).length) hns keep1
 generalize hXc:lV X scope own cn fp s₃ (upd H1 Da (.lst [])) s₃.heap.objs.size=Xc at B0
 have hgc:PG Xc tg (K5 X.K one own.length):=by rw[<-hXc];exact hg _ _ _ _
 have htc:K6 Xc ifs (AE X.K (jP C sub EF lG)):=by rw[<-hXc];exact hts _ _ _ _
 have hec:PE Xc elt (bR X.K (aE C sub EF xe)):=by rw[<-hXc];exact he _ _ _ _
 have eP:Xc.prog=X.prog:=by rw[<-hXc];rfl
 have eW:Xc.w=X.w:=by rw[<-hXc];rfl
 have eK:Xc.K=X.K:=by rw[<-hXc];rfl
 have eA:Xc.A=X.A:=by rw[<-hXc];rfl
 have eX:Xc.xe=fun _ _=>False:=by rw[<-hXc];rfl
 have eN:Xc.env=compEnvC scope (jX X.env.cells scope.names []) s₃.heap.objs.size X.env:=by rw[<-hXc];rfl
 have eL:Xc.env.locals=s₃.heap.objs.size:=by rw[eN];rfl
 have eC:Xc.calm=true:=by rw[<-hXc];rfl
 have fC:∀{H':Hp},(∀ b∈fp,H' b=none)->∀ b∈fp,kP Xc [] H' b:=fun{H'} hn b hb=>by
  have ok:=B0.ok
  refine⟨hn b hb,by rw[eL];exact bz (hlt3 b hb),ok.exfs b (by rw[<-hXc];exact hb),.inl (by rw[<-hXc];exact hb),fun x c e=>(ok.exf b (by rw[<-hXc];exact hb)).2 x c e,fun p hp=>?_⟩
  have:p∈([]:List (Addr×Obj)):=by rw[<-hXc]at hp;exact hp
  cases this
 have capsRel:∀{H':Hp}{aB:aA},Step H1 aC H' aB->dA X.K H' (ay own.length none++aK.map fun i=>(σd[i]?).getD none) (ay own.length none++oS aK σ):=fun s'=>(T4 r _ _).step aM s'
 have loop:∀ s4:ah,s4 = { s₃ with heap:=h₁,toks:=s₃.toks+([]:List (Str×Value)).length }->ku (model X.prog X.w) X.A (.compLoop (.ListComp elt [⟨tg,iter,ifs,0⟩] scope pos) 0 (.ref it) (.ref Da) Xc.env) (Ta (model X.prog X.w) X.A X.xe use Qf (.ref Da) s₃.heap.objs.size) s4:=by
  rintro s4 rfl
  refine GK (fun n s'=>∃ i H' aB ds ys,n+i=xs.length/\Inv Xc [] (ay own.length none++oS aK σ) H' s'/\tn i s'.heap/\(∀ b∈fp,H' b=none)/\Step H1 aC H' aB/\aN X.K aB H'/\H' Da=some (.lst ys)/\aB Da=none/\aH X.K H' ds ys /\
   jG (same as aC) tf (xs.drop i) ds aB R) ?_ xs.length
   ⟨0,_,aC,[],[],rfl,B0,t1,fun b hb=>(f3 b hb).1,kZ hD1,aM.new hD1,cS,aM.fresh hD1,.nil,by simpa using q⟩
  rintro n s' ⟨i,H',aB,ds,ys,hni,I',ti,fr',cQ,gC,hD',hst',rs,q'⟩
  by_cases hi:i<xs.length
  ·-- a turn
   have ed:xs.drop i=xs[i]::xs.drop (i+1):=e8 hi
   rw[ed]at q'
   obtain⟨g1,gl,q'⟩:=q'
   have hx:xs[i]? = some xs[i]:=aj hi
   have hpn:=T.item Xc eP eW eK eC i [] s' _ H' (fun _ _=>False) I' (fC fr') ti (j.go i H' aB xs[i] cQ gC g1 hx)
   rw[eA]at hpn
   refine aY hpn fun rr s5 ⟨u,hu,h5⟩=>?_
   subst hu
   refine aY h5 fun _ s6 ⟨v,H6,I6,rv,y6,t6,fr6⟩=>?_
   obtain⟨s6s,Fo,rd⟩:=j.yld i H' aB xs[i] v H6 cQ gC g1 hx y6
   have D6:=s6s Da _ hD' hst'
   have I6':=I6.pinned (fC fr6) (T.obj _ _ t6)
   have hasg:=hgc _ s6 _ H6 v u (fun σ2 H2=>∃ rF,H2=H6/\dA X.K H6 rF σ2/\(∀ i,own.length<=i->σ2[i]? = (ay own.length none++oS aK σ)[i]?)/\σ2.length=(ay own.length none++oS aK σ).length /\
    jP C sub EF lG rF aB fun b bK=>if b=true then aE C sub EF xe rF bK fun d cN=>jG (same as aC) tf (xs.drop (i+1)) (ds++[d]) cN R else jG (same as aC) tf (xs.drop (i+1)) ds bK R) I6' rv
    (ME nH (htf _ _ _ q') ((capsRel cQ).step gC s6s) rd fun σ2 rF r2 p2 k2 l2=>⟨rF,rfl,r2,k2,l2,p2⟩)
   rw[eP,eW,eA,eX]at hasg
   refine aY hasg fun _ s7 ⟨σ2,H7,I7,rF,e7,r7,k7,l7,q7⟩=>?_
   subst e7
   have hte:=htc _ s7 σ2 H7 _ I7 ⟨rF,aB,_,r7,Fo,q7,fun b H' z=>z⟩
   rw[eP,eW,eA,eX]at hte
   have again:∀{H8:Hp}{s8:ah}{iP:aA}{ds8:List D}{ys8:List V},Inv Xc ([]++vO fp s6.heap) σ2 H8 s8->Step H1 aC H8 iP->aN X.K iP H8->H8 Da=some (.lst ys8)->iP Da=none->aH X.K H8 ds8 ys8->jG (same as aC) tf (xs.drop (i+1)) ds8 iP R ->
     ∃ m,m<n/\∃ i H' aB ds ys,m+i=xs.length/\Inv Xc [] (ay own.length none++oS aK σ) H' s8/\tn i s8.heap/\(∀ b∈fp,H' b=none)/\Step H1 aC H' aB/\aN X.K aB H'/\H' Da=some (.lst ys)/\aB Da=none/\aH X.K H' ds ys/\jG (same as aC) tf (xs.drop i) ds aB R:=fun{H8 s8 iP ds8 ys8} I8 s8s RE hD8 hs8 rs8 q8=>by
    have pinned:∀ b∈fp,∀ o,s6.heap.get? b=some o->s8.heap.get? b=some o/\H8 b=none:=fun b hb o e=>by
     have:=I8.pin (b,o) (fu _ (fu _ (uF hb e)))
     exact⟨this.1,this.2.1⟩
    refine⟨n-1,by omega,i+1,H8,iP,ds8,ys8,by omega,?_,T.keep _ _ _ t6 fun b hb o e=>(pinned b hb o e).1,fun b hb=>?_,s8s,RE,hD8,hs8,rs8,q8⟩
    ·refine I8.tW.weak (by rw[l7]) fun i0 v0 e0=>?_
     by_cases hi0:i0<own.length
     ·rw[c9 (by simpa using hi0),dw]at e0
      split at e0<;>cases e0
     ·rw[k7 i0 (by omega)];exact e0
    ·obtain⟨o,e,_⟩:=T.obj _ _ t6 b hb
     exact(pinned b hb o e).2
   have s17:=cQ.trans s6s
   have rs7:=rs.step gC s6s
   refine aY hte fun b s8 ⟨H8,I8,iP,s8s,RE,q8⟩=>?_
   have D8:=s8s Da _ D6.1 D6.2
   have rs8:=rs7.step Fo s8s
   cases b with
   |false=>exact again I8 (s17.trans s8s) RE D8.1 D8.2 rs8 q8
   |true =>
    have hel:=hec _ s8 σ2 H8 _ I8 ⟨rF,iP,_,r7.step Fo s8s,RE,q8,fun v H' z=>z⟩
    rw[eP,eW,eA,eX]at hel
    refine aY hel fun u9 s9 ⟨v9,H9,I9,rv9,d9,RF,s9s,Qc,rd9,q9⟩=>?_
    have D9:=s9s Da _ D8.1 D8.2
    have rs9:=rs8.step RE s9s
    have hap:=L2.qU _ s9 σ2 H9 (.ref Da) [v9] (.ref Da) [u9] (fun _ H'=>H'=upd H9 Da (.lst (ys++[v9]))) I9 rfl (.cons rv9 .nil) ⟨Da,ys,v9,rfl,rfl,D9.1,by rw[fM,<-rs9.length];exact gl,rfl⟩
    rw[eP,eW,eA,eX]at hap
    refine aY hap fun _ s10 ⟨_,H10,I10,_,e10⟩=>?_
    subst e10
    refine again I10 (fun a o e0 n0=>?_) (Qc.alt D9.1 D9.2) cS D9.2 ((rs9.append (.cons rd9 .nil)).alt D9.1) q9
    have:=((s17.trans s8s).trans s9s) a o e0 n0
    exact⟨by rw[bA (hX e0 hD1)];exact this.1,this.2⟩
  ·-- the end
   have ed:xs.drop i=[]:=lp (by omega)
   rw[ed]at q'
   have hpn:=T.done Xc eP eW eK eC i [] s' _ H' (fun _ _=>False) I' (fC fr') ti (j.stop i H' aB cQ gC q'.1 (by omega))
   rw[eA]at hpn
   refine aY hpn fun rr s5 ⟨hr,I5⟩=>?_
   subst hr
   have un5:Un (tB X.stack) fp (upd H1 Da (.lst [])) H' s₃.heap s5.heap:=by have:=I5.base;rw[<-hXc]at this;exact this
   have os5:s5.os=s₃.os:=by have:=I5.os;rw[<-hXc]at this;exact this
   have fC5:H' s₃.heap.objs.size=none:=by have:=I5.free;rw[eL]at this;exact this
   have hch:∀ b∈fp,(b∈X.ex∨X.s₀.heap.objs.size<=b)/\b≠X.env.locals/\(∀ x c,X.env.cells.lookup x=some c->c≠b)/\∀ p∈X.pn++pz,p.1≠b:=fun b hb=>⟨(f2 b hb).2.2.2.1,(f2 b hb).2.1,(f2 b hb).2.2.2.2.1,(f2 b hb).2.2.2.2.2⟩
   have hok5:gQ X.prog X.w H' s5.heap:=by have:=I5.bN;rw[eP,eW]at this;exact this
   have Iall:∀ h',(∀ b o,b≠s₃.heap.objs.size->s5.heap.get? b=some o->h'.get? b=some o)->gQ X.prog X.w H' h'->Inv X pz σ H' { s5 with heap:=h' }:=fun h' kk bN=>by
    have ne:∀ b o,s₃.heap.get? b=some o->b≠s₃.heap.objs.size:=fun b o e=>bz (bc e)
    refine I3.UT (s':={ s5 with heap:=h' }) (ch:=fp) os5 ⟨fun b o e n hb hx=>kk b o (ne b o e) (un5.keep b o e n hb hx),fun b o e n hb hx=>?_,un5.free,fun b o e hx=>?_,un5.qH,un5.mR,un5.oV⟩ bN I5.bare hch
    ·obtain⟨sl,e'⟩:=un5.slot b o e n hb hx
     exact⟨sl,kk b _ (ne b o e) e'⟩
    ·obtain⟨o',e'⟩:=un5.there b o e hx
     exact⟨o',kk b o' (ne b o e) e'⟩
   obtain⟨m5,ns5,_⟩:=I5.loc
   rw[eL]at ns5
   refine fin Da s₃.heap.objs.size H' aB ds m5 s5 ns5 (fun h' hs=>Iall h' (fun b o hb e=>hs.extBut b o hb e) (YI hok5 fC5 hs)) (Iall s5.heap (fun b o _ e=>e) hok5) (mh I3.lt) (fun x c e=>?_) (I3.Cc (av _)) I3.sz (fun p hp=>bz (bc (I3.pin p hp).1)) fC5 cQ (gC.take hD' rs) hD1 hst' q'.2
   obtain⟨v,o,ho,_⟩:=I3.cell x c e
   exact bz (bc ho)
 have hl:=loop _ rfl
 rw[eN]at hl
 exact codeAny_compStart_list hl (T.self X.A 0 _ _ _ t1 hl)
theorem HI {H H1 H':Hp}{st aC aB:aA}{Da:Addr}{o:MO}(s1:Step H st H1 aC)(s2:Step H1 aC H' aB)(hD:H1 Da=none):Step H st H' (put aB Da o):=fun a u e n=>by
 have e1:=s1 a u e n
 have e2:=s2 a u e1.1 e1.2
 exact⟨e2.1,by rw[aU (hX e1.1 hD)];exact e2.2⟩
theorem El (hC:bO C C)(S:kR X scope cn aK)(hc:X.calm=true)(nH:one=true->own.length=1)
 (hi:PI X tg iter (wV X.K fun σ st M=>bG C sub EF aD σ st fun ds aC=>gI k ds aC fun as xs=>M as xs aC))
 (hg:∀ fp s H Ca,PG (lV X scope own cn fp s H Ca) tg (K5 X.K one own.length))
 (hts:∀ fp s H Ca,K6 (lV X scope own cn fp s H Ca) ifs (AE X.K (jP C sub EF lG)))
 (he:∀ fp s H Ca,PE (lV X scope own cn fp s H Ca) elt (bR X.K (aE C sub EF xe)))
 (hs:∀ x,gu iter X.env x=pure x):
 PE X (.ListComp elt [⟨tg,iter,ifs,0⟩] scope pos) (bR X.K (aE C sub EF (.comp own.length aK (bb own.length) one k aD lG xe))):=by
 intro pz s σ H Q I ⟨σd,st,R,r,ok,q,hq⟩
 rw[eval_ListComp]
 refine tz (use:=none) rfl hs (oN (S.cells I.ok)) S.kind S.names ?_
 refine aY (hi pz s σ H _ I ⟨σd,st,_,r,ok,q,fun J H1 z=>z⟩) fun v s1 h1=>aY h1 fun itv s2 h2=>?_
 obtain⟨it,fp,tn,J,H1,rfl,I2,T,t0,f2,as,xs,aC,cQ,aM,j,q1⟩:=h2
 refine FD (use:=none) hC S hc nH hg hts he I2 T t0 f2 (r.step ok cQ) aM j q1 ?_
 intro Da Ca H' aB ds m s' hns NR hI _ _ _ _ _ _ fL okp hD1 hst' hR
 exact⟨m,hns,fun h' hh=>⟨.ref Da,H',NR h' hh,rfl,hq _ _ ⟨.ref Da,_,HI cQ fL hD1,okp,.ref Da,hR.2 Da hst'⟩⟩⟩
theorem Ez {i:Nat}{y:Str}{py spos:Pos}(hC:bO C C)(S:kR X scope cn aK)(hc:X.calm=true)(nH:one=true->own.length=1)
  (hi:PI X tg iter (wV X.K fun σ st M=>bG C sub EF aD σ st fun ds aC=>gI k ds aC fun as xs=>M as xs aC))
  (hg:∀ fp s H Ca,PG (lV X scope own cn fp s H Ca) tg (K5 X.K one own.length))
  (hts:∀ fp s H Ca,K6 (lV X scope own cn fp s H Ca) ifs (AE X.K (jP C sub EF lG)))
  (he:∀ fp s H Ca,PE (lV X scope own cn fp s H Ca) elt (bR X.K (aE C sub EF xe)))
  (hN:X.N.Nodup)(hy:X.N[i]? = some y)(hx:Loc X.env.scope y)(hf:X.fn y=true∨X.env.scope.names.lookup y=some .local)
  (hsw:mf (.ListComp elt [⟨tg,iter,ifs,0⟩] scope pos) (some (.Name y py)) spos.line X.env=pure true)
  (hs:∀ x,gu iter X.env x=pure x):
  PS X (.Assign [.Name y py] (.ListComp elt [⟨tg,iter,ifs,0⟩] scope pos) spos) (iH X.K (wpS C sub (.asg (.nm i) (.comp own.length aK (bb own.length) one k aD lG xe)))):=by
 intro pz s σ H D I ⟨σd,st,P,r,ok,q,h⟩
 have q:=qD hC h.ex q
 rw[exec_Assign_Name_used _ _ _ _ hsw]
 refine ae (px (ae ?_))
 show wpAny _ X.A (do let _ <-comprehension (.ListComp elt [⟨tg,iter,ifs,0⟩] scope pos) scope X.env _ (newList []) false (eval iter X.env) (some (mv (.Name y py) X.env))) _ _ s
 refine ae (jw (tz (use:=some (mv (.Name y py) X.env)) (Q:=fun _ s'=>SP X pz D .next s') rfl hs (oN (S.cells I.ok)) S.kind S.names ?_) (fun _ s' hq=>ak (ak hq)) fun _ _ e=>e)
 refine aY (hi pz s σ H _ I ⟨σd,st,_,r,ok,q,fun J H1 z=>z⟩) fun v s1 h1=>aY h1 fun itv s2 h2=>?_
 obtain⟨it,fp,tn,J,H1,rfl,I2,T,t0,f2,as,xs,aC,cQ,aM,j,q1⟩:=h2
 refine FD (use:=some (mv (.Name y py) X.env)) hC S hc nH hg hts he I2 T t0 f2 (r.step ok cQ) aM j q1 ?_
 intro Da Ca H' aB ds m s' hns NR hI hL hcl hfs iD hpins hn fL okp hD1 hst' hR
 show wpAny _ X.A (mv (.Name y py) X.env (.ref Da)) _ _ _
 refine ym (D4 hI hN hy hx (v:=.ref Da) rfl (fun s'' I'' kk=>?_) hf)
 obtain⟨ad,sb,had⟩:=kk
 have nad:Ca≠ad:=fun z=>by
  rcases had with e|e
  ·exact hL (z.trans e)
  ·exact hcl y ad e z.symm
 refine⟨m,hns.at' fun o e=>(sb.2 Ca nad).trans e,fun h' hh=>?_⟩
 refine⟨σ.set i (some (.ref Da)),H',I''.turned (t':=s''.toks) (fun b o hb e=>hh.extBut b o hb e) hn hL (.inr iD) hcl hpins,?_⟩
 have bK:=HI (o:=.lst ds) cQ fL hD1
 exact h.nx _ _ _ _ ((r.step ok bK).set i (.ref Da)) bK okp (hR.2 Da hst')
end
theorem E8 {K:aa}{H:Hp}{ds:List D}{vs:List V}(r:aH K H ds vs){N:List Str}{np:Nat}(h:ds.length=np):dA K H (start np N.length ds) (L2.start N vs):=by
 refine⟨by simp [start,L2.start,r.length,<-h],fun i d e=>?_⟩
 unfold start at e
 by_cases hi:i<ds.length
 ·rw[c9 (by simpa using hi),be,dz]at e
  obtain⟨d',e1,e2⟩:=e
  cases e2
  obtain⟨v,e3,e4⟩:=r.get e1
  refine⟨v,?_,e4⟩
  unfold L2.start
  rw[c9 (by rw[ab,<-r.length];exact hi),be,e3];rfl
 ·rw[du (by simpa using hi),dw]at e
  split at e<;>cases e
theorem YC {P:br}{w:dg}{K:aa}{mg:Str->Option af}{base:Heap}{G:Prog}{f:Nat}{a:Addr}{fd:gw}{ps:List Str}:fJ P w K mg base dB 0 a fd ps (fO K (aJ G 0) f):=by
 have no:∀ vs H Q E,¬fO K (aJ G 0) f vs H Q E:=fun vs H Q E ⟨_,_,_,_,_,h,_⟩=>h
 exact⟨fun vs H Q E h=>absurd h (no vs H Q E),fun A outer s H args us vs Q E _ _ _ _ h=>absurd h (no vs H Q E)⟩
theorem bW:cz "len" = some (.builtin "len"):=by decide +kernel
theorem oI:cz "all" = some (.builtin "all"):=by decide +kernel
theorem QO:cz "any" = some (.builtin "any"):=by decide +kernel
theorem FI:cz "isinstance" = some (.builtin "isinstance"):=by decide +kernel
theorem HD:cz "int" = some (.type "int"):=by decide +kernel
theorem QE:cz "str" = some (.type "str"):=by decide +kernel
theorem yR:cz "bool" = some (.type "bool"):=by decide +kernel
theorem yS:cz "list" = some (.type "list"):=by decide +kernel
theorem dW:cz "tuple" = some (.type "tuple"):=by decide +kernel
theorem Ab:cz "set" = some (.type "set"):=by decide +kernel
theorem KI:cz "reversed" = some (.type "reversed"):=by decide +kernel
theorem TF:cz "range" = some (.type "range"):=by decide +kernel
noncomputable def GS:Ty->String
 |.int =>"int"
 |.str =>"str"
 |.bool =>"bool"
 |.list =>"list"
 |.tuple =>"tuple"
 |.dict =>"dict"
 |.err _ =>"?"
noncomputable def FO:Ty->Bool
 |.err _=>false
 |_=>true
section
variable {X:Cx}{pz:List (Addr×Obj)}{σ:L2.St}{H:Hp}{s:ah}{st:aA}{sub:Nat->Nat->Bool}
abbrev Al (X:Cx)(s:ah)(u:af)(t:Ty)(b:Bool):Prop:=∀(A:cp)(Q:af->ah->Prop)(E:af->ah->Prop),(∀ tk,Q (.bool b) { s with toks:=tk })->wpAny (model X.prog X.w) A (call (.builtin "isinstance") [u,.type (GS t)]) Q E s
theorem yL {a:Addr}(I:Inv X pz σ H s)(h:∃ o,s.heap.get? a=some o/\o.cls=.type "list"){t:Ty}{b:Bool}(e:Rc X.K (.type "list") (.type (GS t))=some b):Al X s (.ref a) t b:=fun A Q E hQ =>
 gk PySem.W.kitx_list I.iN h e (fun z=>nomatch z) hQ
theorem LD {a:Addr}(I:Inv X pz σ H s)(h:∃ o,s.heap.get? a=some o/\o.cls=.type "tuple"){t:Ty}{b:Bool}(e:Rc X.K (.type "tuple") (.type (GS t))=some b):Al X s (.ref a) t b:=fun A Q E hQ =>
 gk PySem.W.kitx_tuple I.iN h e (fun z=>nomatch z) hQ
theorem QI {d:D}{v:V}{u:af}{t:Ty}{P:Bool->Prop}(I:Inv X pz σ H s)(ok:aN X.K st H)(r:Rep X.K H d v)(rv:RelV v u)(ht:FO t=true)(h:hJ sub d st t P):∃ b,P b/\Al X s u t b:=by
 cases d with
 |non =>
  cases r.fS;cases rv
  refine⟨false,by cases t<;>exact h,fun A Q E hQ=>gk PySem.W.kitx_none I.iN fz ?_ (fun z=>nomatch z) hQ⟩
  cases t<;>first|rfl|cases ht
 |bl k =>
  cases r.gH;cases rv
  cases t with
  |bool=>exact⟨true,h,fun A Q E hQ=>gk tm I.iN fz rfl (fun z=>nomatch z) hQ⟩
  |int=>exact⟨true,h,fun A Q E hQ=>gk tm I.iN fz rfl (fun z=>nomatch z) hQ⟩
  |err _=>cases ht
  |_=>exact⟨false,h,fun A Q E hQ=>gk tm I.iN fz rfl (fun z=>nomatch z) hQ⟩
 |int k =>
  cases r.int_inv;obtain⟨tk,rfl⟩:=rv
  cases t with
  |int=>exact⟨true,h,fun A Q E hQ=>gk zp I.iN fz rfl (fun z=>nomatch z) hQ⟩
  |err _=>cases ht
  |_=>exact⟨false,h,fun A Q E hQ=>gk zp I.iN fz rfl (fun z=>nomatch z) hQ⟩
 |str k =>
  cases r.str_inv;obtain⟨tk,rfl⟩:=rv
  cases t with
  |str=>exact⟨true,h,fun A Q E hQ=>gk zq I.iN fz rfl (fun z=>nomatch z) hQ⟩
  |err _=>cases ht
  |_=>exact⟨false,h,fun A Q E hQ=>gk zq I.iN fz rfl (fun z=>nomatch z) hQ⟩
 |tup ds =>
  obtain⟨a,vs,rfl,f,g⟩:=r.bM
  cases rv
  obtain⟨aD,_,⟨o,h1,h2,_⟩,_⟩:=I.tuple f
  cases t with
  |tuple=>exact⟨true,h,LD I ⟨o,h1,h2⟩ rfl⟩
  |err _=>cases ht
  |_=>exact⟨false,h,LD I ⟨o,h1,h2⟩ rfl⟩
 |ref a =>
  cases r.cJ
  cases rv
  have key:∃ ds,st a=some (.lst ds):=by
   cases e:st a with
   |none=>exfalso;cases t<;>first|(simp only[hJ,dY,e]at h)|cases ht
   |some o =>
    cases o with
    |lst ds=>exact⟨ds,rfl⟩
    |dic _ _=>exact(ok a _ e).elim
    |ins _ _=>exfalso;cases t<;>first|(simp only[hJ,dY,e]at h)|cases ht
    |tab _ _=>exfalso;cases t<;>first|(simp only[hJ,dY,e]at h)|cases ht
    |fn _ _=>exfalso;cases t<;>first|(simp only[hJ,dY,e]at h)|cases ht
    |cod _=>exfalso;cases t<;>first|(simp only[hJ,dY,e]at h)|cases ht
  obtain⟨ds,e⟩:=key
  obtain⟨vs,g1,_⟩:=ok.lst e
  obtain⟨_,aD,n,_,_,e1⟩:=I.tY g1
  have ho:∃ o,s.heap.get? a=some o/\o.cls=.type "list":=⟨_,e1,rfl⟩
  cases t with
  |list=>simp only[hJ]at h;rw[cM e]at h;exact⟨true,h,yL I ho rfl⟩
  |err _=>cases ht
  |_=>simp only[hJ]at h;rw[cM e]at h;exact⟨false,h,yL I ho rfl⟩
 |bL ds =>
  obtain⟨a,vs,rfl,f,g⟩:=r.kC
  cases rv
  obtain⟨aD,_,p,_⟩:=I.list f.sq
  obtain⟨o,h1,h2,_⟩:=p.isList
  cases t with
  |list=>exact⟨true,h,yL I ⟨o,h1,h2⟩ rfl⟩
  |err _=>cases ht
  |_=>exact⟨false,h,yL I ⟨o,h1,h2⟩ rfl⟩
 |cY _ _=>cases t<;>exact(show False from h).elim
 |exc c=>cases r
end
section
variable {X:Cx}{C:bC}{sub:Nat->Nat->Bool}{E:XK}{a:Expr}{x:Ex}{p p2 pos:Pos}
def Oj (K:aa)(sub:Nat->Nat->Bool)(t:Ty):List V->Hp->L2.VK->Prop:=fun vs H Q=>∃ d v st R,vs=[v,.ty (GS t)]/\Rep K H d v/\aN K st H/\hJ sub d st t (fun b=>R (.bl b) st)/\∀ v H',QD K H st R v H'->Q v H'
theorem RM {t:Ty}(ht:FO t=true):uC X (.builtin "isinstance") (Oj X.K sub t):=by
 intro pz s σ H vs us Q I rv h
 obtain⟨d,v,st,R,rfl,r,ok,h,hq⟩:=h
 cases rv with|cons r1 r2=>cases r2 with|cons r2 r3 =>
 cases r3
 cases r2
 obtain⟨b,hb,hi⟩:=QI I ok r r1 ht h
 exact hi X.A _ _ fun tk=>⟨.bl b,H,I.tok tk,rfl,hq _ _ (.here ok (.bl b) hb)⟩
theorem Ie {t:Ty}{n:Str}(ht:FO t=true)(hg:Gl X "isinstance")(hm:X.mg "isinstance" = none)(hg2:Gl X n)(hm2:X.mg n=none)(hv2:cz n=some (.type (GS t)))(ha:PE X a (bR X.K (aE C sub E x)))
 (hn2:n ≠"__name__")(hd2:(n==("__debug__" : Str))=false)(he:ai [a,.Name n p2] X.env=(false,eval a X.env)::ai [.Name n p2] X.env)(he2:ai [.Name n p2] X.env=[(false,eval (.Name n p2) X.env)])(dC:(dh pos (ai [.Name n p2] X.env)).any (·.1)=false):
 PE X (.Call (.Name "isinstance" p) [a,.Name n p2] [] pos) (bR X.K (aE C sub E (.isi x [t]))) :=
 (IX (RM (sub:=sub) ht) hg hm FI (DB ha (DB (W3 hg2 hm2 hv2 (v:=.ty (GS t)) rfl hn2 hd2) OE he2) he) (by decide) (by decide) he dC).imp fun σ H Q ⟨σd,st,R,r,ok,q,hq⟩=>by
 refine⟨σd,st,_,r,ok,q,fun v H1 ⟨d,aC,s1,aM,r1,q1⟩=>?_⟩
 exact⟨d,v,aC,R,rfl,r1,aM,q1,fun v H' z=>hq _ _ (.after s1 z)⟩
theorem Kg {t:String}{j:Nat}(h:ik t=⟨(W t).toArray⟩):PE X (.Constant (.str (ik t)) j pos) (bR X.K (aE C sub E (.c (.str (W t))))) :=
 yM Eb fun H=>by rw[h];exact .str _
end
structure JE (X:Cx)(C:bC)(sub:Nat->Nat->Bool)(E:XK)(e:Expr)(x:Ex):Prop where
 h:PE X e (bR X.K (aE C sub E x))
structure JT (X:Cx)(C:bC)(sub:Nat->Nat->Bool)(E:XK)(e:Expr)(x:Ex):Prop where
 h:PT X e (jC X.K (aE C sub E x))
structure JW (X:Cx)(C:bC)(sub:Nat->Nat->Bool)(E:XK)(e:Expr)(x:Ex):Prop where
 h:PW X e (jC X.K (aE C sub E x))
structure JA (X:Cx)(C:bC)(sub:Nat->Nat->Bool)(E:XK)(es:List Expr)(xs:List Ex):Prop where
 h:PA X es (jB X.K (bG C sub E xs))
structure JO (X:Cx)(C:bC)(sub:Nat->Nat->Bool)(E:XK)(e:Option Expr)(xs:List Ex):Prop where
 h:PO X e (DG X.K (bG C sub E xs))
structure JI (X:Cx)(C:bC)(sub:Nat->Nat->Bool)(E:XK)(tg e:Expr)(k:Option IK)(xs:List Ex):Prop where
 h:PI X tg e (wV X.K fun σ st M=>bG C sub E xs σ st fun ds aC=>gI k ds aC fun as ys=>M as ys aC)
structure JG (X:Cx)(C:bC)(sub:Nat->Nat->Bool)(E:XK)(tg:Expr)(t:Tg):Prop where
 h:PG X tg (JC X.K (mD C sub E t))
structure JN (X:Cx)(tg:Expr)(i:Nat):Prop where
 h:PG X tg (BV i)
structure O3 (X:Cx)(es:List Expr)(is:List Nat):Prop where
 h:BA X es (sL is)
structure JB (X:Cx)(tg:Expr)(one:Bool)(n:Nat):Prop where
 h:PG X tg (K5 X.K one n)
structure JQ (X:Cx)(C:bC)(sub:Nat->Nat->Bool)(E:XK)(es:List Expr)(xs:List Ex):Prop where
 h:K6 X es (AE X.K (jP C sub E xs))
structure JS (X:Cx)(C:bC)(sub:Nat->Nat->Bool)(s:Stmt)(x:Sx):Prop where
 h:PS X s (iH X.K (wpS C sub x))
structure sA (X:Cx)(C:bC)(sub:Nat->Nat->Bool)(ss:List Stmt)(xs:List Sx):Prop where
 h:kA X ss (iH X.K (cO C sub xs))
structure mE (X:Cx)(C:bC)(n:Str)(fid:Nat):Prop where
 h:∃ k f fd ps,fJ X.prog X.w X.K X.mg X.base dB k f fd ps (fO X.K C fid)/\cR k X.A/\X.mg n=some (.ref f)/\fe X.K (.ref f)=true/\Binds X.K fd ps []
def GC (K:aa)(mg:Str->Option af)(n:Str)(d:D):Prop:=∃ u v,mg n=some u/\RelV v u/\∀ H,Rep K H d v
section
variable {X:Cx}{C:bC}{sub:Nat->Nat->Bool}{E:XK}{a b c e o tg:Expr}{es:List Expr}{x y z:Ex}{xs:List Ex}{p p2 pos apos:Pos}{k:Nat}{n:Str}{s:Stmt}{ss:List Stmt}{sxs:List Sx}
theorem jv (i:Nat)(hN:X.N[i]? = some n:=by kernel_rfl)(hv:X.env.scope.names.lookup n=some .local:=by kernel_rfl)(hd:(n==("__debug__" : Str))=false:=by kernel_rfl)
 (hcd:(n==("__classdict__" : Str))=false:=by kernel_rfl):JE X C sub E (.Name n pos) (.v i):=⟨MB (pv i hN (.inl hv) hd hcd)⟩
theorem cT (i:Nat)(hN:X.N[i]? = some n:=by kernel_rfl)(hv:X.env.scope.names.lookup n=some .cell:=by kernel_rfl)(hd:(n==("__debug__" : Str))=false:=by kernel_rfl)
 (hcd:(n==("__classdict__" : Str))=false:=by kernel_rfl):JE X C sub E (.Name n pos) (.v i):=⟨MB (pv i hN (.inr (.inl hv)) hd hcd)⟩
theorem ji {i:Int}:JE X C sub E (.Constant (.int i) k pos) (.c (.int i)):=⟨yM Ek fun _=>.int _⟩
theorem jb {i:Bool}:JE X C sub E (.Constant (.bool i) k pos) (.c (.bl i)):=⟨yM Hv fun _=>.bl _⟩
theorem js {t:String}(h:ik t=⟨(W t).toArray⟩:=by kernel_rfl):JE X C sub E (.Constant (.str (ik t)) k pos) (.c (.str (W t))):=⟨Kg h⟩
theorem jg {d:D}(h:GC X.K X.mg n d)(hg:X.env.kindOf n=some .globalImplicit:=by kernel_rfl)(hd:(n==("__debug__" : Str))=false:=by kernel_rfl):JE X C sub E (.Name n pos) (.c d):=⟨let⟨u,v,h1,h2,h3⟩:=h;yM (XH hg h1 h2 hd) h3⟩
theorem ja (h:JE X C sub E e x)(hs:JA X C sub E es xs)(eV:ai (e::es) X.env=(false,eval e X.env)::ai es X.env:=by kernel_rfl):JA X C sub E (e::es) (x::xs):=⟨Dk h.h hs.h eV⟩
theorem jt (m:bO C C)(hs:JA X C sub E es xs)(hl:xs.length<=bD:=by decide):JE X C sub E (.Tuple es k pos) (.tup xs):=⟨He m hs.h hl⟩
theorem EN {o:nZ}(u:X.A.units+180<cLine)(ha:JE X C sub E a x)(hb:JE X C sub E b y)(hm:nr (jK o) b=false:=by kernel_rfl):JE X C sub E (.Compare a [jK o] [b] pos) (.cmp o x y):=⟨Gc u ha.h hb.h hm⟩
theorem fH {o:nZ}(u:X.A.units+180<cLine)(ha:JE X C sub E a x)(hb:JE X C sub E b y)(hm:nr (jK o) b=false:=by kernel_rfl):JT X C sub E (.Compare a [jK o] [b] pos) (.cmp o x y):=⟨Fg u ha.h hb.h hm⟩
theorem VL {o o':nZ}(u:X.A.units+180<cLine)(ha:JE X C sub E a x)(hb:JE X C sub E b y)(hc:JE X C sub E c z)(hm:zo [jK o,jK o'] [b,c]=false:=by kernel_rfl):JE X C sub E (.Compare a [jK o,jK o'] [b,c] pos) (.chain o o' x y z):=⟨V8 u ha.h hb.h hc.h hm⟩
theorem Qb {o o':nZ}(u:X.A.units+180<cLine)(ha:JE X C sub E a x)(hb:JE X C sub E b y)(hc:JE X C sub E c z)(hm:zo [jK o,jK o'] [b,c]=false:=by kernel_rfl):JT X C sub E (.Compare a [jK o,jK o'] [b,c] pos) (.chain o o' x y z):=⟨SF u ha.h hb.h hc.h hm⟩
theorem tp (h:JE X C sub E e x)(he:∀ whole,Qv e X.env whole=(do let v <-whole;oq e.pos;kg [v] (Tj v)):=by intro _;rfl):JT X C sub E e x:=⟨SE h.h he⟩
theorem bU (ha:JE X C sub E a x)(hb:JE X C sub E b y)(hp:rV b:=by intro _ _;rfl):JE X C sub E (.Subscript a b pos) (.ix x y):=⟨Na ha.h hb.h hp⟩
theorem bS {fid:Nat}(h:mE X C n fid)(ha:JA X C sub EF (e::es) xs)(hg:X.env.kindOf n=some .globalImplicit:=by kernel_rfl)(hdb:(n==("__debug__" : Str))=false:=by kernel_rfl)(he:ai (e::es) X.env=(false,eval e X.env)::ai es X.env:=by kernel_rfl)(dC:(dh pos (ai es X.env)).any (·.1)=false:=by kernel_rfl):
 JE X C sub EF (.Call (.Name n p) (e::es) [] pos) (.call fid xs):=⟨let⟨k,f,fd,ps,h1,h2,h3,h4,h5⟩:=h.h;Ac h1 h2 hg h3 h4 h5 FV ha.h hdb he dC⟩
theorem cF {f:BI}{id:String}(hW:vJ X (.builtin id) (gX f))(hv:cz n=some (.builtin id))(hm:X.mg n=none)(ha:JA X C sub E (e::es) xs)(hg:X.env.kindOf n=some .globalImplicit:=by kernel_rfl)
 (hn:n ≠"__name__":=by decide)(hdb:(n==("__debug__" : Str))=false:=by kernel_rfl)(he:ai (e::es) X.env=(false,eval e X.env)::ai es X.env:=by kernel_rfl)(dC:(dh pos (ai es X.env)).any (·.1)=false:=by kernel_rfl):
 JE X C sub E (.Call (.Name n p) (e::es) [] pos) (.bi f xs):=⟨(Jm hW hg hm hv ha.h hn hdb he dC).imp fun σ H Q ⟨σd,st,R,r,ok,q,hq⟩=>⟨σd,st,R,r,ok,q,hq⟩⟩
theorem oQ {f:BI}{id:String}(hW:vJ X (.type id) (gX f))(hv:cz n=some (.type id))(hm:X.mg n=none)(ha:JA X C sub E (e::es) xs)(hg:X.env.kindOf n=some .globalImplicit:=by kernel_rfl)
 (hn:n ≠"__name__":=by decide)(hdb:(n==("__debug__" : Str))=false:=by kernel_rfl)(he:ai (e::es) X.env=(false,eval e X.env)::ai es X.env:=by kernel_rfl)(dC:(dh pos (ai es X.env)).any (·.1)=false:=by kernel_rfl):
 JE X C sub E (.Call (.Name n p) (e::es) [] pos) (.bi f xs):=⟨(Ep hW hg hm hv ha.h hn hdb he dC).imp fun σ H Q ⟨σd,st,R,r,ok,q,hq⟩=>⟨σd,st,R,r,ok,q,hq⟩⟩
theorem pK {t:Ty}(hv:cz n=some (.type (GS t)))(hm:X.mg "isinstance" = none)(hm2:X.mg n=none)(ha:JE X C sub E a x)(ht:FO t=true:=by kernel_rfl)(hg:X.env.kindOf "isinstance" = some .globalImplicit:=by kernel_rfl)(hg2:X.env.kindOf n=some .globalImplicit:=by kernel_rfl)
 (hn2:n ≠"__name__":=by decide)(hd2:(n==("__debug__" : Str))=false:=by kernel_rfl)(he:ai [a,.Name n p2] X.env=(false,eval a X.env)::ai [.Name n p2] X.env:=by kernel_rfl)(he2:ai [.Name n p2] X.env=[(false,eval (.Name n p2) X.env)]:=by kernel_rfl)(dC:(dh pos (ai [.Name n p2] X.env)).any (·.1)=false:=by kernel_rfl):
 JE X C sub E (.Call (.Name "isinstance" p) [a,.Name n p2] [] pos) (.isi x [t]):=⟨Ie ht hg hm hg2 hm2 hv ha.h hn2 hd2 he he2 dC⟩
theorem vV (ho:JE X C sub E o x)(ha:JA X C sub E (e::es) xs)(jI:gh o "append" X.env (eval o X.env)=eval o X.env:=by kernel_rfl)
 (uN:((dh pos (ai (e::es) X.env)).all (fun x=>!x.1)&&(ou pos (kc [] X.env)).all (fun x=>x.1.isSome)&&decide ((e::es).length+([]:List qw).length+(if([]:List qw).isEmpty then 0 else 1)<30))=true:=by kernel_rfl)(jJ:(apos.endLine==pos.line)=true:=by kernel_rfl)
 (hs:ai (e::es) X.env=(false,eval e X.env)::ai es X.env:=by kernel_rfl)(qI:(dh pos (ai es X.env)).any (·.1)=false:=by kernel_rfl):
 JE X C sub E (.Call (.Attribute o "append" apos) (e::es) [] pos) (.dF .append x xs):=⟨OS (fun z=>nomatch z) PySem.F.slot_list_append PySem.F.type_list_append Q2 ho.h ha.h jI uN jJ hs qI⟩
theorem Km (ho:JE X C sub E o x)(ha:JA X C sub E (e::es) xs)(jI:gh o "extend" X.env (eval o X.env)=eval o X.env:=by kernel_rfl)
 (uN:((dh pos (ai (e::es) X.env)).all (fun x=>!x.1)&&(ou pos (kc [] X.env)).all (fun x=>x.1.isSome)&&decide ((e::es).length+([]:List qw).length+(if([]:List qw).isEmpty then 0 else 1)<30))=true:=by kernel_rfl)(jJ:(apos.endLine==pos.line)=true:=by kernel_rfl)
 (hs:ai (e::es) X.env=(false,eval e X.env)::ai es X.env:=by kernel_rfl)(qI:(dh pos (ai es X.env)).any (·.1)=false:=by kernel_rfl):
 JE X C sub E (.Call (.Attribute o "extend" apos) (e::es) [] pos) (.dF .extend x xs):=⟨OS (fun z=>nomatch z) PySem.F.slot_list_extend PySem.F.type_list_extend OH ho.h ha.h jI uN jJ hs qI⟩
theorem Pe (ho:JE X C sub E o x)(jI:gh o "pop" X.env (eval o X.env)=eval o X.env:=by kernel_rfl)(jJ:(apos.endLine==pos.line)=true:=by kernel_rfl):
 JE X C sub E (.Call (.Attribute o "pop" apos) [] [] pos) (.dF .pop x []):=⟨XE (fun z=>nomatch z) PySem.F.slot_list_pop PySem.F.type_list_pop Er ho.h jI jJ⟩
theorem sx (m:bO C C)(h:JE X C sub EF e x)(hs:mf e none pos.line X.env=pure false:=by kernel_rfl):JS X C sub (.Expr e pos) (.ex x):=⟨Nm m h.h hs⟩
theorem sn {i:Nat}(m:bO C C)(nd:X.N.Nodup)(he:JE X C sub EF e x)(hi:X.N[i]? = some n:=by kernel_rfl)(hx:X.env.scope.names.lookup n=some .local:=by kernel_rfl)
 (hs:p0 [.Name n p] e pos.line X.env=pure false:=by kernel_rfl)(hw:p8 [.Name n p] e X.env=pure none:=by kernel_rfl)(h1:(e9 [.Name n p] X.env).map (·.2)=[mv (.Name n p) X.env]:=by kernel_rfl):JS X C sub (.Assign [.Name n p] e pos) (.asg (.nm i) x):=⟨MA m he.h (S3 (sQ nd hi (.inl hx) (.inr hx))) hs hw h1⟩
theorem E5 {i:Nat}(m:bO C C)(nd:X.N.Nodup)(he:JE X C sub EF e x)(hi:X.N[i]? = some n:=by kernel_rfl)(hx:X.env.scope.names.lookup n=some .cell:=by kernel_rfl)(hf:X.fn n=true:=by kernel_rfl)
 (hs:p0 [.Name n p] e pos.line X.env=pure false:=by kernel_rfl)(hw:p8 [.Name n p] e X.env=pure none:=by kernel_rfl)(h1:(e9 [.Name n p] X.env).map (·.2)=[mv (.Name n p) X.env]:=by kernel_rfl):JS X C sub (.Assign [.Name n p] e pos) (.asg (.nm i) x):=⟨MA m he.h (S3 (sQ nd hi (.inr hx) (.inl hf))) hs hw h1⟩
theorem gn {i:Nat}(nd:X.N.Nodup)(hi:X.N[i]? = some n:=by kernel_rfl)(hx:X.env.scope.names.lookup n=some .local:=by kernel_rfl):JN X (.Name n p) i:=⟨sQ nd hi (.inl hx) (.inr hx)⟩
theorem Pp {i:Nat}(nd:X.N.Nodup)(hi:X.N[i]? = some n:=by kernel_rfl)(hx:X.env.scope.names.lookup n=some .cell:=by kernel_rfl)(hf:X.fn n=true:=by kernel_rfl):JN X (.Name n p) i:=⟨sQ nd hi (.inr hx) (.inl hf)⟩
theorem gc {i:Nat}{is:List Nat}(h1:JN X e i)(h2:O3 X es is)(hs:(e9 (e::es) X.env).map (·.2)=mv e X.env::(e9 es X.env).map (·.2):=by kernel_rfl):O3 X (e::es) (i::is):=⟨X6 h1.h h2.h hs⟩
theorem gt {is:List Nat}(h:O3 X es is)(hc:X.calm=true:=by kernel_rfl)(hn:(e9 es X.env).length=is.length:=by kernel_rfl)(eV:(e9 es X.env).findIdx? (·.1)=none:=by kernel_rfl):JG X C sub E (.Tuple es k pos) (.tp is):=⟨Nh hc h.h hn eV⟩
theorem gi (ho:JE X C sub E o x)(hi:JE X C sub E a y)
 (ha:∀ v,mv (.Subscript o a pos) X.env v=(do
  let ov <-kg [v] (eval o X.env)
  let iv <-kg [v,ov] (eval a X.env)
  oq pos
  kg [v,ov,iv] (Qr ov iv v)
  Tp [v,ov,iv] []):=by intro _;rfl):JG X C sub E (.Subscript o a pos) (.ix x y):=⟨Lo ho.h hi.h ha⟩
theorem sg {t:Tg}(m:bO C C)(he:JE X C sub EF e x)(hg:JG X C sub EF tg t)
 (hs:p0 [tg] e pos.line X.env=pure false:=by kernel_rfl)(hw:p8 [tg] e X.env=pure none:=by kernel_rfl)(h1:(e9 [tg] X.env).map (·.2)=[mv tg X.env]:=by kernel_rfl):JS X C sub (.Assign [tg] e pos) (.asg t x):=⟨MA m he.h hg.h hs hw h1⟩
theorem sw (m:bO C C)(hc:JT X C sub EF c x)(hb:sA X C sub ss sxs)(hp:qz (model X.prog X.w) X.A X.env X.xe:=by exact vh):JS X C sub (.While c ss [] pos) (.whl x sxs):=⟨XJ m hp hc.h hb.h⟩
theorem sf {kk:Option IK}{t:Tg}(m:bO C C)(hi:JI X C sub EF tg e kk xs)(hg:JG X C sub EF tg t)(hb:sA X C sub ss sxs)
 (hp:qz (model X.prog X.w) X.A X.env X.xe:=by exact vh)(hc:X.calm=true:=by kernel_rfl)(hs:∀ x,gu e X.env x=pure x:=by intro _;rfl):JS X C sub (.For tg e ss [] pos) (.iM t kk xs sxs):=⟨VO m hp hc hi.h hg.h hb.h hs⟩
theorem uT {kk:Option IK}{i:Nat}(m:bO C C)(nd:X.N.Nodup)(hi:JI X C sub EF (.Name n p) e kk xs)(hb:sA X C sub ss sxs)
 (hN:X.N[i]? = some n:=by kernel_rfl)(hx:X.env.scope.names.lookup n=some .local:=by kernel_rfl)
 (hp:qz (model X.prog X.w) X.A X.env X.xe:=by exact vh)(hc:X.calm=true:=by kernel_rfl)(hs:∀ x,gu e X.env x=pure x:=by intro _;rfl):JS X C sub (.For (.Name n p) e ss [] pos) (.iM (.nm i) kk xs sxs):=⟨VO m hp hc hi.h (S3 (sQ nd hN (.inl hx) (.inr hx))) hb.h hs⟩
theorem zE (m:bO C C)(hm:X.mg "range" = none)(ha:JA X C sub E [a] [x])(hg:X.env.kindOf "range" = some .globalImplicit:=by kernel_rfl)(hs:ai [a] X.env=[(false,eval a X.env)]:=by kernel_rfl):
 JI X C sub E tg (.Call (.Name "range" p) [a] [] pos) (some .range) [x]:=⟨WQ m hg hm ha.h hs⟩
theorem Ku {cl:Nat}{t:String}(m:bO C C):JS X C sub s (.rais cl [.c (.str (W t))]):=⟨ZH m fun σd st h=>h⟩
end
section
variable {X:Cx}{C:bC}{sub:Nat->Nat->Bool}{E:XK}{a b c e o tg:Expr}{es rest:List Expr}{x y z:Ex}{xs:List Ex}{p p2 pos apos:Pos}{k:Nat}{n:Str}{s:Stmt}{ss as bs:List Stmt}{sx1:Sx}{sxs ax bx:List Sx}
theorem an:JA X C sub E [] []:=⟨Je⟩
theorem jl (hs:JA X C sub E es xs):JE X C sub E (.List es pos) (.lst xs):=⟨Jh hs.h⟩
theorem cU {op:sP}(ha:JE X C sub E a x)(hb:JE X C sub E b y):JE X C sub E (.BinOp a (An op) b pos) (.bin op x y):=⟨Gq ha.h hb.h⟩
theorem U4 (ha:JE X C sub E a x):JE X C sub E (.UnaryOp .Not a pos) (.not_ x):=⟨Kd ha.h⟩
theorem oM {op:To}(ha:JE X C sub E a x):JE X C sub E (.BoolOp op [a] pos) x:=⟨Ji ha.h⟩
theorem jU (ha:JE X C sub E a x)(hb:JE X C sub E (.BoolOp .And (b::rest) pos) y):JE X C sub E (.BoolOp .And (a::b::rest) pos) (.and_ x y):=⟨Jt ha.h hb.h⟩
theorem on:JO X C sub E none []:=⟨WX⟩
theorem os (h:JE X C sub E e x):JO X C sub E (some e) [x]:=⟨XG h.h⟩
theorem LS {lo hi:Option Expr}{xl xh:List Ex}(ha:JE X C sub E a x)(hl:JO X C sub E lo xl)(hh:JO X C sub E hi xh):JE X C sub E (.Subscript a (.Slice lo hi none p2) pos) (.sl x xl xh):=⟨Od ha.h hl.h hh.h⟩
theorem mG (h:JT X C sub E e x):JT X C sub E (.UnaryOp .Not e pos) (.not_ x):=⟨Bv h.h⟩
theorem oW (h:JW X C sub E e x):JT X C sub E e x:=⟨h.h.pt⟩
theorem oZ {op:To}(h:JT X C sub E e x):JW X C sub E (.BoolOp op [e] pos) x:=⟨Dm h.h⟩
theorem Dr (m:bO C C)(ha:JT X C sub E a x)(hb:JW X C sub E (.BoolOp .And (b::rest) pos) y):JW X C sub E (.BoolOp .And (a::b::rest) pos) (.and_ x y):=⟨ZN m ha.h hb.h⟩
theorem oG (m:bO C C)(ha:JT X C sub E a x)(hb:JW X C sub E (.BoolOp .Or (b::rest) pos) y):JW X C sub E (.BoolOp .Or (a::b::rest) pos) (.or_ x y):=⟨Jn m ha.h hb.h⟩
theorem iv (h:JE X C sub E e x):JI X C sub E tg e none [x]:=⟨Az h.h⟩
theorem qn:JQ X C sub E [] []:=⟨Dq⟩
theorem nn:O3 X [] []:=⟨Dz⟩
theorem b1 (h:JN X tg 0):JB X tg true 1:=⟨h.h⟩
theorem bt {is:List Nat}{q:Nat}(h:O3 X es is)(hi:is=bb q:=by rfl)(hc:X.calm=true:=by kernel_rfl)(hn:(e9 es X.env).length=q:=by kernel_rfl)(eV:(e9 es X.env).findIdx? (·.1)=none:=by kernel_rfl):JB X (.Tuple es k pos) false q:=⟨by
 subst hi
 exact QP hc h.h hn eV⟩
theorem c0:sA X C sub [] []:=⟨Hy⟩
theorem cc (h1:JS X C sub s sx1)(h2:sA X C sub ss sxs):sA X C sub (s::ss) (sx1::sxs):=⟨Ce h1.h h2.h⟩
theorem fU (m:bO C C)(hc:JT X C sub EF c x)(ha:sA X C sub as ax)(hb:sA X C sub bs bx):JS X C sub (.If c as bs pos) (.iff x ax bx):=⟨Ny m hc.h ha.h hb.h⟩
theorem bY (m:bO C C)(h:JE X C sub EF e x):JS X C sub (.Return (some e) pos) (.ret x):=⟨Hm m h.h⟩
end
section
variable {X:Cx}{C:bC}{sub:Nat->Nat->Bool}{elt iter tg:Expr}{ifs:List Expr}{xe:Ex}{lG aD:List Ex}{pos:Pos}{scope:Scope}{own cn:List Str}{aK:List Nat}{one:Bool}{k:Option IK}
theorem pW (m:bO C C)(S:kR X scope cn aK)(hi:JI X C sub EF tg iter k aD)
 (hg:∀ fp s H Ca,JB (lV X scope own cn fp s H Ca) tg one own.length)
 (hts:∀ fp s H Ca,JQ (lV X scope own cn fp s H Ca) C sub EF ifs lG)
 (he:∀ fp s H Ca,JE (lV X scope own cn fp s H Ca) C sub EF elt xe)(hc:X.calm=true:=by kernel_rfl)(nH:one=true->own.length=1:=by decide)
 (hs:∀ x,gu iter X.env x=pure x:=by intro _;rfl):
 JE X C sub EF (.ListComp elt [⟨tg,iter,ifs,0⟩] scope pos) (.comp own.length aK (bb own.length) one k aD lG xe) :=
 ⟨El m S hc nH hi.h (fun a b c d=>(hg a b c d).h) (fun a b c d=>(hts a b c d).h) (fun a b c d=>(he a b c d).h) hs⟩
theorem Bt {i:Nat}{y:Str}{py spos:Pos}(m:bO C C)(nd:X.N.Nodup)(S:kR X scope cn aK)(hi:JI X C sub EF tg iter k aD)
 (hg:∀ fp s H Ca,JB (lV X scope own cn fp s H Ca) tg one own.length)
 (hts:∀ fp s H Ca,JQ (lV X scope own cn fp s H Ca) C sub EF ifs lG)
 (he:∀ fp s H Ca,JE (lV X scope own cn fp s H Ca) C sub EF elt xe)(hy:X.N[i]? = some y:=by kernel_rfl)(hx:X.env.scope.names.lookup y=some .local:=by kernel_rfl)
 (hsw:mf (.ListComp elt [⟨tg,iter,ifs,0⟩] scope pos) (some (.Name y py)) spos.line X.env=pure true:=by kernel_rfl)(hc:X.calm=true:=by kernel_rfl)(nH:one=true->own.length=1:=by decide)
 (hs:∀ x,gu iter X.env x=pure x:=by intro _;rfl):
 JS X C sub (.Assign [.Name y py] (.ListComp elt [⟨tg,iter,ifs,0⟩] scope pos) spos) (.asg (.nm i) (.comp own.length aK (bb own.length) one k aD lG xe)) :=
 ⟨Ez m S hc nH hi.h (fun a b c d=>(hg a b c d).h) (fun a b c d=>(hts a b c d).h) (fun a b c d=>(he a b c d).h) nd hy (.inl hx) (.inr hx) hsw hs⟩
end
noncomputable def M3 (k:Option ue):Bool:=k==some .cell||k==some .free
noncomputable def VG (names on:List (Str×NameKind))(N cn:List Str)(aK:List Nat):Bool :=
 names.all (fun y=>!(y.2 == .cell)&&(!(y.2 == .local)||names.lookup y.1==some .local)&&(!(y.2 == .free)||M3 (on.lookup y.1)))&&(cn.length==aK.length) &&
 (cn.zip aK).all (fun p=>names.lookup p.1==some .free&&N[p.2]? == some p.1&&M3 (on.lookup p.1))
theorem LJ {k:Option ue}(h:M3 k=true):k=some .cell∨k=some .free:=by
 unfold M3 at h
 rw[jh]at h
 rcases h with h|h
 ·exact .inl (by simpa using h)
 ·exact .inr (by simpa using h)
theorem mX {X:Cx}{scope:Scope}{cn:List Str}{aK:List Nat}{on:List (Str×NameKind)}{N:List Str}(h:VG scope.names on N cn aK=true)(hE:X.env.scope.names=on:=by kernel_rfl)(hN:X.N=N:=by kernel_rfl)(hk:scope.kind=.function:=by kernel_rfl):kR X scope cn aK:=by
 unfold VG at h
 rw[ar,ar]at h
 obtain⟨⟨h1,h2⟩,h3⟩:=h
 have h1:=List.all_eq_true.mp h1
 have hl:cn.length=aK.length:=by simpa using h2
 refine⟨hk,fun y hy=>?_,fun y hy e=>?_,fun y hy e=>?_,hl,fun j y e=>?_⟩
 ·have:=h1 y hy
  simp only[ar]at this
  intro z;rw[z]at this;simp at this
 ·have:=h1 y hy
  simp only[ar,jh]at this
  rcases this.1.2 with q|q
  ·rw[e]at q;simp at q
  ·simpa using q
 ·have:=h1 y hy
  simp only[ar,jh]at this
  rcases this.2 with q|q
  ·rw[e]at q;simp at q
  ·show X.env.scope.names.lookup y.1=_∨X.env.scope.names.lookup y.1=_
   rw[hE];exact LJ q
 ·obtain⟨hj,ej⟩:=List.getElem?_eq_some_iff.mp e
  have hj':j<aK.length:=by omega
  have hm:(y,aK[j])∈cn.zip aK:=by
   rw[<-ej]
   exact List.mem_iff_getElem.mpr ⟨j,by simp;omega,by simp⟩
  have:=List.all_eq_true.mp h3 _ hm
  simp only[ar]at this
  refine⟨by simpa using this.1.1,aK[j],aj hj',by rw[hN];simpa using this.1.2,?_⟩
  show X.env.scope.names.lookup y=_∨X.env.scope.names.lookup y=_
  rw[hE];exact LJ this.2
end L3
namespace L3
theorem FQ {k:Nat}{A:PySem.Around}(hr:L2.cR k A):A.units+180<wo:=by have:=hr.un;omega
end L3
end
section
namespace PySem
open Sem (wp)
section
variable {prog:br}{w:dg}{A:cp}{s:ah}{R:Sd->ah->Prop}{I:Addr}{fp wr:List Addr}{n:Nat}{P:Nat->af->Prop}{St:Nat->Heap->Prop}
def xN (prog:br)(w:dg)(I:Addr)(St:Nat->Heap->Prop):Prop:=∀(A:cp)(s:ah)(Q:Bool->ah->Prop)(E:af->ah->Prop),St 0 s.heap->(∀ b tk,Q b { s with toks:=tk })->wpAny (model prog w) A (l5 (.ref I)) Q E s
theorem P9 {T:String}(W:Walks prog w A.in1 I fp wr n P St)(hn:n<=sizeLine)(hT:∀ h,St 0 h->∃ o,h.get? I=some o/\o.cls=.type T)(h2:(gb T==gb "list")=false)(h3:(gb T==gb "tuple")=false)(hint:xN prog w I St)
  (S:Addr)(res:af)(c₀:Nat)(eV:St 0 s.heap)(hSf:S∉fp)(hI:I∈fp)(hS:s.heap.get? S=some { cls:=.type "list", data:=.seq #[] c₀ })
  (hR:∀ h' tk mU c',(∀ b o,b∉S::wr->s.heap.get? b=some o->h'.get? b=some o)->h'.get? S=some { cls:=.type "list", dict:=none,data:=.seq mU c',slots:=#[] }->Qt P mU n->R (.ok (.ret res)) { s with heap:=h',toks:=tk }):
  wpAny (model prog w) A.in1 (jq (.ref S) (.ref I) res)
   (fun fin s'=>match fin with|.done f=>R (.ok f) s'|.again c'=>c'.quiet=true/\ku (model prog w) A c' R s') (fun e s'=>R (.error e) s') s:=by
 have hSI:S≠I:=fun e=>hSf (e▸hI)
 have key:∀(h:Heap)(c₁ tk:Nat),St 0 h->(∀ b o,b≠S->s.heap.get? b=some o->h.get? b=some o)->h.get? S=some { cls:=.type "list", data:=.seq #[] c₁ } ->
   ku (model prog w) A (.builtin "list.extend.loop" ⟨[.ref S,.ref I,res],[]⟩) R { s with heap:=h,toks:=tk }:=by
  intro h c₁ tk hst₁ hk hS₁
  refine codeAny_extend_loopS W.toS hn S hSf res n 0 _ #[] c₁ rfl (cx _) hst₁ hS₁ (ItemsOf.nil _) fun s' mU c' hm hS' hacc=>?_
  rw[Moved.eq_with hm]
  exact hR s'.heap s'.toks mU c' (fun b o hb e=>hm.heap b o hb (hk b o (fun z=>hb (by rw[z];exact de ..)) e)) hS' hacc
 unfold jq
 refine ae (u0 (T:=T) (hT _ eV) ?_)
 have h1:t4 (.ref S) (.ref I)=false:=by simp [t4,hSI]
 simp only[h1,h2,h3,xq,az,if_false]
 refine ae (W.self 0 _ _ _ eV ?_)
 refine ae (gq (hint _ _ _ _ eV fun b tk=>?_))
 have touch:∀{Q:Fin->ah->Prop}{E:af->ah->Prop}{k:Unit->Sem Fin},(∀ h' , St 0 h'->(∀ b o,b≠S->s.heap.get? b=some o->h'.get? b=some o)->(∃ c₁,h'.get? S=some { cls:=.type "list", data:=.seq #[] c₁ })->wpAny (model prog w) A.in1 (k ()) Q E { s with heap:=h',toks:=tk }) ->
   wpAny (model prog w) A.in1 (rule "list.extend.makes-room" >>= fun _=>Builtin.List.listTouch (.ref S) >>= k) Q E { s with toks:=tk }:=fun{Q E k} hk=>by
  refine ae (r6 (ae ?_))
  show wpAny _ A.in1 (Rz S (·.push .none) >>= fun _=>Rz S (·.pop)) _ _ _
  refine ae (qi hS rfl ?_)
  have hS₂:=gg (jz (·.push g6)) hS rfl
  refine qi (hz:=by seq_fits) hS₂ rfl ?_
  have hS₃:=gg (jz (·.pop)) hS₂ rfl
  have oth:∀ b o,b≠S->s.heap.get? b=some o->((s.heap.update S (jz (·.push g6))).update S (jz (·.pop))).get? b=some o :=
   fun b o hb e=>(f9 _ _ (jn hb)).trans ((f9 _ _ (jn hb)).trans e)
  exact hk _ (W.frame _ _ _ eV fun b hb o e=>oth b o (fun h=>hSf (h▸hb)) e) oth ⟨_,hS₃⟩
 refine c7 (fun _=>?_) (fun _=>ak ⟨plainId_quiet xg _,key _ c₀ _ eV (fun b o _ e=>e) hS⟩)
 refine touch fun h' a b ⟨c₁,c⟩=>ak ⟨plainId_quiet xg _,key _ c₁ _ a b c⟩
theorem G4 {T:String}(W:Walks prog w A.in1 I fp wr n P St)(hn:n<=sizeLine)(hT:∀ h,St 0 h->∃ o,h.get? I=some o/\o.cls=.type T)(h2:(gb T==gb "list")=false)(h3:(gb T==gb "tuple")=false)(hint:xN prog w I St)
 (S:Addr)(eV:St 0 s.heap)(hSf:S∉fp)(hI:I∈fp)(hS:s.heap.get? S=some { cls:=.type "list", data:=.seq #[] })
 (hR:∀ h' tk mU c',(∀ b o,b∉S::wr->s.heap.get? b=some o->h'.get? b=some o)->h'.get? S=some { cls:=.type "list", dict:=none,data:=.seq mU c',slots:=#[] }->Qt P mU n->R (.ok (.ret .none)) { s with heap:=h',toks:=tk }):
 wpAny (model prog w) A.in1 (Builtin.«list.__init__» ⟨[.ref S,.ref I],[]⟩)
  (fun fin s'=>match fin with|.done f=>R (.ok f) s'|.again c'=>c'.quiet=true/\ku (model prog w) A c' R s') (fun e s'=>R (.error e) s') s:=by
 show wpAny _ A.in1 (do let old <-vb (.ref S);Builtin.List.listUpdate (.ref S) (fun _=>#[]);letGo old.toList.reverse;jq (.ref S) (.ref I) .none) _ _ s
 refine ae ?_
 unfold vb
 refine ae (md hS rfl (ak ?_))
 show wpAny _ A.in1 (Rz S (fun _=>#[]) >>= fun _=>letGo (#[]:Array af).toList.reverse >>= fun _=>jq (.ref S) (.ref I) .none) _ _ s
 refine ae (qi hS rfl ?_)
 have hS₂:=gg (jz (fun _=>(#[]:Array af))) hS rfl
 have oth:∀ b o,b≠S->s.heap.get? b=some o->(s.heap.update S (jz (fun _=>(#[]:Array af)))).get? b=some o :=
 fun b o hb e=>(f9 _ _ (jn hb)).trans e
 refine ae (Qh ?_)
 refine P9 W hn hT h2 h3 hint S .none _ (W.frame _ _ _ eV fun b hb o e=>oth b o (fun h=>hSf (h▸hb)) e) hSf hI hS₂ fun h' tk mU c' hm hS' hacc=>?_
 exact hR h' tk mU c' (fun b o hb e=>hm b o hb (oth b o (fun z=>hb (by rw[z];exact de ..)) e)) hS' hacc
end
section
variable {prog:br}{w:dg}{A:cp}{E:af->ah->Prop}{s:ah}{I:Addr}{fp wr:List Addr}{n:Nat}{P:Nat->af->Prop}{St:Nat->Heap->Prop}
theorem vI {T:String}{Q:af->ah->Prop}(W:Walks prog w A.in1.in1 I fp wr n P St)(hn:n<=sizeLine)(hT:∀ h,St 0 h->∃ o,h.get? I=some o/\o.cls=.type T)(h2:(gb T==gb "list")=false)(h3:(gb T==gb "tuple")=false)(hint:xN prog w I St)
  (eV:St 0 s.heap)(hfp:∀ b∈fp,b<s.heap.objs.size)(hI:I∈fp)
  (hQ:∀ h' tk mU c',(∀ b o,b∉wr->s.heap.get? b=some o->h'.get? b=some o)->h'.get? s.heap.objs.size=some { cls:=.type "list", dict:=none,data:=.seq mU c',slots:=#[] }->Qt P mU n->Q (.ref s.heap.objs.size) { s with heap:=h',toks:=tk }):
  wpAny (model prog w) A (call (.type "list") [.ref I]) Q E s:=by
 have hSf:s.heap.objs.size∉fp:=fun hm=>fj _ (hfp _ hm)
 refine Rf (Q₁:=fun obj s₁=>obj=.ref s.heap.objs.size/\s₁ = { s with heap:=s.heap.push { cls:=.type "list", data:=.seq #[] } }) F.called_list (F.typeCall_list_1 _) F.entry_list_init
  (code_list_new _ ⟨rfl,rfl⟩) fun obj s₁ h₁=>?_
 obtain⟨rfl,rfl⟩:=h₁
 have hS:(s.heap.push { cls:=.type "list", data:=.seq #[] }).get? s.heap.objs.size=some { cls:=.type "list", data:=.seq #[] }:=aw _ rfl
 refine⟨⟨_,hS,rfl⟩,F.args_list_init_2 _ _,G4 (A:=A.in1) W hn hT h2 h3 hint _ (W.frame _ _ _ eV fun b _ o e=>ag _ e) hSf hI hS fun h' tk mU c' hk hS' hacc=>?_⟩
 refine⟨rfl,hQ h' tk mU c' (fun b o hb e=>hk b o (fun z=>?_) (ag _ e)) hS' hacc⟩
 rcases List.mem_cons.mp z with z|z
 ·exact absurd (bc e) (by rw[z];exact fj _)
 ·exact hb z
end
end PySem
end
section
namespace PySem
namespace F
theorem MU:rl (.type "list_reverseiterator") "__len__" = pure none:=by rw[gz,ek];kernel_rfl
theorem RK:rl (.type "list_reverseiterator") "__length_hint__" = pure (some (.builtin "list_reverseiterator.__length_hint__")):=by rw[gz,ek];kernel_rfl
end F
section
variable {prog:br}{w:dg}
theorem S6 {I l:Addr}{items:Array af}:xN prog w I (fun i h=>i<=items.size/\h.IsRevIter I l ((items.size:Int)-1-(i:Int))/\h.IsList l items):=fun A s Q E eV hQ=>by
 have hT:=eV.2.1.typeIs
 unfold l5
 refine ae (j8 hT F.MU ?_)
 refine c7 (fun dU=>absurd dU (by decide)) (fun _=>?_)
 refine c7 (fun dU=>absurd dU (by decide)) (fun _=>?_)
 refine ae (j8 hT F.RK ?_)
 generalize hid:("list_reverseiterator.__length_hint__" : String)=id0
 wp_delta
 rw[show splitId id0=some ("list_reverseiterator","__length_hint__")from by subst hid;decide +kernel]
 subst hid
 refine ae (mj (T :="list_reverseiterator") (b:=true) hT (by rw[j1];kernel_rfl) ?_)
 refine c7 (fun dU=>absurd dU (by decide)) (fun _=>?_)
 refine c7 (fun _=>?_) (fun dU=>absurd (by decide +kernel) dU)
 refine c7 (fun dU=>absurd dU (by decide +kernel)) (fun _=>?_)
 exact ak (hQ false s.toks)
end
end PySem
end
section
namespace PySem
open PyProof.Rows
namespace F
theorem LX:rl (.type "tuple") "__reversed__" = pure none:=by rw[gz,ek];kernel_rfl
theorem HH:rl (.type "tuple") "__getitem__" = pure (some (.builtin "tuple.__getitem__")):=by rw[gz,ek];kernel_rfl
theorem L4:rl (.type "reversed") "__len__" = pure none:=by rw[gz,ek];kernel_rfl
theorem wL:Manifest.owners.lookup (String.ofList ['d','e','s','r','e','v','e','r'].reverse)=some Manifest.sig_reversed:=by kernel_rfl
theorem jL:Slot "reversed" "__next__" "reversed.__next__" :=
 .of (owner :="reversed") (n :="__next__") (by rw[gz,ek];kernel_rfl) (by decide +kernel) (by decide +kernel) (by decide +kernel)
 (by first|exact .inl (by decide +kernel)|exact .inr (by decide +kernel)) (by rw[j1];kernel_rfl)
theorem oP:Slot "reversed" "__length_hint__" "reversed.__length_hint__" :=
 .of (owner :="reversed") (n :="__length_hint__") (by rw[gz,ek];kernel_rfl) (by decide +kernel) (by decide +kernel) (by decide +kernel)
 (by first|exact .inl (by decide +kernel)|exact .inr (by decide +kernel)) (by rw[j1];kernel_rfl)
theorem uX:Slot "reversed" "__iter__" "reversed.__iter__" :=
 .of (owner :="reversed") (n :="__iter__") (by rw[gz,ek];kernel_rfl) (by decide +kernel) (by decide +kernel) (by decide +kernel)
 (by first|exact .inl (by decide +kernel)|exact .inr (by decide +kernel)) (by rw[j1];kernel_rfl)
theorem tF:Tb table "reversed.__next__" = some Builtin.«reversed.__next__»:=zr (by kernel_rfl)
theorem C8:Tb table "reversed.__length_hint__" = some Builtin.«reversed.__length_hint__»:=zr (by kernel_rfl)
theorem qY (a:af):Rg "reversed.__next__" ⟨[a],[]⟩:=by
 unfold Rg;rw[xv (id :="reversed.__next__") (n:=['_','_','t','x','e','n','_','_']) (o:=['d','e','s','r','e','v','e','r']) (by kernel_rfl) wL];kernel_rfl
theorem BJ (a:af):Rg "reversed.__length_hint__" ⟨[a],[]⟩:=by
 unfold Rg;rw[xv (id :="reversed.__length_hint__") (n :="__length_hint__".toList.reverse) (o:=['d','e','s','r','e','v','e','r']) (by kernel_rfl) wL];kernel_rfl
theorem CJ (a:af):Rg "reversed.__iter__" ⟨[a],[]⟩:=by
 unfold Rg;rw[xv (id :="reversed.__iter__") (n:=['_','_','r','e','t','i','_','_']) (o:=['d','e','s','r','e','v','e','r']) (by kernel_rfl) wL];kernel_rfl
theorem CY:Tb table "reversed.__iter__" = some Builtin.«dict_keyiterator.__iter__» :=
 entryFor_alias (id' :="dict_keyiterator.__iter__") (by kernel_rfl) (by first|rfl|decide +kernel|(unfold String.splitOn;simp +decide [String.splitOnAux])) (by decide +kernel) (by kernel_rfl)
end F
end PySem
end
section
namespace PySem
open PyProof.Rows
section
variable {prog:br}{w:dg}{A:cp}{E:af->ah->Prop}{s:ah}
noncomputable def M1 (t:Addr)(i:Int):Obj:={ cls:=.type "reversed", data:=.fields #[.ref t,gd i] }
def Heap.jW (h:Heap)(a t:Addr)(i:Int):Prop:=∃ o,h.get? a=some o/\o.cls=.type "reversed" /\ o.data=.fields #[.ref t,gd i]
theorem Heap.jW.typeIs {a t:Addr}{i:Int}(x:s.heap.jW a t i):s.TypeIs (.ref a) "reversed":=let⟨o,ho,hc,_⟩:=x;⟨o,ho,hc⟩
theorem Heap.jW.at {h h':Heap}{a t:Addr}{i:Int}(x:h.jW a t i)(e:∀ o,h.get? a=some o->h'.get? a=some o):h'.jW a t i:=let⟨o,ho,r⟩:=x;⟨o,e _ ho,r⟩
theorem wX {t:Addr}{items:Array af}{Q₁:af->ah->Prop}(ht:IsTup s.heap t items)(mT:(items.size:Int)<2 ^ 63)
 (h:Q₁ (.ref s.heap.objs.size) { s with heap:=s.heap.push (M1 t ((items.size:Int)-1)),toks:=s.toks+1+1 }):
 ku (model prog w) A (.call (.builtin "reversed.__new__") ⟨[.type "reversed", .ref t],[]⟩) (wants Q₁ E) s:=by
 refine Qm ?_
 show wpAny _ A.in1 (do checkBuiltinCall "reversed.__new__" ⟨[.type "reversed", .ref t],[]⟩;again (.builtin "reversed.__new__" ⟨[.type "reversed", .ref t],[]⟩)) _ _ s
 refine ae (ke (F.newCall_reversed_1 _) (ak ⟨plainId_quiet wq _,qj F.entry_reversed_new ?_⟩))
 rw[qe wq _]
 unfold Builtin.«reversed.__new__»
 refine ae (ke (newClass_reversed _) ?_)
 try dsimp only
 refine ae (ke (a:=()) (by first|rfl|kernel_rfl) ?_)
 refine ae (ke (a:=()) (by first|rfl|kernel_rfl) ?_)
 try dsimp only
 refine ae (j8 ht.typeIs F.LX ?_)
 try dsimp only
 refine ae ?_
 wp_delta
 refine ae (mj (T :="tuple") (b:=false) ht.typeIs (by rw[j1];kernel_rfl) ?_)
 refine c7 (fun dU=>absurd dU (by decide)) (fun _=>?_)
 refine ae (j8 ht.typeIs F.HH ?_)
 refine c7 (fun _=>?_) (fun dU=>absurd (by decide +kernel) dU)
 refine ak ?_
 refine c7 (fun dU=>absurd dU (by decide)) (fun _=>?_)
 refine ae (Rv ht mT ?_)
 refine ae (m:=asInt? _) (ak ?_)
 refine ae (m:=Builtin.SmallTypes.newRecord (.type "reversed") [gf t,gd ((items.size:Int)-1)]) ?_
 show wpAny _ _ (newObj (.type "reversed") (.fields #[gf t,gd ((items.size:Int)-1)])) _ _ _
 exact fv (ak h)
theorem yX {it t:Addr}{i:Int}{Q:af->ah->Prop}(hit:s.heap.jW it t i)(h:Q (.ref it) s):wpAny (model prog w) A (vz (.ref it)) Q E s:=by
 refine wpAny_pyIter_slot hit.typeIs F.uX (fk F.uX hit.typeIs F.CY ?_ (F.CJ _))
 show wpAny _ _ (ret (.ref it)) _ _ s
 exact ak ⟨_,rfl,"reversed", _,hit.typeIs,F.jL.lookup,h⟩
theorem rL {it t:Addr}{i:Nat}{items:Array af}{x:af}{Q:Option af->ah->Prop}(hit:s.heap.jW it t (i:Int))(ht:IsTup s.heap t items)(mT:(items.size:Int)<2 ^ 63)(hx:items[i]? = some x)
  (hQ:∀ h',h'.jW it t ((i:Int)-1)->j9 it s.heap h'->Q (some x) { s with heap:=h',toks:=s.toks+1 }):wpAny (model prog w) A (rg (.ref it)) Q E s:=by
 obtain⟨o,ho,hc,hd⟩:=id hit
 have hi:i<items.size:=by
  rcases Nat.lt_or_ge i items.size with z|z
  ·exact z
  ·rw[Array.getElem?_eq_none z]at hx;cases hx
 unfold rg
 refine ae (qa (fy (name:=ik "__next__") hit.typeIs F.jL
  (fk F.jL hit.typeIs F.tF ?_ (F.qY _))))
 unfold Builtin.«reversed.__next__»
 refine ae (ke (a:=(gf it,[])) rfl ?_)
 try dsimp only
 refine ae (f6 ho hd (x:=.ref t) rfl ?_)
 refine ae (f6 ho hd (x:=gd (i:Int)) rfl ?_)
 show wpAny _ _ (if(i:Int)<0 then _ else _) _ _ s
 rw[if_neg (by omega)]
 refine ae (j8 ht.typeIs F.HH ?_)
 refine c7 (fun dU=>absurd dU (by decide)) (fun _=>?_)
 refine ae (Qi ?_)
 refine ae (qa (PyProof.Rows.getItem_tuple (j:=i) ht (by omega) (by omega) (wa (by omega) (by omega)) hx ?_))
 refine ae (f6 ho hd (x:=gd (i:Int)) rfl ?_)
 refine ae (pe ho hd (by simp) ?_)
 first
 |refine ak ⟨x,rfl,ak (hQ _ ?_ (ng ..))⟩
 |refine ae (ak (ak ⟨x,rfl,ak (hQ _ ?_ (ng ..))⟩))
 exact⟨_,gg _ ho (ph (j2 hd _)),(y9 ..).trans hc,by
  rw[j2 hd];simp⟩
end
end PySem
end
section
namespace PySem
open PyProof.Rows
section
variable {prog:br}{w:dg}{A:cp}{E:af->ah->Prop}{s:ah}
theorem sH {it t:Addr}{Q:Option af->ah->Prop}(hh:A.handled=none)(hit:s.heap.jW it t (-1))
 (hQ:∀ h',Qj it s.heap h'->Q none { s with heap:=h' }):wpAny (model prog w) A (rg (.ref it)) Q E s:=by
 obtain⟨o,ho,hc,hd⟩:=id hit
 unfold rg
 refine ae (qa (fy (name:=ik "__next__") hit.typeIs F.jL
 (fk F.jL hit.typeIs F.tF ?_ (F.qY _))))
 unfold Builtin.«reversed.__next__»
 refine ae (ke (a:=(gf it,[])) rfl ?_)
 try dsimp only
 refine ae (f6 ho hd (x:=.ref t) rfl ?_)
 refine ae (f6 ho hd (x:=gd (-1)) rfl ?_)
 show wpAny _ _ (if(-1:Int)<0 then _ else _) _ _ s
 rw[if_pos (by decide)]
 refine ae (r6 ?_)
 refine ae ?_
 wp_delta
 have ho2:=gg (xw (·.setIfInBounds 1 (gd (-1)))) ho (ph (j2 hd _))
 refine ae (pe ho hd (by simp) ?_)
 refine pe ho2 (j2 hd _) (by simp) ?_
 first
 |show wpAny _ _ (Sg (.type "StopIteration") [] >>= _) _ _ _
 |(refine ae ?_;show wpAny _ _ (Sg (.type "StopIteration") [] >>= _) _ _ _)
 refine ae ?_
 simp only[Sg,newTuple]
 refine ae (fv ?_ (by size_fits))
 refine ae (m:=r8 _ _) (ke (a:=g6) (by first|rfl|(simp only[r8];rfl)) ?_)
 refine fv ?_ (by size_fits)
 simp only[Sw]
 refine ae (Rq ?_)
 first|rw[show A.in1.handled=none from hh]|rw[hh]
 refine ae (ak (wpAny_throw ?_))
 refine ae (mj (T :="StopIteration") (b:=true) ⟨_,aw _ rfl,rfl⟩ Rh ?_)
 refine ak (hQ _ ?_)
 have e1:Qj it s.heap ((s.heap.update it (xw (·.setIfInBounds 1 (gd (-1))))).update it (xw (·.setIfInBounds 0 g6))):=fun b u hb e =>
 (f9 _ _ (jn hb)).trans ((f9 _ _ (jn hb)).trans e)
 exact(e1.push _).push _
end
theorem Walks.Bj {prog:br}{w:dg}{A:cp}(hh:A.handled=none)(I l:Addr)(hne:l≠I)(items:Array af)(mT:(items.size:Int)<2 ^ 63):
  Walks prog w A I [I,l] [I] items.size (fun i v=>items[items.size-1-i]? = some v) (fun i h=>i<=items.size/\h.jW I l ((items.size:Int)-1-(i:Int))/\IsTup h l items) where
 sub:=fun b hb=>by simp at hb;simp [hb]
 frame:=fun _ _ _ x hk=>⟨x.1,x.2.1.at fun o e=>hk I (by simp) o e,let⟨o,ho,r⟩:=x.2.2;⟨o,hk l (by simp) o ho,r⟩⟩
 item:=fun i s Q E hi x hQ=>by
  have e:(items.size:Int)-1-(i:Int)=((items.size-1-i:Nat):Int):=by omega
  have hit:=x.2.1
  rw[e]at hit
  have hx:items[items.size-1-i]? = some (items[items.size-1-i]'(by omega)):=sk (by omega)
  refine rL hit x.2.2 mT hx fun h' hit' jN=>?_
  have e2:((items.size-1-i:Nat):Int)-1=(items.size:Int)-1-((i+1:Nat):Int):=by omega
  rw[e2]at hit'
  exact hQ _ h' _ hx ⟨hi,hit',let⟨o,ho,r⟩:=x.2.2;⟨o,(jN.2 l hne).trans ho,r⟩⟩ fun b o hb eo=>jN.extBut b o (fun h=>hb (by simp [h])) eo
 done:=fun s Q E x hQ=>by
  have e:(items.size:Int)-1-(items.size:Int) = -1:=by omega
  have hit:=x.2.1
  rw[e]at hit
  exact sH hh hit fun h' he'=>hQ h' s.toks fun b o hb eo=>he' b o (fun h=>hb (by simp [h])) eo
 self:=fun _ _ _ _ x hQ=>yX x.2.1 hQ
section
variable {prog:br}{w:dg}{A:cp}{E:af->ah->Prop}{s:ah}
theorem F.xB:Slot "reversed" "__init__" "object.__init__" :=
 .of (owner :="object") (n :="__init__") (by rw[gz,ek];kernel_rfl) (by decide +kernel) (by decide +kernel) (by decide +kernel)
 (by first|exact .inl (by decide +kernel)|exact .inr (by decide +kernel)) (by rw[j1];kernel_rfl)
theorem F.mI:TypeCalled "reversed" "reversed.__new__" "object.__init__" :=
 ⟨by decide +kernel,by decide +kernel,⟨_,_,F.mro_reversed⟩,F.made_reversed,by decide +kernel,by rw[j1];kernel_rfl,F.xB⟩
theorem yW {t:Addr}{items:Array af}{Q:af->ah->Prop}(ht:IsTup s.heap t items)(mT:(items.size:Int)<2 ^ 63)
  (h:Q (.ref s.heap.objs.size) { s with heap:=s.heap.push (M1 t ((items.size:Int)-1)),toks:=s.toks+1+1 }):wpAny (model prog w) A (call (.type "reversed") [.ref t]) Q E s:=by
 refine Rf (Q₁:=fun obj s₁=>s₁.TypeIs obj "reversed" /\ Q obj s₁) F.mI (F.typeCall_reversed_1 _) F.entry_object_init
  (wX ht mT ⟨⟨_,aw _ rfl,rfl⟩,h⟩) fun obj s₁ hq=>⟨hq.1,F.args_object_init_2 obj _,?_⟩
 exact object_init_meets F.mI.init.lookup F.mI.made (by decide) prog w A.in1 _ s₁ ⟨hq.1,rfl,hq.2⟩
theorem TZ {I l:Addr}{items:Array af}(mT:items.size<=sizeLine):xN prog w I (fun i h=>i<=items.size/\h.jW I l ((items.size:Int)-1-(i:Int))/\IsTup h l items):=fun A s Q E eV hQ=>by
 have hit:=eV.2.1
 have hT:=hit.typeIs
 obtain⟨o,ho,hc,hd⟩:=id hit
 have hf:(items.size:Int)<2 ^ 63:=by have:=mT;rw[jr]at this;omega
 unfold l5
 refine ae (j8 hT F.L4 ?_)
 refine c7 (fun dU=>absurd dU (by decide)) (fun _=>?_)
 refine c7 (fun dU=>absurd dU (by decide)) (fun _=>?_)
 refine ae (j8 hT F.oP.lookup ?_)
 generalize hid:("reversed.__length_hint__" : String)=id0
 wp_delta
 rw[show splitId id0=some ("reversed","__length_hint__")from by subst hid;decide +kernel]
 subst hid
 refine ae (mj (T :="reversed") (b:=true) hT (by rw[j1];kernel_rfl) ?_)
 refine c7 (fun dU=>absurd dU (by decide)) (fun _=>?_)
 refine c7 (fun dU=>absurd dU (by decide +kernel)) (fun _=>?_)
 refine ae (r6 ?_)
 refine ae (ke (F.oP.bind _) ?_)
 refine ae (qa (fk F.oP hT F.C8 ?_ (F.BJ _)))
 unfold Builtin.«reversed.__length_hint__»
 refine ae (ke (a:=gf I) rfl ?_)
 refine ae (f6 ho hd (x:=.ref l) rfl ?_)
 refine c7 (fun dU=>absurd dU (by simp)) (fun _=>?_)
 refine ae (Rv eV.2.2 hf ?_)
 refine ae (m:=asInt? _) (ak ?_)
 refine ae (m:=field (.ref I) 1) (f6 ho hd (x:=gd ((items.size:Int)-1-((0:Nat):Int))) rfl ?_)
 show wpAny _ _ (if(items.size:Int)<((items.size:Int)-1-((0:Nat):Int))+1 then _ else _) _ _ _
 rw[if_neg (by omega)]
 refine ae (Qi (ak ⟨_,rfl,?_⟩))
 refine ae (m:=asInt? _) (ak ?_)
 dsimp only
 have e0:(items.size:Int)-1-((0:Nat):Int)+1=items.size:=by omega
 rw[e0]
 have hfi:Builtin.List.listFitsIndex (items.size:Int)=true:=Qz (by omega) hf
 have htl:d7 ((items.size:Int).toNat)=false:=by simp [d7];exact mT
 rw[hfi,htl]
 refine c7 (fun dU=>absurd dU (by decide)) (fun _=>?_)
 refine c7 (fun dU=>absurd dU (by omega)) (fun _=>?_)
 refine c7 (fun dU=>absurd dU (by decide)) (fun _=>ak (hQ _ _))
end
end PySem
end
section
namespace L3
open PySem PySem.Spec PyProof.Rows L2
theorem HA {X:Cx}{pz:List (Addr×Obj)}{σ:L2.St}{H:Hp}{s:ah}{h':Heap}{t':Nat}{it:Addr}{ys:List V}{aD:List af}{n:Nat}(I:Inv X pz σ H s)(f:kP X pz H it)(k:∀ b o,b≠it->s.heap.get? b=some o->h'.get? b=some o)
  (new:h'.get? s.heap.objs.size=some { cls:=.type "list", data:=.seq aD.toArray n })(hv:aO ys aD)(hz:ys.length<=sizeLine):Inv X pz σ (upd H s.heap.objs.size (.lst ys)) { s with heap:=h',toks:=t' }:=by
 have hS:=I.fresh
 have neS:∀ b o,s.heap.get? b=some o->b≠s.heap.objs.size:=fun b o e=>bz (bc e)
 have tr:∀ b u,H b=some u->b≠s.heap.objs.size:=fun b u e=>hX e hS
 obtain⟨f0,f1,f2,f3,f4,f5⟩:=f
 refine I.step (g':=s.gens) (d':=s.drawn) (ch:=[it]) (fun b hb=>?_) (fun b o _ _ hc e _=>k b o (fun z=>hc (by simp [z])) e) (fun b o _ _ hc e _=>⟨o.slots,k b o (fun z=>hc (by simp [z])) e⟩) (fun b o _ e n=>by rw[bA (neS b o e)];exact n)
  (fun b o hc e=>⟨o,k b o (fun z=>hc (by simp [z])) e⟩) (fun b xs e=>by rw[bA (tr b _ e)];exact e) (fun b o u e=>by rw[bA (tr b _ e)];exact e) (fun b ps e=>⟨#[],by rw[bA (tr b _ e),e];simp⟩) (fun m hm=>?_) (fun b u e=>?_) I.bare
 ·have e:b=it:=by simpa using hb
  subst e
  exact⟨f3,f1,f4,f5⟩
 ·obtain⟨o,es,ep,ho,r⟩:=hm
  exact⟨o,es,ep,k _ o (jn f1) ho,r⟩
 ·by_cases hb:b=s.heap.objs.size
  ·subst hb
   rw[cS]at e;cases e
   exact⟨hz,aD,n,hv,new⟩
  ·rw[bA hb]at e
   refine(I.bN b u e).nF (fun c v hc q=>k c v ?_ q) (fun c q=>by rw[bA (tr c _ q)];exact q) fun c xs q=>by rw[bA (tr c _ q)];exact q
   rcases hc with z|z
   ·rw[z];exact fun y=>by rw[y,f0]at e;cases e
   ·exact fun y=>by rw[y,f0]at z;cases z
theorem PL {aD:List af}{acc:Array af}(h:Qt (fun i v=>aD.toArray[aD.toArray.size-1-i]? = some v) acc aD.toArray.size):acc=aD.reverse.toArray:=by
 obtain⟨h1,h2⟩:=h
 apply Array.ext
 ·rw[h1];simp
 ·intro i hi hi'
  have:aD.toArray[aD.toArray.size-1-i]? = some acc[i]:=h2 i acc[i] (sk hi)
  have hl:i<aD.length:=by rw[h1]at hi;simpa using hi
  have e:aD.toArray[aD.toArray.size-1-i]? = some (aD.reverse.toArray[i]):=by
   simp
  rw[e]at this
  exact(cy this).symm
theorem aO.reverse:∀{vs:List V}{us:List af},aO vs us->aO vs.reverse us.reverse
 |_,_,.nil=>.nil
 |_,_,.cons h t=>by simp only[jd];exact(aO.reverse t).append (.cons h .nil)
section
variable {X:Cx}{C:bC}{sub:Nat->Nat->Bool}{E:XK}{a b c e o tg:Expr}{es:List Expr}{x y z:Ex}{xs:List Ex}{p p2 pos pos2:Pos}{kk:IK}
theorem Ha (hm:X.mg "list" = none)(hm2:X.mg "reversed" = none)(hc:X.calm=true)(ha:PA X [a] (jB X.K (bG C sub E [x])))(hg:X.env.kindOf "list" = some .globalImplicit:=by kernel_rfl)(hg2:X.env.kindOf "reversed" = some .globalImplicit:=by kernel_rfl)
  (he:ai [.Call (.Name "reversed" p2) [a] [] pos2] X.env=(false,eval (.Call (.Name "reversed" p2) [a] [] pos2) X.env)::ai [] X.env:=by kernel_rfl)(dC:(dh pos (ai [] X.env)).any (·.1)=false:=by kernel_rfl)
  (he2:ai [a] X.env=(false,eval a X.env)::ai [] X.env:=by kernel_rfl)(hpl2:(dh pos2 (ai [] X.env)).any (·.1)=false:=by kernel_rfl):
  PE X (.Call (.Name "list" p) [.Call (.Name "reversed" p2) [a] [] pos2] [] pos) (bR X.K (aE C sub E (.bit .list .rev [x]))):=by
 intro pz s σ H Q I ⟨σd,st,R,r,ok,q,hq⟩
 refine dt (jV I hg hm yS ?_ (by decide) (by decide))
 refine dq ?_ he dC
 rw[he]
 show wpAny _ _ (w5 ((false,eval (.Call (.Name "reversed" p2) [a] [] pos2) X.env)::dh pos (ai [] X.env))) _ _ s
 refine jx ?_
 refine dt (jV I hg2 hm2 KI ?_ (by decide) (by decide))
 refine dq (aY (ha pos2 pz s σ H _ I ⟨σd,st,_,r,ok,q,fun vs H' z=>z⟩) fun us s1 ⟨vs,H1,I1,rv,ds,aC,cQ,aM,rs,q1⟩=>?_) he2 hpl2
 match ds,rs,q1 with
 |[d],rs,q1 =>
  obtain⟨v,rfl,rd⟩:=rs.one
  obtain⟨u,rfl,ru⟩:=vals1 rv
  have q1:eG d aC fun as xs=>gF xs.reverse aC R:=q1
  obtain⟨l,ws,as,ys,rfl,sa,g,q1⟩:=nW aM rd q1
  cases ru
  have hh:X.A.handled=none:=I1.ok.hd hc
  have nil:∀{Q':List af->ah->Prop}{s':ah},Q' [] s'->wpAny (model X.prog X.w) X.A (w5 (dh pos (ai [] X.env))) Q' X.xe s':=fun h=>l0 h
  have fin:∀(aD:List af)(s2:ah)(h':Heap)(tk:Nat)(acc:Array af)(cc:Nat),aO ws aD->ws.length<=sizeLine->Inv X pz σ H1 s2->kP X pz H1 s1.heap.objs.size->(∀ b o,b∉[s1.heap.objs.size]->s2.heap.get? b=some o->h'.get? b=some o) ->
    h'.get? s2.heap.objs.size=some { cls:=.type "list", dict:=none,data:=.seq acc cc,slots:=#[] }->Qt (fun i v=>aD.toArray[aD.toArray.size-1-i]? = some v) acc aD.toArray.size->EP X pz σ Q (.ref s2.heap.objs.size) { s2 with heap:=h',toks:=tk }:=by
   intro aD s2 h' tk acc cc hv hz I2 f2 k2 hS hacc
   have ea:=PL hacc
   subst ea
   refine⟨.ref s2.heap.objs.size,_,HA I2 f2 (fun b o hb e=>k2 b o (by simpa using hb) e) hS (aO.reverse hv) (by simpa using hz),rfl,hq _ _ (.after cQ ?_)⟩
   exact .gF aM g.reverse I2.fresh q1.2
  rcases sa with sa|sa
  ·obtain⟨aD,r1,pl,hz⟩:=I1.list sa
   have hl:=pl.isList
   have eB:l<s1.heap.objs.size:=by obtain⟨_,e,_⟩:=hl;exact bc e
   have hzz:aD.toArray.size<=sizeLine:=by simp;rw[<-r1.length];exact hz
   refine call_reversed_list hl (nil ?_)
   have I2:Inv X pz σ H1 { s1 with heap:=s1.heap.push (revObj l ((aD.toArray.size:Int)-1)) }:=I1.kept (t':=s1.toks) fun b o e=>ag _ e
   have W:=fun A hA=>Walks.listRev (prog:=X.prog) (w:=X.w) (A:=A) hA s1.heap.objs.size l (bz eB) aD.toArray
   refine vI (W _ hh) hzz (fun h st=>let⟨o,ho,hcl,_⟩:=st.2.1;⟨o,ho,hcl⟩) (by decide) (by decide) S6 ⟨Nat.zero_le _,⟨_,aw _ rfl,rfl,by simp [revObj]⟩,hl.push _⟩ (fun b hb=>?_) (by simp) fun h' tk acc cc k hS hacc=>?_
   ·show b<(s1.heap.push _).objs.size
    rw[ff]
    rcases List.mem_cons.mp hb with rfl|hb
    ·exact gm _
    ·rcases List.mem_cons.mp hb with rfl|hb
     ·exact kd eB
     ·cases hb
   ·exact fin aD _ h' tk acc cc r1 hz I2 (I1.DO (av _) I1.fresh) k hS hacc
  ·obtain⟨aD,r1,pl,hz⟩:=I1.tuple sa
   have eB:l<s1.heap.objs.size:=by obtain⟨_,e,_⟩:=pl;exact bc e
   have hzz:aD.toArray.size<=sizeLine:=by simp;rw[<-r1.length];exact hz
   have mT:(aD.toArray.size:Int)<2 ^ 63:=by have:=hzz;rw[jr]at this;omega
   refine yW pl mT (nil ?_)
   have I2:Inv X pz σ H1 { s1 with heap:=s1.heap.push (M1 l ((aD.toArray.size:Int)-1)),toks:=s1.toks+1+1 }:=I1.kept (t':=s1.toks+1+1) fun b o e=>ag _ e
   have W:=fun A hA=>Walks.Bj (prog:=X.prog) (w:=X.w) (A:=A) hA s1.heap.objs.size l (bz eB) aD.toArray mT
   refine vI (W _ hh) hzz (fun h st=>let⟨o,ho,hcl,_⟩:=st.2.1;⟨o,ho,hcl⟩) (by decide) (by decide) (TZ hzz) ⟨Nat.zero_le _,⟨_,aw _ rfl,rfl,by simp [M1]⟩,let⟨o,ho,r⟩:=pl;⟨o,ag _ ho,r⟩⟩ (fun b hb=>?_) (by simp) fun h' tk acc cc k hS hacc=>?_
   ·show b<(s1.heap.push _).objs.size
    rw[ff]
    rcases List.mem_cons.mp hb with rfl|hb
    ·exact gm _
    ·rcases List.mem_cons.mp hb with rfl|hb
     ·exact kd eB
     ·cases hb
   ·exact fin aD _ h' tk acc cc r1 hz I2 (I1.DO (av _) I1.fresh) k hS hacc
theorem La (hm:X.mg "list" = none)(hm2:X.mg "reversed" = none)(ha:JA X C sub E [a] [x])(hc:X.calm=true:=by kernel_rfl)(hg:X.env.kindOf "list" = some .globalImplicit:=by kernel_rfl)(hg2:X.env.kindOf "reversed" = some .globalImplicit:=by kernel_rfl)
 (he:ai [.Call (.Name "reversed" p2) [a] [] pos2] X.env=(false,eval (.Call (.Name "reversed" p2) [a] [] pos2) X.env)::ai [] X.env:=by kernel_rfl)(dC:(dh pos (ai [] X.env)).any (·.1)=false:=by kernel_rfl)
 (he2:ai [a] X.env=(false,eval a X.env)::ai [] X.env:=by kernel_rfl)(hpl2:(dh pos2 (ai [] X.env)).any (·.1)=false:=by kernel_rfl):
 JE X C sub E (.Call (.Name "list" p) [.Call (.Name "reversed" p2) [a] [] pos2] [] pos) (.bit .list .rev [x]):=⟨Ha hm hm2 hc ha.h hg hg2 he dC he2 hpl2⟩
end
theorem En {K:aa}{h:Heap}{mg:Str->Option af}(X:K.In h)(G:h.Ns cw mg){n:Str}{i:Int}{t:Tok}(a:iu K cw n=some (some (.int i t))):GC K mg n (.int i):=⟨_,.int i,ly X G a,⟨t,rfl⟩,fun _=>.int i⟩
theorem Ec {K:aa}{h:Heap}{mg:Str->Option af}(X:K.In h)(G:h.Ns cw mg){n:Str}{x:Str}{w:List Nat}{t:Tok}(a:iu K cw n=some (some (.str x t)))(e:x=⟨w.toArray⟩):GC K mg n (.str w):=⟨_,.str x,ly X G a,⟨t,rfl⟩,fun _=>by rw[e];exact .str w⟩
noncomputable def LY:D->af->Bool
 |.non,.none=>true
 |.bl b,.bool c=>b==c
 |.int i,.int j _=>i==j
 |.str w,.str x _=>w==x.cps.toList
 |_,_=>false
noncomputable def FW:List D->List af->Bool
 |[],[]=>true
 |d::ds,u::us=>LY d u&&FW ds us
 |_,_=>false
noncomputable def UY:D->V
 |.bl b=>.bl b
 |.int i=>.int i
 |.str w=>.str ⟨w.toArray⟩
 |_=>.non
set_option tactic.hygienic true in
theorem RT {K:aa}{H:Hp}{d:D}{u:af}(h:LY d u=true):L2.RelV (UY d) u/\Rep K H d (UY d):=by
 unfold LY at h
 split at h
 ·exact⟨rfl,.non⟩
 ·exact⟨by rw[eq_of_beq h];rfl,.bl _⟩
 ·exact⟨⟨_,by rw[eq_of_beq h]⟩,.int _⟩
 ·rename_i w x t
  exact⟨⟨t,by rw[eq_of_beq h]⟩,.str w⟩
 ·cases h
theorem G5 {K:aa}{H:Hp}:∀{ds:List D}{us:List af},FW ds us=true->aO (ds.map UY) us/\aH K H ds (ds.map UY)
 |[],[],_=>⟨.nil,.nil⟩
 |d::ds,u::us,h=>by
  simp only[FW,ar]at h
  have r:=RT (K:=K) (H:=H) h.1
  have s:=G5 (K:=K) (H:=H) h.2
  exact⟨.cons r.1 s.1,.cons r.2 s.2⟩
 |[],_::_,h=>by cases h
 |_::_,[],h=>by cases h
theorem NT {K:aa}{h:Heap}{mg:Str->Option af}(X:K.In h)(G:h.Ns cw mg){n:Str}{ds:List D}{p:Addr}{aD:Array af}{k:Nat}{sl:Array (Option af)}(a:iu K cw n=some (some (.ref p)))
 (l:K.lookup p=some ⟨.type "tuple", none,.seq aD k,sl⟩)(f:FW ds aD.toList=true)(z:Nat.ble aD.size 1000=true):GC K mg n (.tup ds):=by
 refine⟨_,.ref p,ly X G a,rfl,fun H=>?_⟩
 have s:=G5 (K:=K) (H:=H) f
 exact .tup (.inr ⟨_,aD,k,l,rfl,rfl,rfl,me (RB (Nat.le_of_ble_eq_true z)),s.1⟩) s.2
noncomputable def Ew:D->Ra
 |.bl b=>.bool b
 |.int i=>.int i
 |.str w=>.str ⟨w.toArray⟩
 |_=>.none
noncomputable def Kj:D->Bool
 |.non=>true
 |.bl _=>true
 |.int _=>true
 |.str _=>true
 |_=>false
noncomputable def uJ:List D->List D->List (Str×PyData)
 |.str w::ks,v::vs=>(⟨w.toArray⟩,Ew v)::uJ ks vs
 |_,_=>[]
noncomputable def VI:List D->List D->Bool
 |[],[]=>true
 |.str _::ks,v::vs=>Kj v&&VI ks vs
 |_,_=>false
theorem ZX {v:D}(h:Kj v=true):qO (Ew v)=v/\mY (Ew v)=true:=by
 cases v<;>first|exact⟨rfl,rfl⟩|cases h
theorem NV:∀{ks vs:List D},VI ks vs=true->((uJ ks vs).all fun p=>mY p.2)=true/\ks=(uJ ks vs).map (fun p=>.str p.1.cps.toList)/\vs=(uJ ks vs).map (fun p=>qO p.2)
 |[],[],_=>⟨rfl,rfl,rfl⟩
 |.str w::ks,v::vs,h=>by
  simp only[VI,ar]at h
  obtain⟨a,b,c⟩:=NV h.2
  obtain⟨d,e⟩:=ZX h.1
  refine⟨?_,?_,?_⟩
  ·simp only[uJ,p9,e,a,fq]
  ·simp only[uJ,aq];rw[<-b]
  ·simp only[uJ,aq,d];rw[<-c]
 |[],_::_,h=>by cases h
 |.str _::_,[],h=>by cases h
 |.non::_,_,h=>by cases h
 |.bl _::_,_,h=>by cases h
 |.int _::_,_,h=>by cases h
 |.tup _::_,_,h=>by cases h
 |.ref _::_,_,h=>by cases h
 |.cY _ _::_,_,h=>by cases h
 |.bL _::_,_,h=>by cases h
 |.exc _::_,_,h=>by cases h
theorem ZF {K:aa}{h:Heap}{mg:Str->Option af}(X:K.In h)(G:h.Ns cw mg){n:Str}{ks vs:List D}{p:Addr}{es:Array DictEntry}{ep:Nat}(a:iu K cw n=some (some (.ref p)))
 (l:K.lookup p=some ⟨.type "dict", none,.dict es ep,#[]⟩)(f:(KTD.rowsLook tw es.toList (uJ ks vs)&&VI ks vs && !(p==l8))=true):GC K mg n (.cY ks vs):=by
 simp only[ar]at f
 obtain⟨⟨f1,f2⟩,f3⟩:=f
 obtain⟨a1,a2,a3⟩:=NV f2
 refine⟨_,.ref p,ly X G a,rfl,fun H=>.cY ⟨uJ ks vs,?_,a1,a2,a3⟩⟩
 simp only[wc,l,f1,f3]
 rfl
end L3
end
section
namespace L3
open PySem PySem.Spec PyProof.Rows L2 PySem.SeqAt
theorem KL {β:Type}(n:Nat)(b:β)(f:Nat->β->Sem (ForInStep β)):forIn [0:n] b f=forIn (wt 0 n 1) b f:=by
 rw[Std.Legacy.Range.forIn_eq_forIn_range']
 have iD:([0:n]:zt).size=n:=by simp [Std.Legacy.Range.size]
 show forIn (wt 0 ([0:n]:zt).size 1) b f=_
 rw[iD]
theorem A3 {prog:br}{w:dg}{A:cp}{E:af->ah->Prop}{s:ah}{t:Addr}{items:Array af}{x:af}{e:af->Bool}{j:Nat}{P:Fin->ah->Prop}(ht:IsTup s.heap t items)
  (he:∀ y,y∈items->EqAt A s y x (e y))(hj:j<items.size)(hit:e items[j]=true)(hno:∀ m (hm:m<items.size),m<j->e items[m]=false)
  (h:P (.done (.ret (.int j s.toks))) { s with toks:=s.toks+1 }):wpAny (model prog w) A (Builtin.«tuple.index» ⟨[.ref t,x],[]⟩) P E s:=by
 show wpAny _ _ (jy (.ref t) >>= _) _ _ s
 refine ae (xp ht ?_)
 show wpAny _ _ (forIn [0:min items.size items.size] _ _ >>= _) _ _ s
 rw[Nat.min_self,KL]
 refine ae (jw (Q:=fun(b:Option PySem.Fin×Unit) s'=>b.1=some (.done (.ret (.int j s.toks)))/\s' = { s with toks:=s.toks+1 }) (wpAny_forIn_list (β:=Option PySem.Fin×Unit) _ (fun rest b s'=>s'=s/\b.1=none/\∃ i,rest=wt i (items.size-i) 1/\i<=j) _ ?_ ?_ _ _ ⟨rfl,rfl,0,rfl,cx _⟩) ?_ fun _ _ z=>z)
 ·rintro i rest b s' ⟨rfl,hb,k,hk,hkj⟩
  have eB:k<items.size:=by omega
  have e1:items.size-k=(items.size-(k+1))+1:=by omega
  rw[e1,List.range'_succ]at hk
  injection hk with h1 h2
  subst h1
  have hg:items[i]? = some items[i]:=by simp [eB]
  rw[hg]
  show wpAny _ _ (eqBool items[i] x >>= _) _ _ _
  refine ae (he _ (Array.getElem_mem eB) prog w _ _ ?_)
  by_cases hij:i=j
  ·subst hij
   rw[hit]
   exact ae (ae (Qi (ak (ak ⟨rfl,rfl⟩))))
  ·rw[hno i eB (by omega)]
   exact ak ⟨rfl,rfl,i+1,h2,by omega⟩
 ·rintro b s' ⟨_,_,i,hi,hij⟩
  have:(wt i (items.size-i) 1).length=0:=by rw[<-hi];rfl
  simp at this
  omega
 ·rintro⟨b1,b2⟩ s' ⟨hb,rfl⟩
  simp only at hb
  subst hb
  exact ak h
section
variable {X:Cx}
theorem IE {pz:List (Addr×Obj)}{s:ah}{σ:L2.St}{H:Hp}{st:aA}(I:Inv X pz σ H s)(ok:aN X.K st H){ds:List D}{vs:List V}{aD:List af}{d:D}{v:V}{u:af}{A:cp}
  (g:aH X.K H ds vs)(r:aO vs aD)(p:cZ st ds)(pd:plainS st d)(rd:Rep X.K H d v)(rv:RelV v u)(hu:A.units+178<cLine):
  ∃ e:af->Bool,(∀ y,y∈aD.toArray->EqAt A.in1 s y u (e y))/\∀ j (hj:j<aD.length)(hj':j<ds.length),e aD[j]=bJ st ds[j] d:=by
 classical
 have hD:lE=80:=rfl
 have item:∀(d':D)(v':V)(y:af),d'∈ds->Rep X.K H d' v'->RelV v' y->EqAt A.in1 s y u (bJ st d' d):=fun d' v' y m r' bB=>by
  have h1:=lM m
  have h2:=p.2
  exact(NF I ok 80 (by omega) (gL p.1 m) pd.1 r' bB rd rv (by simp only[h9];omega)).2.1
 let e:af->Bool:=fun y=>decide (∃ d' v',d'∈ds/\Rep X.K H d' v'/\RelV v' y/\bJ st d' d=true)
 have he:∀(d':D)(v':V)(y:af),d'∈ds->Rep X.K H d' v'->RelV v' y->e y=bJ st d' d:=fun d' v' y m r' bB=>by
  show decide _=_
  cases q:bJ st d' d with
  |true=>exact decide_eq_true ⟨d',v',m,r',bB,q⟩
  |false =>
   refine decide_eq_false fun⟨d2,v2,m2,r2,rv2,q2⟩=>?_
   cases RelV.inj bB rv2
   have:=G1 I ok _ (av _) (gL p.1 m) (gL p.1 m2) r' r2
   subst this
   rw[q]at q2;cases q2
 refine⟨e,fun y hy=>?_,fun j hj hj'=>?_⟩
 ·obtain⟨j,hj,rfl⟩:=Array.mem_iff_getElem.mp hy
  obtain⟨v',e1,e2⟩:=aO.at r hj
  obtain⟨d',e3,e4⟩:=aH.get' g e1
  rw[he d' v' _ (bf e3) e4 e2]
  exact item d' v' _ (bf e3) e4 e2
 ·obtain⟨v',e1,e2⟩:=aO.at r (by simpa using hj)
  obtain⟨d',e3,e4⟩:=aH.get' g e1
  have e5:ds[j]=d':=(List.getElem?_eq_some_iff.mp e3).2
  rw[e5]
  exact he d' v' _ (bf e3) e4 (by simpa using e2)
theorem uH {st:aA}{d:D}:∀{ds:List D}{j:Nat},findD st d ds=some j->∃ hj:j<ds.length,bJ st ds[j] d=true/\∀ m (hm:m<ds.length),m<j->bJ st ds[m] d=false
 |[],_,h=>by cases h
 |x::r,j,h=>by
  have h:(if bJ st x d=true then some 0 else(findD st d r).map (·+ 1))=some j:=h
  by_cases c:bJ st x d=true
  ·rw[if_pos c]at h;cases h
   exact⟨by simp,c,fun m _ hm=>by omega⟩
  ·rw[if_neg c]at h
   obtain⟨k,e,rfl⟩:=Option.map_eq_some_iff.mp h
   obtain⟨h1,h2,h3⟩:=uH e
   refine⟨by simpa using h1,by simpa using h2,fun m hm hl=>?_⟩
   cases m with
   |zero=>simpa using c
   |succ m=>simpa using h3 m (by simpa using hm) (by omega)
theorem index_list {pz:List (Addr×Obj)}{s:ah}{σ:L2.St}{H:Hp}{st:aA}{R:VK}{ds:List D}{vs:List V}{d:D}{v:V}{u:af}{a:Addr}{j:Nat}(hu:X.A.units+180<cLine)(I:Inv X pz σ H s)(ok:aN X.K st H)(f:eJ X.K H a vs)(g:aH X.K H ds vs)
  (rd:Rep X.K H d v)(rv:RelV v u)(pd:plainS st d)(ps:cZ st ds)(hj:findD st d ds=some j)(q:R (.int (j:Nat)) st):wpAny (model X.prog X.w) X.A (call (.builtin "list.index") [.ref a,u]) (EP X pz σ (QD X.K H st R)) X.xe s:=by
 obtain⟨aD,r1,p1,hz⟩:=I.list f
 obtain⟨e,he,ha⟩:=IE I ok g r1 ps pd rd rv (A:=X.A) (by omega)
 obtain⟨h1,h2,h3⟩:=uH hj
 have l1:=g.length
 have l2:=r1.length
 have hn:=qF
 obtain⟨⟨cls,dd,data,sl⟩,ho,hc,n,hd⟩:=id p1.isList
 simp only at hc hd
 subst hc hd
 refine n9 uj ⟨_,ho,rfl⟩ PySem.F.entry_list_index (PySem.F.args_list_index_2 _ _)
  (list_indexAt a aD.toArray n dd sl u e j (by simp;omega) (by omega) ?_ ?_) ⟨ho,he,?_⟩
 ·show e aD[j]=true
  rw[ha j (by omega) h1];exact h2
 ·intro m hm hl
  have hm:m<aD.length:=by simpa using hm
  show e aD[m]=false
  rw[ha m hm (by omega)];exact h3 m (by omega) hl
 ·exact⟨.int j,H,I.tok _,⟨_,rfl⟩,.here ok (.int _) q⟩
theorem NW {pz:List (Addr×Obj)}{s:ah}{σ:L2.St}{H:Hp}{st:aA}{R:VK}{ds:List D}{vs:List V}{d:D}{v:V}{u:af}{a:Addr}{j:Nat}(hu:X.A.units+180<cLine)(I:Inv X pz σ H s)(ok:aN X.K st H)(f:cX X.K H a vs)(g:aH X.K H ds vs)
  (rd:Rep X.K H d v)(rv:RelV v u)(pd:plainS st d)(ps:cZ st ds)(hj:findD st d ds=some j)(q:R (.int (j:Nat)) st):wpAny (model X.prog X.w) X.A (call (.builtin "tuple.index") [.ref a,u]) (EP X pz σ (QD X.K H st R)) X.xe s:=by
 obtain⟨aD,r1,p1,hz⟩:=I.tuple f
 obtain⟨e,he,ha⟩:=IE I ok g r1 ps pd rd rv (A:=X.A) (by omega)
 obtain⟨h1,h2,h3⟩:=uH hj
 have l1:=g.length
 have l2:=r1.length
 refine fk ua p1.typeIs PySem.F.entry_tuple_index (A3 p1 he (j:=j) (by simp;omega) ?_ ?_ ⟨_,rfl,?_⟩) (PySem.F.args_tuple_index_2 _ _)
 ·show e aD[j]=true
  rw[ha j (by omega) h1];exact h2
 ·intro m hm hl
  have hm:m<aD.length:=by simpa using hm
  show e aD[m]=false
  rw[ha m hm (by omega)];exact h3 m (by omega) hl
 ·exact⟨.int j,H,I.tok _,⟨_,rfl⟩,.here ok (.int _) q⟩
end
section
variable {X:Cx}{C:bC}{sub:Nat->Nat->Bool}{E:XK}{e o:Expr}{x y:Ex}{pos apos jQ:Pos}
noncomputable def Ej:D->Bool
 |.tup _=>true
 |_=>false
theorem JX {K:aa}{H:Hp}{st:aA}{d:D}{v:V}{Kk:List Nat->List D->Prop}(ok:aN K st H)(r:Rep K H d v)(h:eG d st Kk):∃ a vs as ds,v=.ref a/\aH K H ds vs/\((Ej d=false/\eJ K H a vs)∨(Ej d=true/\cX K H a vs))/\Kk as ds:=by
 unfold eG at h
 split at h
 ·obtain⟨a,vs,rfl,f,g⟩:=r.bM
  exact⟨a,vs,_,_,rfl,g,.inr ⟨rfl,f⟩,h⟩
 ·cases r.cJ
  obtain⟨ds,e,h⟩:=dZ h
  obtain⟨vs,g1,g2⟩:=ok.lst e
  exact⟨_,vs,_,_,rfl,g2,.inl ⟨rfl,eJ.of g1⟩,h⟩
 ·obtain⟨a,vs,rfl,f,g⟩:=r.kC
  exact⟨a,vs,_,_,rfl,g,.inl ⟨rfl,f.sq⟩,h⟩
 ·exact h.elim
theorem Ma (m:bO C C)(hu:X.A.units+180<cLine)(ho:JE X C sub E o x)(ha:JA X C sub E [e] [y])(jI:gh o "index" X.env (eval o X.env)=eval o X.env:=by kernel_rfl)
  (uN:((dh pos (ai [e] X.env)).all (fun x=>!x.1)&&(ou pos (kc [] X.env)).all (fun x=>x.1.isSome)&&decide ([e].length+([]:List qw).length+(if([]:List qw).isEmpty then 0 else 1)<30))=true:=by kernel_rfl)(jJ:(apos.endLine==pos.line)=true:=by kernel_rfl)
  (hs:ai [e] X.env=[(false,eval e X.env)]:=by kernel_rfl):
  JE X C sub E (.Call (.Attribute o "index" apos) [e] [] pos) (.dF .index x [y]):=⟨by
 intro pz s σ H Q I ⟨σd,st,R,r,ok,q,hq⟩
 refine u1 jI uN jJ rfl (aY (ho.h pz s σ H _ I ⟨σd,st,_,r,ok,q,fun v H' z=>z⟩) fun v s1 ⟨x1,H1,I1,r1,d1,aC,cQ,aM,rd1,q1⟩=>?_)
 obtain⟨rc,q1⟩:=q1
 obtain⟨a,vs,as,ds,rfl,g,ty,-⟩:=JX aM rd1 rc
 cases r1
 have rest:∀ id:String,(∀(s2:ah)(H2:Hp)(aF:aA)(d2:D)(v2:V)(u2:af),Inv X pz σ H2 s2->Step H1 aC H2 aF->aN X.K aF H2->Rep X.K H2 d2 v2->RelV v2 u2->jH .index d1 [d2] aF R->wpAny (model X.prog X.w) X.A (call (.builtin id) [.ref a,u2]) (EP X pz σ (QD X.K H2 aF R)) X.xe s2) ->
   wpAny (model X.prog X.w) X.A (v5 pos (.builtin id) [.ref a] (dh pos (ai [e] X.env)) []) (EP X pz σ Q) X.xe s1:=by
  intro id hc
  have hA:=ha.h pos pz s1 σ H1 _ I1 ⟨σd,aC,_,r.step ok cQ,aM,mZ [y] m q1,fun vs H' z=>z⟩
  rw[hs]at hA ⊢
  refine kz (by rfl) (qb ?_)
  refine aY hA fun us s2 ⟨ws,H2,I2,r2,es,aF,fL,bQ,rs2,l2,q2⟩=>?_
  match es,l2,ws,rs2,us,r2 with
  |[d2],_,_,.cons rd2 .nil,_,.cons rv2 .nil =>
   exact aY (hc s2 H2 aF d2 _ _ I2 fL bQ rd2 rv2 q2) fun w s3 ⟨v3,H3,I3,r3,z⟩=>⟨v3,H3,I3,r3,hq _ _ (.after (cQ.trans fL) z)⟩
 rcases ty with⟨tk,ty⟩|⟨tk,ty⟩
 ·obtain⟨aD,_,p1,_⟩:=I1.list ty
  refine⟨"list","list.index", oo,uj,PySem.F.type_list_index,p1.isList.typeIs,fun b e=>?_,rest _ fun s2 H2 aF d2 v2 u2 I2 fL bQ rd2 rv2 q2=>?_⟩
  ·cases e
   obtain⟨o,n,e,c,hd,_⟩:=p1
   exact⟨o,e,hd⟩
  ·obtain⟨a',vs2,as2,ds2,e2,g2,ty2,pd,ps,q2⟩:=JX bQ (rd1.step aM fL) q2
   cases e2
   obtain⟨j,hj,q2⟩:=fB q2
   rcases ty2 with⟨tk2,ty2⟩|⟨tk2,ty2⟩
   ·exact index_list hu I2 bQ ty2 g2 rd2 rv2 pd ps hj q2
   ·rw[tk]at tk2;cases tk2
 ·obtain⟨aD,_,p1,_⟩:=I1.tuple ty
  refine⟨"tuple","tuple.index", PySem.F.plainAttrs_tuple,ua,PySem.F.type_tuple_index,p1.typeIs,fun b e=>?_,rest _ fun s2 H2 aF d2 v2 u2 I2 fL bQ rd2 rv2 q2=>?_⟩
  ·cases e
   exact I1.Jw ty
  ·obtain⟨a',vs2,as2,ds2,e2,g2,ty2,pd,ps,q2⟩:=JX bQ (rd1.step aM fL) q2
   cases e2
   obtain⟨j,hj,q2⟩:=fB q2
   rcases ty2 with⟨tk2,ty2⟩|⟨tk2,ty2⟩
   ·rw[tk]at tk2;cases tk2
   ·exact NW hu I2 bQ ty2 g2 rd2 rv2 pd ps hj q2⟩
end
noncomputable def qM (val:Nat->Str):Nat->Nat
 |0=>0
 |i+1=>if((bb i).map val).any (·== val i)then qM val i else qM val i+1
theorem OD (val:Nat->Str):∀ i,qM val i<=i
 |0=>av _
 |i+1=>by
  have:=OD val i
  unfold qM
  split<;>omega
section
variable {prog:br}{w:dg}{A:cp}{R:Sd->ah->Prop}{I:Addr}{fp wr:List Addr}{G:Array Qu->Array Qu->Prop}{n:Nat}{P:Nat->af->Prop}{St:Nat->ah->Prop}
abbrev pG (prog:br)(w:dg)(val:Nat->Str)(S:Addr)(i:Nat)(h:Heap):Prop:=h.SetOf (strKind prog w) S (fun k=>((bb i).map val).any (·== k)) (qM val i)
theorem KN {val:Nat->Str}{S:Addr}{i:Nat}{h:Heap}(x:h.SetOf (strKind prog w) S (fun k'=>((bb i).map val).any (·== k')||decide (k'=val i)) (if((bb i).map val).any (·== val i)then qM val i else qM val i+1)):pG prog w val S (i+1) h:=by
 refine SetOf_congr x (fun k=>?_) rfl
 rw[qk,b9,List.any_append]
 congr 1
 simp only[aq,mi,iq,List.any_nil,xq]
 by_cases e:k=val i
 ·subst e;simp
 ·rw[decide_eq_false e];symm;exact beq_eq_false_iff_ne.mpr fun z=>e z.symm
theorem S9 (W:WalksS prog w A.in1 I fp wr G n P St)(S:Addr)(hSf:S∉fp)(val:Nat->Str)(hval:∀ i v,P i v->∃ t,v=.str (val i) t)(hb:n+1<uq):
 ∀(k i:Nat)(s:ah),n-i=k->i<=n->St i s->pG prog w val S i s.heap->(∀ s',Moved (S::wr) G s s'->pG prog w val S n s'.heap->R (.ok (.ret .none)) s') ->
  ku (model prog w) A (.builtin "set.update.loop" ⟨[.ref S,.ref I],[]⟩) R s:=by
 have hSw:S∉wr:=fun h=>hSf (W.sub _ h)
 have hsub:∀ b∈wr,b∈S::wr:=fun b hb=>cg _ hb
 have keep:∀{i:Nat}{s s':ah},pG prog w val S i s.heap->Moved wr G s s'->pG prog w val S i s'.heap:=fun⟨o,es,ep,t,ho,rest⟩ hm=>⟨o,es,ep,t,hm.heap S _ hSw ho,rest⟩
 intro k
 induction k with
 |zero =>
 intro i s hk hi eV hS hR
 obtain rfl:i=n:=by omega
 refine qj nh ?_
 rw[qe jk _]
 show wpAny _ A.in1 (rg (.ref I) >>= _) _ _ s
 refine ae (W.done s _ _ eV fun s' hm=>?_)
 show wpAny _ A.in1 (ret g6) _ _ s'
 exact ak (hR s' (hm.mono hsub) (keep hS hm))
 |succ k ih =>
 intro i s hk hi eV hS hR
 have eB:i<n:=by omega
 refine qj nh ?_
 rw[qe jk _]
 show wpAny _ A.in1 (rg (.ref I) >>= _) _ _ s
 refine ae (W.item i s _ _ eB eV fun v s' hP hst' hm=>?_)
 obtain⟨t,rfl⟩:=hval i v hP
 show wpAny _ A.in1 (kg [zi (val i) t] (setAdd S (.str (val i) t)) >>= _) _ _ s'
 refine ae (gq ?_)
 unfold setAdd
 refine gq (ae ((strKind prog w).pyHash (k:=val i) (strKind_is _ _ _ _) ?_))
 refine wpAny_setAddHashed_of (knd:=strKind prog w) (s:={ s' with toks:=s'.toks+1 }) (strKind_is _ _ _ _) rfl (show pG prog w val S i s'.heap from keep hS hm) (by have:=OD val i;omega) fun h' hsb hS2=>?_
 refine ak ⟨plainId_quiet jk _,ih (i+1) _ (by omega) eB (W.frame _ s' _ _ hst' (z9 _) fun b hb o e=>?_) (KN hS2) fun s'' hm'' hS''=>?_⟩
 ·rw[hsb.2 b (fun h:b=S=>hSf (by rw[<-h];exact hb))];exact e
 ·refine hR s'' (Moved.trans W.gtrans ((hm.mono hsub).then_heap (z9 _) fun b o hb e=>?_) hm'') hS''
  rw[hsb.2 b (fun h:b=S=>hb (by rw[h];exact de))];exact e
end
section
variable {prog:br}{w:dg}{A:cp}{E:af->ah->Prop}{s:ah}
noncomputable abbrev gR (led:Bool):Obj:={ cls:=.type "set", dict:=none,data:=.set #[] 0 (.fresh 0 0 led) }
theorem DM {l:Addr}{items:Array af}{val:Nat->Str}{led:Bool}{Q:PySem.Fin->ah->Prop}(hh:A.handled=none)(hl:s.heap.IsTuple l items)(hv:∀(i:Nat)(v:af),items[i]? = some v->∃ t,v=.str (val i) t)(hb:items.size+1<uq)
  (h:∀(h':Heap)(tk:Nat),pG prog w val s.heap.objs.size items.size h'->(∀ b o,s.heap.get? b=some o->h'.get? b=some o)->Q (.done (.ret .none)) { s with heap:=h',toks:=tk }):
  wpAny (model prog w) A (Builtin.«set.__init__» ⟨[.ref s.heap.objs.size,.ref l],[]⟩) Q E { s with heap:=s.heap.push (gR led) }:=by
 obtain⟨ol,hol,hcl,nl,hdl⟩:=hl
 obtain⟨ocls,odict,odata,oslots⟩:=ol
 simp only at hcl hdl
 subst hcl;subst hdl
 have hS:(s.heap.push (gR led)).get? s.heap.objs.size=some (gR led):=aw _ rfl
 have hT:Rr { s with heap:=s.heap.push (gR led) } (.ref s.heap.objs.size) "set":=⟨_,hS,rfl⟩
 have hol':(s.heap.push (gR led)).get? l=some { cls:=.type "tuple", dict:=odict,data:=.seq items nl,slots:=oslots }:=ag _ hol
 have hsls:=PySem.F.sub_tuple_set
 have hslf:=PySem.F.sub_tuple_frozenset
 have hne:(gb "tuple" == gb "dict")=false:=by decide
 have hl1:(s.heap.push (gR led)).IsTuple l items:=⟨_,hol',rfl,nl,rfl⟩
 unfold Builtin.«set.__init__» noKeywords Builtin.Frozenset.updateFrom
 generalize hPI:vz=PI
 wp_walk
 subst hPI
 refine lh hl1 ?_
 refine ae (wpAny_runValue ?_)
 have hlS:l<s.heap.objs.size:=bc hol
 have hh3:A.in1.handled=none:=by simp [hh]
 have iD:(s.heap.push (gR led)).objs.size=s.heap.objs.size+1:=ff ..
 have hneI:l≠(s.heap.push (gR led)).objs.size:=by rw[iD];exact bz (kd hlS)
 have hSf:s.heap.objs.size∉[(s.heap.push (gR led)).objs.size,l]:=by
  simp only[cu,cb,or_false,not_or]
  exact⟨by rw[iD];exact bz (gm _),mh hlS⟩
 refine S9 ((Sz hh3 _ l hneI items).toS) s.heap.objs.size hSf val hv hb (items.size-0) 0 _ (by omega) (cx _) ⟨?hT1,?hT0⟩ ?hS0 ?hR
 case hT1=>exact⟨_,aw _ rfl,rfl,rfl⟩
 case hT0=>exact⟨_,ag _ hol',rfl,nl,rfl⟩
 case hS0=>exact SetOf_congr ((setObjOf_fresh (knd:=strKind prog w) led).setOf (ag _ hS) (by unfold uq;omega)) (fun _=>rfl) rfl
 case hR =>
  intro s' hm hS'
  obtain⟨h',g',d',tk',os'⟩:=s'
  have eg:g'=s.gens:=hm.gens
  have ed:d'=s.drawn:=hm.drawn
  have eo:os'=s.os:=hm.os
  subst eg;subst ed;subst eo
  show wpAny _ _ _ _ _ _
  refine ak ?_
  show wpAny _ _ (ret g6) _ _ _
  refine ak (h h' tk' hS' fun b o e=>?_)
  have hb1:b<s.heap.objs.size:=bc e
  exact hm.heap b o (by simp only[cu,cb,or_false,not_or];exact⟨Nat.ne_of_lt hb1,by rw[iD];exact bz (kd hb1)⟩) (ag _ (ag _ e))
set_option maxHeartbeats 6400000 in
theorem JL {l:Addr}{items:Array af}{val:Nat->Str}{Q:af->ah->Prop}(hh:A.handled=none)(hl:s.heap.IsTuple l items)(hv:∀(i:Nat)(v:af),items[i]? = some v->∃ t,v=.str (val i) t)(hb:items.size+1<uq)
 (h:∀(h':Heap)(tk:Nat),pG prog w val s.heap.objs.size items.size h'->(∀ b o,s.heap.get? b=some o->h'.get? b=some o)->Q (.ref s.heap.objs.size) { s with heap:=h',toks:=tk }):
 wpAny (model prog w) A (call (.type "set") [.ref l]) Q E s:=by
 obtain⟨c,tl,hmro⟩:=PySem.F.called_set.mro
 have hmade:=PySem.F.called_set.made
 have hsub:=PySem.F.called_set.sub
 refine uu (Qm ?_)
 show wpAny _ _ (callAny (.type "set") _) _ _ _
 refine ak ⟨Code.quiet_builtin _ (by decide +kernel),qj PySem.F.entry_type_call ?_⟩
 rw[Around.under_plain (weight_type_call_type "set" [.ref l] []) rfl]
 have h1:=PySem.F.called_set.notType
 have h2:=PySem.F.called_set.canCreate
 have hct:=PySem.F.typeCall_set_1 (.ref l)
 repeat (any_goals (first|assumption|wp_step))
 refine kx (code_set_new_1 (.ref l) (E:=E) (Q₁:=fun obj s₁=>∃ led:Bool,obj=.ref s.heap.objs.size/\s₁ = { s with heap:=s.heap.push (gR led) }) fun led=>⟨led,rfl,rfl⟩) fun r s₁ hr=>?_
 cases r with
 |error e=>exact hr
 |ok fl =>
 cases fl with
 |ret obj =>
  obtain⟨led,rfl,rfl⟩:=hr
  have hT:Rr { s with heap:=s.heap.push (gR led) } (.ref s.heap.objs.size) "set":=⟨_,aw _ rfl,rfl⟩
  have hli:=PySem.F.called_set.init.lookup
  have hbi:=PySem.F.called_set.init.bind (.ref s.heap.objs.size)
  repeat (any_goals (first|assumption|wp_step))
  refine kx (codeAny_call_builtin (R:=wants (fun r s₂=>r=.none/\∃ h' tk,s₂ = { s with heap:=h',toks:=tk }/\pG prog w val s.heap.objs.size items.size h'/\(∀ b o,s.heap.get? b=some o->h'.get? b=some o)) E) PySem.F.called_set.init.plain PySem.F.entry_set_init (check_set_init_1 hT ?_)) fun r₂ s₂ hr₂=>?_
  ·exact DM (by simp [hh]) hl hv hb fun h' tk hS hk=>⟨rfl,h',tk,rfl,hS,hk⟩
  ·cases r₂ with
  |error e=>exact hr₂
  |ok fl₂ =>
   cases fl₂ with
   |ret r =>
   obtain⟨rfl,h',tk,rfl,hS',hk'⟩:=hr₂
   repeat (any_goals (first|assumption|wp_step))
   exact h _ _ hS' hk'
   |_=>exact hr₂.elim
 |_=>exact hr.elim
end
noncomputable abbrev mO (ws:List (List Nat))(i:Nat):Str:=⟨(ws.getD i []).toArray⟩
theorem Ts (a b:List Nat):((⟨a.toArray⟩:Str)==⟨b.toArray⟩)=(a==b):=by
 by_cases h:a=b
 ·subst h;simp
 ·rw[beq_eq_false_iff_ne.mpr h]
  refine beq_eq_false_iff_ne.mpr fun e=>h ?_
  have e1:a.toArray=b.toArray:=congrArg Str.cps e
  simpa using e1
theorem Q4 (ws:List (List Nat)):∀(rest seen:List (List Nat)),ws=seen++rest->qM (mO ws) seen.length+xD seen rest=qM (mO ws) ws.length
 |[],seen,h=>by simp [h,xD]
 |w::r,seen,h=>by
  have ih:=Q4 ws r (seen++[w]) (by simp [h])
  rw[<-ih]
  have e1:mO ws seen.length=⟨w.toArray⟩:=by simp [mO,h]
  have e2:((bb seen.length).map (mO ws)).any (·== mO ws seen.length)=seen.any (·== w):=by
   have e3:(bb seen.length).map (mO ws)=seen.map fun x=>(⟨x.toArray⟩:Str):=by
    refine List.ext_getElem (by simp) fun i h1 h2=>?_
    have hi:i<seen.length:=by simpa using h1
    simp [mO,h,c9 hi,aj hi]
   rw[e3,e1,oz]
   congr 1
   funext x
   exact Ts x w
  simp only[bg,a9,bh,xD]
  have e5:qM (mO ws) (seen.length+1)=if seen.any (·== w)=true then qM (mO ws) seen.length else qM (mO ws) seen.length+1:=by rw[<-e2];rfl
  show _=qM (mO ws) (seen.length+1)+_
  rw[e5]
  by_cases c:seen.any (·== w)=true
  ·rw[if_pos c,if_pos c];omega
  ·rw[if_neg c,if_neg c];omega
theorem E7 {K:aa}{H:Hp}:∀{ds:List D}{ws:List (List Nat)}{vs:List V}{us:List af},strsOf ds=some ws->aH K H ds vs->aO vs us->us.length=ws.length/\∀(i:Nat)(v:af),us[i]? = some v->∃ t,v=.str (mO ws i) t
 |[],ws,_,_,h,.nil,.nil=>by cases h;exact⟨rfl,fun i v e=>by simp at e⟩
 |.str w::r,ws,_,_,h,.cons rd rs,.cons rv rvs=>by
  have h:(strsOf r).map (w :: ·)=some ws:=h
  obtain⟨ws',e,rfl⟩:=Option.map_eq_some_iff.mp h
  obtain⟨l,ih⟩:=E7 e rs rvs
  refine⟨by simpa using l,fun i v e=>?_⟩
  cases i with
  |zero =>
   cases rd.str_inv
   obtain⟨t,rfl⟩:=rv
   simp at e
   exact⟨t,e.symm⟩
  |succ i=>exact ih i v (by simpa using e)
 |.non::_,_,_,_,h,_,_=>by cases h
 |.bl _::_,_,_,_,h,_,_=>by cases h
 |.int _::_,_,_,_,h,_,_=>by cases h
 |.tup _::_,_,_,_,h,_,_=>by cases h
 |.ref _::_,_,_,_,h,_,_=>by cases h
 |.cY _ _::_,_,_,_,h,_,_=>by cases h
 |.bL _::_,_,_,_,h,_,_=>by cases h
 |.exc _::_,_,_,_,h,_,_=>by cases h
theorem Pm {a b:D}{r:List D}{st:aA}{Q:VK}(h:gX .tG (a::b::r) st Q):False:=by
 unfold gX at h
 split at h<;>simp_all
section
variable {X:Cx}{C:bC}{sub:Nat->Nat->Bool}{E:XK}{a:Expr}{x:Ex}{p p2 pos pos2:Pos}
theorem Pj (hm:X.mg "len" = none)(hm2:X.mg "set" = none)(ha:JA X C sub E [a] [x])(hc:X.calm=true:=by kernel_rfl)(hg:X.env.kindOf "len" = some .globalImplicit:=by kernel_rfl)(hg2:X.env.kindOf "set" = some .globalImplicit:=by kernel_rfl)
  (he:ai [.Call (.Name "set" p2) [a] [] pos2] X.env=(false,eval (.Call (.Name "set" p2) [a] [] pos2) X.env)::ai [] X.env:=by kernel_rfl)(dC:(dh pos (ai [] X.env)).any (·.1)=false:=by kernel_rfl)
  (he2:ai [a] X.env=(false,eval a X.env)::ai [] X.env:=by kernel_rfl)(hpl2:(dh pos2 (ai [] X.env)).any (·.1)=false:=by kernel_rfl):
  JE X C sub E (.Call (.Name "len" p) [.Call (.Name "set" p2) [a] [] pos2] [] pos) (.bi .tG [x]):=⟨by
 intro pz s σ H Q I ⟨σd,st,R,r,ok,q,hq⟩
 refine dt (jV I hg hm bW ?_ (by decide) (by decide))
 rw[he]
 refine kz (by show(false||(dh pos (ai [] X.env)).any (·.1))=false;rw[dC];rfl) (qb ?_)
 show wpAny _ _ (w5 ((false,eval (.Call (.Name "set" p2) [a] [] pos2) X.env)::dh pos (ai [] X.env))) _ _ s
 refine jx ?_
 refine dt (jV I hg2 hm2 Ab ?_ (by decide) (by decide))
 refine dq (aY (ha.h pos2 pz s σ H _ I ⟨σd,st,_,r,ok,q,fun vs H' z=>z⟩) fun us s1 ⟨vs,H1,I1,rv,ds,aC,cQ,aM,rs,q1⟩=>?_) he2 hpl2
 match ds,rs,q1 with
 |[d],rs,q1 =>
  obtain⟨v,rfl,rd⟩:=rs.one
  obtain⟨u,rfl,ru⟩:=vals1 rv
  cases d with
  |tup es =>
   rw[EG]at q1
   obtain⟨ws,e1,hl,q1⟩:=fB q1
   obtain⟨l,vs,rfl,f,g⟩:=rd.bM
   cases ru
   obtain⟨aD,r1,pl,hz⟩:=I1.tuple f
   obtain⟨hlen,hat⟩:=E7 e1 g r1
   have hh:X.A.handled=none:=I1.ok.hd hc
   refine JL (val:=mO ws) hh (show s1.heap.IsTuple l aD.toArray from pl) (fun i v e=>hat i v (by simpa using e)) (by simp;unfold uq;omega) fun h' tk hS hk=>?_
   refine l0 ?_
   have I2:Inv X pz σ H1 { s1 with heap:=h',toks:=tk }:=I1.kept hk
   obtain⟨o,es',ep,t,ho,hex,hd,hel,hmem,hb,hf,hn⟩:=hS
   refine call_len_set (s:={ s1 with heap:=h',toks:=tk }) ho hex hd hf (by unfold uq at hb;omega) ?_
   have hn2:es'.size=xD [] ws:=by
    rw[hn]
    have:=Q4 ws ws [] rfl
    simp only[bh,qM,qx]at this
    rw[this]
    simp [hlen]
   rw[hn2]
   exact⟨.int (xD [] ws:Nat),H1,I2.tok _,⟨_,rfl⟩,hq _ _ (.after cQ (.here aM (.int _) q1))⟩
  |ref b =>
   obtain⟨_,_,z⟩:=dZ (show cD aC b fun xs=>dN .tG xs aC R from q1)
   exact(show False from z).elim
  |_=>exact(show False from q1).elim
 |[],rs,q1=>exact(show False from q1).elim
 |_::_::_,rs,q1=>exact(Pm q1).elim⟩
end
end L3
end
section
namespace L3
open PySem PySem.Spec PyProof.Rows L2
theorem mE.sZ {X:Cx}{C:bC}{n:Str}{i:Nat}{scope:Scope}{own cn:List Str}{fp:List Addr}{s:ah}{H:Hp}{Ca:Addr}(h:mE X C n i):mE (lV X scope own cn fp s H Ca) C n i:=let⟨a,b⟩:=h;⟨a,b⟩
section
variable {K:aa}{H:Hp}
theorem str_inj {a b:List Nat}(h:(⟨a.toArray⟩:Str)=⟨b.toArray⟩):a=b:=by
 have:a.toArray=b.toArray:=congrArg Str.cps h
 simpa using this
theorem iB.get {f:List Nat}{d:D}:∀{fs:List (List Nat×D)}{ws:List (Str×V)},iB K H fs ws->iS fs f=some d->∃ v,ws.lookup (⟨f.toArray⟩:Str)=some v/\Rep K H d v
 |[],_,_,h=>by cases h
 |(g,e)::fs,[],r,_=>by cases r.1
 |(g,e)::fs,(g',v)::ws,r,h=>by
  obtain⟨r1,r2⟩:=r
  simp only[aq,lu]at r1
  cases r2 with
  |cons rd rs =>
   simp only[iS]at h
   by_cases q:g=f
   ·rw[if_pos q]at h;cases h
    refine⟨v,?_,rd⟩
    simp [gy,r1.1,q]
   ·rw[if_neg q]at h
    obtain⟨v',e1,e2⟩:=iB.get (fs:=fs) (ws:=ws) ⟨r1.2,rs⟩ h
    refine⟨v',?_,e2⟩
    have:((⟨f.toArray⟩:Str)==g')=false:=beq_eq_false_iff_ne.mpr fun z=>q (str_inj (by rw[z];exact r1.1.symm))
    simp only[gy,this]
    exact e1
theorem iB.no {f:List Nat}:∀{fs:List (List Nat×D)}{ws:List (Str×V)},iB K H fs ws->iS fs f=none->ws.lookup (⟨f.toArray⟩:Str)=none
 |[],[],_,_=>rfl
 |[],_::_,r,_=>by cases r.1
 |(g,e)::fs,[],r,_=>by cases r.1
 |(g,e)::fs,(g',v)::ws,r,h=>by
  obtain⟨r1,r2⟩:=r
  simp only[aq,lu]at r1
  cases r2 with
  |cons rd rs =>
   simp only[iS]at h
   by_cases q:g=f
   ·rw[if_pos q]at h;cases h
   ·rw[if_neg q]at h
    have:((⟨f.toArray⟩:Str)==g')=false:=beq_eq_false_iff_ne.mpr fun z=>q (str_inj (by rw[z];exact r1.1.symm))
    simp only[gy,this]
    exact iB.no (fs:=fs) (ws:=ws) ⟨r1.2,rs⟩ h
theorem iB.put {f:List Nat}{d:D}{v:V}(rd:Rep K H d v):∀{fs:List (List Nat×D)}{ws:List (Str×V)},iB K H fs ws->iB K H (rH f d fs) (iE ⟨f.toArray⟩ v ws)
 |[],[],_=>⟨rfl,.cons rd .nil⟩
 |[],_::_,r=>by cases r.1
 |(g,e)::fs,[],r=>by cases r.1
 |(g,e)::fs,(g',v')::ws,r=>by
  obtain⟨r1,r2⟩:=r
  simp only[aq,lu]at r1
  cases r2 with
  |cons rd' rs =>
   by_cases q:g=f
   ·have q':g'=(⟨f.toArray⟩:Str):=by rw[r1.1,q]
    simp only[rH,iE,if_pos q,if_pos q']
    exact⟨by simp [r1.1,r1.2],.cons rd rs⟩
   ·have q':¬g'=(⟨f.toArray⟩:Str):=fun z=>q (str_inj (r1.1.symm.trans z))
    simp only[rH,iE,if_neg q,if_neg q']
    have ih:=iB.put (f:=f) rd (fs:=fs) (ws:=ws) ⟨r1.2,rs⟩
    exact⟨by simp [r1.1,ih.1],.cons rd' ih.2⟩
theorem iB.length {fs:List (List Nat×D)}{ws:List (Str×V)}(r:iB K H fs ws):ws.length=fs.length:=by
 have:=congrArg v7 r.1
 simpa using this
end
theorem xE {st:aA}{a:Nat}{P:List Nat->List (List Nat×D)->Prop}(h:mP st a P):∃ c fs,st a=some (.ins c fs)/\P c fs:=by
 unfold mP at h
 split at h
 ·exact⟨_,_,by assumption,h⟩
 ·exact h.elim
theorem wQ {st:aA}{a:Nat}{P:List D->List D->Prop}(h:tabAt st a P):∃ c fs,st a=some (.tab c fs)/\P c fs:=by
 unfold tabAt at h
 split at h
 ·exact⟨_,_,by assumption,h⟩
 ·exact h.elim
theorem SN {c f:List Nat}{x:D}{st:aA}{Q:VK}(h:tI c f x st Q):∃ a fs d,x=.ref a/\st a=some (.ins c fs)/\iS fs f=some d/\Q d st:=by
 unfold tI at h
 split at h
 ·obtain⟨c',fs,e,rfl,q⟩:=xE h
  obtain⟨d,e1,q⟩:=fB q
  exact⟨_,fs,d,rfl,e,e1,q⟩
 ·exact h.elim
theorem YD {c f:List Nat}{v x:D}{st:aA}{Q:aA->Prop}(h:CH c f v x st Q):∃ a fs,x=.ref a/\st a=some (.ins c fs)/\fs.length<900/\Q (put st a (.ins c (rH f v fs))):=by
 unfold CH at h
 split at h
 ·obtain⟨c',fs,e,rfl,l,q⟩:=xE h
  exact⟨_,fs,rfl,e,l,q⟩
 ·exact h.elim
theorem T1 {c m:List Nat}{x:D}{st:aA}(h:DF c m x st):∃ a fs,x=.ref a/\st a=some (.ins c fs)/\iS fs m=none:=by
 unfold DF at h
 split at h
 ·obtain⟨c',fs,e,rfl,q⟩:=xE h
  exact⟨_,fs,rfl,e,q⟩
 ·exact h.elim
structure yJ (K:aa)(c:List Nat):Prop where
 h:∃ C,clsAt K c C/\sW K C
structure IY (K:aa)(c f:List Nat):Prop where
 h:∀ C,clsAt K c C->pZ K C ⟨f.toArray⟩
structure nX (X:Cx)(C:bC)(c:List Nat)(n:Str)(fid:Nat):Prop where
 h:∃ k f fd ps C0,fJ X.prog X.w X.K X.mg X.base dB k f fd ps (fO X.K C fid)/\cR k X.A/\Binds X.K fd ps []/\clsAt X.K c C0/\sW X.K C0/\DK X.K C0 n f
structure wM (X:Cx)(C:bC)(c:List Nat)(n:Str)(fid:Nat):Prop where
 h:∃ k f fd ps C0,fJ X.prog X.w X.K X.mg X.base dB k f fd ps (fO X.K C fid)/\cR (k+1) X.A/\Binds X.K fd ps []/\clsAt X.K c C0/\X.mg n=some (.ref C0)/\Mk X.K C0 f
theorem nX.sZ {X:Cx}{C:bC}{c:List Nat}{n:Str}{i:Nat}{scope:Scope}{own cn:List Str}{fp:List Addr}{s:ah}{H:Hp}{Ca:Addr}(h:nX X C c n i):nX (lV X scope own cn fp s H Ca) C c n i:=let⟨a,b⟩:=h;⟨a,b⟩
section
variable {X:Cx}{C:bC}{sub:Nat->Nat->Bool}{E:XK}{a b e o value:Expr}{es:List Expr}{x y:Ex}{xs:List Ex}{p pos apos pos':Pos}{n:Str}{c f:List Nat}{fid:Nat}
theorem Jo (hn:n=⟨f.toArray⟩)(hc:yJ X.K c)(hna:IY X.K c f)(ho:PE X o (bR X.K (aE C sub E x)))(hb:gh o n X.env (eval o X.env)=eval o X.env):PE X (.Attribute o n pos) (bR X.K (aE C sub E (.fld c f x))) :=
 (Ci ho hb).imp fun σ H Q ⟨σd,st,R,r,ok,q,hq⟩=>by
 refine⟨σd,st,_,r,ok,q,fun v H1 ⟨d,aC,s1,aM,r1,q1⟩=>?_⟩
 obtain⟨a,fs,d',rfl,e,ed,q1⟩:=SN q1
 cases r1.cJ
 obtain⟨C0,dx,ws,h1,h2,h3⟩:=aM a _ e
 obtain⟨v,l,rv⟩:=iB.get h3 ed
 obtain⟨C',c1,c2⟩:=hc.h
 have eC:=c1.inj h1
 subst eC
 exact⟨a,C',dx,ws,v,rfl,h2,c2,by rw[hn];exact hna.h C' c1,by rw[hn];exact l,hq _ _ (.after s1 (.here aM rv q1))⟩
theorem Gs (hC:bO C C)(hn:n=⟨f.toArray⟩)(hc:yJ X.K c)(hna:IY X.K c f)(ho:PE X o (bR X.K (aE C sub EF y)))(hv:PE X value (bR X.K (aE C sub EF x)))(hs:mf value (some (.Attribute o n pos')) pos.line X.env=pure false):
 PS X (.Assign [.Attribute o n pos'] value pos) (iH X.K (wpS C sub (.asg (.fl c f y) x))) :=
 (Ag ho hv hs).imp fun D σ H ⟨σd,st,P,r,ok,q,h⟩=>by
 refine⟨σd,st,_,r,ok,qD hC h.ex q,fun v H1 ⟨d,aC,s1,aM,rd,q1⟩=>?_⟩
 refine⟨σd,aC,_,r.step ok s1,aM,qD hC h.ex q1,fun u H2 ⟨d2,aF,s2,bQ,r2,q2⟩=>?_⟩
 obtain⟨a,fs,rfl,e,l,q2⟩:=YD q2
 cases r2.cJ
 obtain⟨C0,dx,ws,h1,h2,h3⟩:=bQ a _ e
 obtain⟨C',c1,c2⟩:=hc.h
 have eC:=c1.inj h1
 subst eC
 have s3:Step H2 aF (upd H2 a (.ins C' dx (iE n v ws))) (put aF a (.ins c (rH f d fs))):=kB e
 have rd2:=(rd.step aM s2).step bQ s3
 have h3':iB X.K (upd H2 a (.ins C' dx (iE n v ws))) fs ws:=⟨h3.1,h3.2.step bQ s3⟩
 refine⟨a,C',dx,ws,rfl,h2,c2,by rw[hn];exact hna.h C' c1,by rw[h3.length];omega,h.nx _ _ _ _ (((r.step ok s1).step aM s2).step bQ s3) ((s1.trans s2).trans s3) (bQ.DQ e ?_) q2⟩
 exact⟨C',dx,_,c1,cS,by rw[hn]at *;exact iB.put rd2 h3'⟩
theorem Iv {k:Nat}{fa:Addr}{fd:gw}{ps:List Str}{C0:Addr}{pl:Sem Bool}{m:List Nat}(hn:n=⟨m.toArray⟩)(hcl:clsAt X.K c C0)(hC0:sW X.K C0)(hm:DK X.K C0 n fa)(F:fJ X.prog X.w X.K X.mg X.base dB k fa fd ps (fO X.K C fid))(hr:cR k X.A)(hb:Binds X.K fd ps [])
 (ho:PE X o (bR X.K (aE C sub EF x)))(ha:PA X (e::es) (jB X.K (bG C sub EF xs)))
 (eV:ai (e::es) X.env=(false,eval e X.env)::ai es X.env)(dC:(dh pos (ai es X.env)).any (·.1)=false)
 (ht:eval (.Call (.Attribute o n apos) (e::es) [] pos) X.env=(do
  let ov <-eval o X.env
  oq apos.atName
  let(f,first) <-kg [ov] (uc ov n pl)
  v5 pos f first (dh pos (ai (e::es) X.env)) (ou pos (kc [] X.env)))):
 PE X (.Call (.Attribute o n apos) (e::es) [] pos) (bR X.K (aE C sub EF (.mcl c m fid x xs))) :=
 (WL (pl:=pl) ho hC0 hm F hr hb .nil FV ha eV dC ht).imp fun σ H Q ⟨σd,st,R,r,ok,q,hq⟩=>by
 refine⟨σd,st,_,r,ok,q,fun v H1 ⟨d,aC,s1,aM,r1,q1,q2⟩=>?_⟩
 obtain⟨a,fs,rfl,e0,l⟩:=T1 q1
 cases r1.cJ
 obtain⟨C1,dx,ws,h1,h2,h3⟩:=aM a _ e0
 cases hcl.inj h1
 refine⟨a,dx,ws,rfl,h2,by rw[hn];exact iB.no h3 l,?_⟩
 refine⟨σd,aC,_,r.step ok s1,aM,q2,fun vs H2 ⟨ds,aF,s2,bQ,r2,q3⟩=>?_⟩
 show fO X.K C fid (.ref a::(vs++[])) H2 Q E0
 rw[fh]
 exact⟨.ref a::ds,aF,R,.cons (.ref a) r2,bQ,q3,fun v H' z=>hq _ _ (.after (s1.trans s2) z)⟩
theorem Ln {k:Nat}{fa:Addr}{fd:gw}{ps:List Str}{C0:Addr}(hcl:clsAt X.K c C0)(hM:Mk X.K C0 fa)(F:fJ X.prog X.w X.K X.mg X.base dB k fa fd ps (fO X.K C fid))(hr:cR (k+1) X.A)(hg:Gl X n)(hmg:X.mg n=some (.ref C0))(hb:Binds X.K fd ps [])
 (ha:PA X (e::es) (jB X.K (bG C sub EF xs)))(hdb:(n==("__debug__" : Str))=false)(he:ai (e::es) X.env=(false,eval e X.env)::ai es X.env)(dC:(dh pos (ai es X.env)).any (·.1)=false):
 PE X (.Call (.Name n p) (e::es) [] pos) (bR X.K (aE C sub EF (.mk c fid xs))) :=
 (X1 hM F hr hg hmg hb .nil FV ha hdb he dC).imp fun σ H Q ⟨σd,st,R,r,ok,q,hq⟩=>by
 refine⟨σd,st,_,r,ok,q,fun vs H1 ⟨ds,aC,s1,aM,r1,q1⟩=>?_⟩
 intro x dx hx hdx hne
 show fO X.K C fid (.ref x::(vs++[])) _ _ E0
 rw[fh]
 have bQ:aN X.K aC (upd H1 dx (.own x)):=aM.new hdx
 have s2:Step H1 aC (upd H1 dx (.own x)) aC:=kZ hdx
 have hx2:upd H1 dx (.own x) x=none:=by rw[bA (jn hne)];exact hx
 have s3:Step (upd H1 dx (.own x)) aC (upd (upd H1 dx (.own x)) x (.ins C0 dx [])) (put aC x (.ins c [])):=oB hx2
 have vA:aN X.K (put aC x (.ins c [])) (upd (upd H1 dx (.own x)) x (.ins C0 dx [])):=bQ.Fj hx2 ⟨C0,dx,[],hcl,cS,rfl,.nil⟩
 refine⟨.ref x::ds,put aC x (.ins c []),_,.cons (.ref x) ((r1.step aM s2).step bQ s3),vA,q1 x (aM.fresh hx),fun v H' ⟨d,aB,s',gC,rd,ed,q'⟩=>?_⟩
 subst ed
 exact⟨rd.fS,hq _ _ (.after ((s1.trans s2).trans (s3.trans s')) (.here gC (.ref x) q'))⟩
theorem GI (c:List Nat)(hc:yJ X.K c)(hna:IY X.K c f)(ho:JE X C sub E o x)(hn:n=⟨f.toArray⟩:=by kernel_rfl)(hb:gh o n X.env (eval o X.env)=eval o X.env:=by kernel_rfl):JE X C sub E (.Attribute o n pos) (.fld c f x):=⟨Jo hn hc hna ho.h hb⟩
theorem Kv (m:bO C C)(c:List Nat)(hc:yJ X.K c)(hna:IY X.K c f)(ho:JE X C sub EF o y)(hv:JE X C sub EF value x)(hn:n=⟨f.toArray⟩:=by kernel_rfl)(hs:mf value (some (.Attribute o n pos')) pos.line X.env=pure false:=by kernel_rfl):
 JS X C sub (.Assign [.Attribute o n pos'] value pos) (.asg (.fl c f y) x):=⟨Gs m hn hc hna ho.h hv.h hs⟩
theorem Pu {pl:Sem Bool}{mm:List Nat}(h:nX X C c n fid)(ho:JE X C sub EF o x)(ha:JA X C sub EF (e::es) xs)(hn:n=⟨mm.toArray⟩:=by kernel_rfl)
 (eV:ai (e::es) X.env=(false,eval e X.env)::ai es X.env:=by kernel_rfl)(dC:(dh pos (ai es X.env)).any (·.1)=false:=by kernel_rfl)
 (ht:eval (.Call (.Attribute o n apos) (e::es) [] pos) X.env=(do
  let ov <-eval o X.env
  oq apos.atName
  let(f,first) <-kg [ov] (uc ov n pl)
  v5 pos f first (dh pos (ai (e::es) X.env)) (ou pos (kc [] X.env))):=by rfl):
 JE X C sub EF (.Call (.Attribute o n apos) (e::es) [] pos) (.mcl c mm fid x xs):=⟨let⟨k,f,fd,ps,C0,h1,h2,h3,h4,h5,h6⟩:=h.h;Iv hn h4 h5 h6 h1 h2 h3 ho.h ha.h eV dC ht⟩
theorem Pg (h:wM X C c n fid)(ha:JA X C sub EF (e::es) xs)(hg:X.env.kindOf n=some .globalImplicit:=by kernel_rfl)(hdb:(n==("__debug__" : Str))=false:=by kernel_rfl)(he:ai (e::es) X.env=(false,eval e X.env)::ai es X.env:=by kernel_rfl)(dC:(dh pos (ai es X.env)).any (·.1)=false:=by kernel_rfl):
 JE X C sub EF (.Call (.Name n p) (e::es) [] pos) (.mk c fid xs):=⟨let⟨k,f,fd,ps,C0,h1,h2,h3,h4,h5,h6⟩:=h.h;Ln h4 h6 h1 h2 hg h5 h3 ha.h hdb he dC⟩
end
section
variable {X:Cx}{pz:List (Addr×Obj)}{σ:L2.St}{H:Hp}{s:ah}{st:aA}
theorem K1 {K:aa}{P:br}{w:dg}:∀{is:List Int}{vs:List V}{us:List af},aH K H (is.map .int) vs->aO vs us->ItemsAre (gr P w) is us
 |[],_,_,r,rv=>by cases r;cases rv;exact .nil
 |i::is,_,_,r,rv=>by
  cases r with
  |cons r1 r2 =>
   cases rv with
   |cons v1 v2 =>
    cases r1
    obtain⟨t,rfl⟩:=v1
    exact .cons (by simp [gr,su]) (K1 r2 v2)
theorem yO (I:Inv X pz σ H s){is:List Int}{v:V}{u:af}(r:Rep X.K H (tupI is) v)(rv:RelV v u):∃ a,u=.ref a/\v=.ref a/\(kh (gr X.prog X.w)).is s.heap is a:=by
 obtain⟨a,vs,rfl,h,r'⟩:=r.bM
 cases rv
 obtain⟨aD,r1,⟨o,e,c,n,d⟩,_⟩:=I.tuple h
 exact⟨a,rfl,rfl,o,_,n,e,c,d,by simpa using K1 r' r1⟩
theorem C7 {K:aa}{i:Int}{v:V}{u:af}(r:Rep K H (.int i) v)(rv:RelV v u):∃ t,u=.int i t:=by
 cases r;exact rv
theorem tup_is (I:Inv X pz σ H s)(ok:aN X.K st H){a:Addr}{ks vs:List D}(e:st a=some (.tab ks vs)){is:List Int}(hk:ks.all (kK (tupI is))=true):∃(xs:List (List Int×Addr×Value))(ws:List V),H a=some (wD a xs)/\(a==l8)=false/\xs.map (fun x=>tupI x.1)=ks/\aO ws (xs.map (·.2.2))/\aH X.K H vs ws/\aH X.K H ks (xs.map fun x=>.ref x.2.1) /\
 s.heap.DictOfH (kh (gr X.prog X.w)) a xs:=by
 cases ok a _ e with
 |tup xs ws q q0 q1 q2 q3 q5 r =>
 refine⟨xs,ws,q,q0,q1,q5,r,q3,?_⟩
 obtain⟨⟨o,es,ep,h1,h2,h3,h4⟩,_⟩:=I.bN a _ q
 refine⟨o,es,ep,h1,h2,h3,h4,fun x hx=>?_,q2⟩
 obtain⟨j,hj⟩:=List.mem_iff_getElem?.mp hx
 have e1:ks[j]? = some (tupI x.1):=by rw[<-q1,be,hj];rfl
 obtain⟨v,e2,rv⟩:=q3.get e1
 have e3:v=.ref x.2.1:=by
  rw[be,hj]at e2
  exact(cy e2).symm
 subst e3
 obtain⟨b,e4,_,r4⟩:=yO I rv rfl
 cases e4
 exact r4
 |num xs ws q q0 q1 q2 q5 r =>
 cases xs with
 |nil=>exact(q2 rfl).elim
 |cons x xs=>rw[<-q1]at hk;simp [tupI,kK]at hk
theorem GH (I:Inv X pz σ H s)(ok:aN X.K st H){a:Addr}{ks vs:List D}(e:st a=some (.tab ks vs)){i:Int}(hk:ks.all (kK (.int i))=true):∃(xs:List (Int×Value))(ws:List V),P8 (H a)/\(a==l8)=false/\xs.map (fun x=>D.int x.1)=ks/\aO ws (xs.map (·.2))/\aH X.K H vs ws /\
  s.heap.DictOf (gr X.prog X.w) a xs:=by
 cases ok a _ e with
 |tup xs ws q q0 q1 q2 q3 q5 r =>
  cases xs with
  |nil =>
   obtain⟨⟨o,es,ep,h1,h2,h3,h4⟩,_⟩:=I.bN a _ q
   have he:es = #[]:=by simpa using h4
   subst he
   exact⟨[],ws,by rw[q];exact fz,q0,q1,q5,r,o,#[],ep,h1,h2,h3,fun x hx=>by simp at hx,.nil,List.nodup_nil⟩
  |cons x xs=>rw[<-q1]at hk;simp [tupI,kK]at hk
 |num xs ws q q0 q1 q2 q5 r=>exact⟨xs,ws,by rw[q];exact fz,q0,q1,q5,r,(I.bN a _ q).1⟩
theorem D1:∀ a b:List Int,dI (a.map D.int) (b.map D.int)=decide (a=b)
 |[],[]=>by simp [dI]
 |[],_::_=>by simp [dI]
 |_::_,[]=>by simp [dI]
 |x::a,y::b=>by
  simp only[aq,dI,bT,D1 a b]
  rw[dy];simp
theorem AQ (a b:List Int):bT (tupI a) (tupI b)=decide (a=b):=by
 simp only[tupI,bT];exact D1 a b
theorem AI (a b:Int):bT (.int a) (.int b)=decide (a=b):=by
 simp only[bT];rw[dy];simp
section
variable {κ β:Type}[DecidableEq κ]{t:κ->D}(ht:∀ a b,bT (t a) (t b)=decide (a=b)){k:κ}
include ht
theorem BK (xs:List (κ×β)):((xs.find? fun x=>decide (x.1=k)).map (·.2)).isSome=(xs.map fun x=>t x.1).any fun y=>bT y (t k):=by
 induction xs with
 |nil=>rfl
 |cons x xs ih =>
 simp only[aq,iq,<-ih,ht,List.find?_cons]
 by_cases q:x.1=k
 ·simp [q]
 ·simp [q]
theorem DH {K:aa}{vl:β->af}{d:D}:∀{xs:List (κ×β)}{vs:List D}{ws:List V},aO ws (xs.map fun x=>vl x.2)->aH K H vs ws->pE (xs.map fun x=>t x.1) vs (t k)=some d->∃ p v,(xs.find? fun x=>decide (x.1=k)).map (·.2)=some p/\RelV v (vl p)/\Rep K H d v
 |[],_,_,_,_,h=>by simp [pE]at h
 |x::xs,[],_,rv,r,h=>by simp [pE]at h
 |x::xs,d0::vs,ws,rv,r,h=>by
  cases r with
  |cons r1 r2 =>
   cases rv with
   |cons v1 v2 =>
    simp only[aq,pE]at h
    rw[ht]at h
    by_cases q:x.1=k
    ·rw[if_pos (by simpa using q)]at h;cases h
     exact⟨x.2,_,by simp [q],v1,r1⟩
    ·rw[if_neg (by simpa using q)]at h
     obtain⟨p,v,e1,e2,e3⟩:=DH v2 r2 h
     exact⟨p,v,by simpa [q]using e1,e2,e3⟩
end
theorem keyed.cases {x:D}(h:keyed x):(∃ is,x=tupI is)∨∃ i,x=.int i:=by
 cases x with
 |tup ds=>obtain⟨is,rfl⟩:=h;exact .inl ⟨is,rfl⟩
 |int i=>exact .inr ⟨i,rfl⟩
 |_=>exact h.elim
theorem ED {a:Addr}{xs:List (List Int×Addr×Value)}{p:br}{w:dg}:∀ h1 h2:Heap,MD a xs p w h1->(∀ o,h1.get? a=some o->h2.get? a=some o)->MD a xs p w h2:=fun h1 h2 ⟨o,es,ep,e,r⟩ k=>⟨o,es,ep,k o e,r⟩
theorem none_of {α:Type}{o:Option α}(h:o.isSome=false):o=none:=by cases o<;>simp_all
theorem LL {A:cp}{E:af->ah->Prop}{op:af->af->Sem Unit}(I:Inv X pz σ H s)(ok:aN X.K st H){a:Addr}{ks vs:List D}(e:st a=some (.tab ks vs)){x d:D}{vx vd:V}{ux ud:af}
  (hk:keyed x)(hin:ks.all (kK x)=true)(hnew:(ks.any fun k=>bT k x)=false)(hlen:ks.length<10000)(rx:Rep X.K H x vx)(rvx:RelV vx ux)(rd:Rep X.K H d vd)(rvd:RelV vd ud)
  (hT:∀{is:List Int}{b:Addr}{xs:List (List Int×Addr×Value)}{Q:Unit->ah->Prop},(kh (gr X.prog X.w)).is s.heap is b->s.heap.DictOfH (kh (gr X.prog X.w)) a xs->(∀ h',h'.DictOfH (kh (gr X.prog X.w)) a (storedH xs is b ud)->j9 a s.heap h'->Q () { s with heap:=h',toks:=s.toks+(kh (gr X.prog X.w)).draws is })->xs.length<=sizeLine->wpAny (model X.prog X.w) A (op (.ref b) ud) Q E s)
  (hN:∀{i:Int}{t:Tok}{xs:List (Int×Value)}{Q:Unit->ah->Prop},(gr X.prog X.w).is i (.int i t)=true->s.heap.DictOf (gr X.prog X.w) a xs->(∀ h',h'.DictOf (gr X.prog X.w) a (stored xs i ud)->j9 a s.heap h'->Q () { s with heap:=h',toks:=s.toks+1 })->xs.length<=sizeLine->wpAny (model X.prog X.w) A (op (.int i t) ud) Q E s):
  wpAny (model X.prog X.w) A (op ux ud) (fun _ s'=>∃ H',Inv X pz σ H' s'/\Step H st H' (put st a (.tab (ks++[x]) (vs++[d])))/\aN X.K (put st a (.tab (ks++[x]) (vs++[d]))) H') E s:=by
 have h10:(10000:Nat)<=bD:=by decide
 rcases hk.cases with⟨is,rfl⟩|⟨i,rfl⟩
 ·obtain⟨xs,ws,t1,t2,t3,t5,t6,t8,t7⟩:=tup_is I ok e hin
  obtain⟨ka,rfl,rfl,hka⟩:=yO I rx rvx
  have hno:atKey xs is=none:=none_of (by rw[<-hnew,<-t3];exact BK AQ xs)
  have hxl:xs.length=ks.length:=by rw[<-t3];simp
  refine hT hka t7 (fun h' hm hsb=>?_) (by rw[fM,hxl];omega)
  rw[storedH_new hno]at hm
  obtain⟨o',es,ep,m1,m2,m3,m4,m5,m6⟩:=id hm
  have hS:Step H st (upd H a (wD a (xs++[(is,ka,ud)]))) (put st a (.tab (ks++[tupI is]) (vs++[d]))):=kB e
  refine⟨_,I.write (x:=a) (e:=a) (o:=wD a (xs++[(is,ka,ud)])) (by rw[t1];exact fz) (.inl rfl) (fun b u hb z=>(hsb.2 b hb).trans z) ⟨o',m1⟩ ⟨⟨o',es,ep,m1,m2,m3,m4⟩,⟨o',m1⟩,ED⟩,hS,ok.DQ e ?_⟩
  refine .tup (xs++[(is,ka,ud)]) (ws++[vd]) cS t2 (by simp [t3]) m6 ?_ ?_ ?_
  ·rw[b9];exact(t8.step ok hS).append (.cons (rx.step ok hS) .nil)
  ·rw[b9];exact t5.append (.cons rvd .nil)
  ·exact(t6.step ok hS).append (.cons (rd.step ok hS) .nil)
 ·obtain⟨xs,ws,t1,t2,t3,t5,t6,t7⟩:=GH I ok e hin
  obtain⟨tk,rfl⟩:=C7 rx rvx
  have hno:(xs.any fun kv=>decide (kv.1=i))=false:=by
   have:=BK (k:=i) AI xs
   rw[t3,hnew]at this
   rw[<-this]
   cases hq:(xs.find? fun x=>decide (x.1=i))with
   |none=>simpa using hq
   |some p=>rw[hq]at this;cases this
  have hxl:xs.length=ks.length:=by rw[<-t3];simp
  refine hN (by simp [gr,su]) t7 (fun h' hm hsb=>?_) (by rw[fM,hxl];omega)
  have es:stored xs i ud=xs++[(i,ud)]:=by unfold stored;rw[hno];rfl
  rw[es]at hm
  obtain⟨o',m1⟩:∃ o,h'.get? a=some o:=let⟨o,_,_,e,_⟩:=hm;⟨o,e⟩
  have hS:Step H st (upd H a (SJ a (xs++[(i,ud)]))) (put st a (.tab (ks++[.int i]) (vs++[d]))):=kB e
  refine⟨_,I.write (x:=a) (e:=a) (o:=SJ a (xs++[(i,ud)])) t1 (.inl rfl) (fun b u hb z=>(hsb.2 b hb).trans z) ⟨o',m1⟩ ⟨hm,⟨o',m1⟩,fun h1 h2 p k=>p.at k⟩,hS,ok.DQ e ?_⟩
  refine .num (xs++[(i,ud)]) (ws++[vd]) cS t2 (by simp [t3]) (by simp) ?_ ?_
  ·rw[b9];exact t5.append (.cons rvd .nil)
  ·exact(t6.step ok hS).append (.cons (rd.step ok hS) .nil)
end
section
variable {X:Cx}{C:bC}{sub:Nat->Nat->Bool}{E:XK}{a b e o i value:Expr}{x y z:Ex}{p pos apos pos':Pos}
theorem Jl (hu:X.A.units+180<cLine)(neg:Bool):nB X (if neg=true then .NotIn else .In) (fun d d' st P=>tX d d' st fun b=>P (if neg=true then !b else b)):=by
 intro pz s σ H st d d' v v' u u' P I ok r rv r' bB q
 unfold tX at q
 split at q
 ·obtain⟨ks,vs,e,hk,hin,q⟩:=wQ q
  cases r'.cJ
  cases bB
  rcases hk.cases with⟨is,rfl⟩|⟨i,rfl⟩
  ·obtain⟨xs,ws,t1,t2,t3,t5,t6,t8,t7⟩:=tup_is I ok e hin
   obtain⟨ka,rfl,rfl,hka⟩:=yO I r rv
   have hroom:(kh (gr X.prog X.w)).room X.A.in1:=by show X.A.in1.units<cLine;simp only[h9];omega
   rw[<-t3,<-BK AQ xs]at q
   cases neg with
   |true=>exact wpAny_notIn_heap hroom hka t2 t7 ⟨_,rfl,q,I.tok _⟩
   |false=>exact wpAny_in_heap hroom hka t2 t7 ⟨_,rfl,q,I.tok _⟩
  ·obtain⟨xs,ws,t1,t2,t3,t5,t6,t7⟩:=GH I ok e hin
   obtain⟨tk,rfl⟩:=C7 r rv
   have hi:(gr X.prog X.w).is i (.int i tk)=true:=by simp [gr,su]
   rw[<-t3,<-BK AI xs]at q
   cases neg with
   |true=>exact wpAny_notIn_of hi t2 t7.mapOf ⟨_,rfl,q,I.tok _⟩
   |false=>exact wpAny_in_of hi t2 t7.mapOf ⟨_,rfl,q,I.tok _⟩
 ·exact q.elim
theorem Ct {neg:Bool}(hu:X.A.units+180<cLine)(ha:PE X a (bR X.K (aE C sub E x)))(hb:PE X b (bR X.K (aE C sub E y)))(hm:nr (if neg=true then .NotIn else .In) b=false):PT X (.Compare a [if neg=true then .NotIn else .In] [b] pos) (jC X.K (aE C sub E (.din neg x y))):=by
 intro pz s σ H Q I ⟨σd,st,R,r,ok,q,hq⟩
 refine vy (aY (ha pz s σ H _ I ⟨σd,st,_,r,ok,q,fun v H' z=>z⟩) fun u s1 ⟨v,H1,I1,rv,d,aC,cQ,aM,r1,q1⟩ =>
 aY (hb pz s1 σ H1 _ I1 ⟨σd,aC,_,r.step ok cQ,aM,q1,fun v H' z=>z⟩) fun u' s2 ⟨v',H2,I2,bB,d',aF,fL,bQ,r2,q2⟩ =>
 aY (Jl hu neg pz s2 σ H2 aF d d' v v' u u' (fun k=>R k aF) I2 bQ (r1.step aM fL) rv r2 bB q2) fun w s3 ⟨k,e,q3,I3⟩=>?_) hm
 subst e
 exact jc ⟨H2,I3,hq _ _ ⟨aF,cQ.trans fL,bQ,q3⟩⟩
noncomputable def Mu (K:aa):R2:=fun v v' H Q=>∃ d d' st R,Rep K H d v/\Rep K H d' v'/\aN K st H/\uI d' d st R/\∀ v H',QD K H st R v H'->Q v H'
theorem Z4 (hu:X.A.units+180<cLine):uZ X (Mu X.K):=by
 intro value slice pz s σ H x y v u Q I rx ry h hs
 obtain⟨d,d',st,R,r1,r2,ok,q,hq⟩:=h
 unfold uI at q
 split at q
 ·obtain⟨ks,vs,e,hk,hin,q⟩:=wQ q
  obtain⟨d0,e0,q2⟩:=fB q
  cases r1.cJ
  cases rx
  rcases hk.cases with⟨is,rfl⟩|⟨i,rfl⟩
  ·obtain⟨xs,ws,t1,t2,t3,t5,t6,t8,t7⟩:=tup_is I ok e hin
   obtain⟨ka,rfl,rfl,hka⟩:=yO I r2 ry
   have hroom:(kh (gr X.prog X.w)).room X.A.in1:=by show X.A.in1.units<cLine;simp only[h9];omega
   rw[<-t3]at e0
   obtain⟨pp,v0,e1,e2,e3⟩:=DH AQ (vl:=fun p=>p.2) t5 t6 e0
   refine ky (x:=pp.2) t7.typeIs slot_dict_getitem.lookup ?_ hs
   exact wpAny_getItem_heap hroom hka t7 e1 ⟨rfl,v0,H,I.tok _,e2,hq _ _ (.here ok e3 q2)⟩
  ·obtain⟨xs,ws,t1,t2,t3,t5,t6,t7⟩:=GH I ok e hin
   obtain⟨tk,rfl⟩:=C7 r2 ry
   have hi:(gr X.prog X.w).is i (.int i tk)=true:=by simp [gr,su]
   rw[<-t3]at e0
   obtain⟨pp,v0,e1,e2,e3⟩:=DH AI (vl:=id) t5 t6 e0
   refine ky (x:=pp) t7.typeIs slot_dict_getitem.lookup ?_ hs
   exact wpAny_getItem_of hi t7.mapOf e1 ⟨rfl,v0,H,I.tok _,e2,hq _ _ (.here ok e3 q2)⟩
 ·exact q.elim
theorem Hh (hu:X.A.units+180<cLine)(ha:PE X a (bR X.K (aE C sub E x)))(hb:PE X b (bR X.K (aE C sub E y)))(hp:rV b):PE X (.Subscript a b pos) (bR X.K (aE C sub E (.dix x y))) :=
 (UP (Z4 hu) ha hb hp).imp fun σ H Q ⟨σd,st,R,r,ok,q,hq⟩=>by
 refine⟨σd,st,_,r,ok,q,fun v H1 ⟨d,aC,s1,aM,r1,q1⟩=>?_⟩
 refine⟨σd,aC,_,r.step ok s1,aM,q1,fun v' H2 ⟨d',aF,s2,bQ,r2,q2⟩=>?_⟩
 exact⟨d,d',aF,R,r1.step aM s2,r2,bQ,q2,fun v H' z=>hq _ _ (.after (s1.trans s2) z)⟩
theorem Ov {pz:List (Addr×Obj)}{σ:L2.St}{H:Hp}{s:ah}(I:Inv X pz σ H s):l8<s.heap.objs.size:=by
 have h:cw<s.heap.objs.size:=(I.mod.glob.keeps I.bk).lt
 exact Si (by decide) h
theorem LH {x v y:D}{st:aA}{Q:aA->Prop}(h:vY x v y st Q):∃ a ks vs,y=.ref a/\st a=some (.tab ks vs)/\keyed x/\ks.all (kK x)=true/\(ks.any fun k=>bT k x)=false/\ks.length<10000/\Q (put st a (.tab (ks++[x]) (vs++[v]))):=by
 unfold vY at h
 split at h
 ·obtain⟨ks,vs,e,h1,h2,h3,h4,q⟩:=wQ h
  exact⟨_,ks,vs,rfl,e,h1,h2,h3,h4,q⟩
 ·exact h.elim
theorem Mf (hC:bO C C)(hu:X.A.units+180<cLine)(ho:PE X o (bR X.K (aE C sub EF y)))(hi:PE X i (bR X.K (aE C sub EF z)))(hv:PE X value (bR X.K (aE C sub EF x)))(hs:mf value (some (.Subscript o i pos')) pos.line X.env=pure false):
 PS X (.Assign [.Subscript o i pos'] value pos) (iH X.K (wpS C sub (.asg (.dk y z) x))):=by
 intro pz s σ H D I ⟨σd,st,P,r,ok,q,h⟩
 refine wpAny_Assign_Subscript (aY (hv pz s σ H _ I ⟨σd,st,_,r,ok,qD hC h.ex q,fun v H' z=>z⟩) fun uv s1 ⟨v,H1,I1,rv,d,aC,cQ,aM,rd,q1⟩ =>
 aY (ho pz s1 σ H1 _ I1 ⟨σd,aC,_,r.step ok cQ,aM,qD hC h.ex q1,fun v H' z=>z⟩) fun uo s2 ⟨vo,H2,I2,rvo,d2,aF,fL,bQ,rd2,q2⟩ =>
 aY (hi pz s2 σ H2 _ I2 ⟨σd,aF,_,(r.step ok cQ).step aM fL,bQ,qD hC h.ex q2,fun v H' z=>z⟩) fun ui s3 ⟨vi,H3,I3,rvi,d3,bK,s3s,vA,rd3,q3⟩=>?_) hs
 obtain⟨da,ks,vs,ed2,e,hk,hin,hnew,hlen,q4⟩:=LH q3
 subst ed2
 cases rd2.cJ
 cases rvo
 have hroom:(kh (gr X.prog X.w)).room X.A.in1:=by show X.A.in1.units<cLine;simp only[h9];omega
 exact aY (LL (op:=fun k v=>Qr (.ref da) k v) I3 vA e hk hin hnew hlen rd3 rvi ((rd.step aM fL).step bQ s3s) rv (fun h1 h2 h3 h4=>wpAny_setItem_heap hroom h1 h2 h3 h4) (fun h1 h2 h3 h4=>wpAny_setItem_pairs h1 h2 h3 h4)) fun _ s4 ⟨H4,I4,hS,tH⟩ =>
 ⟨σ,_,I4,h.nx _ _ _ _ ((((r.step ok cQ).step aM fL).step bQ s3s).step vA hS) (((cQ.trans fL).trans s3s).trans hS) tH q4⟩
theorem Ki (hu:X.A.units+180<cLine)(ha:JE X C sub E a x)(hb:JE X C sub E b y)(hm:nr .NotIn b=false:=by kernel_rfl):JT X C sub E (.Compare a [.NotIn] [b] pos) (.din true x y):=⟨Ct (neg:=true) hu ha.h hb.h hm⟩
theorem Oy (hu:X.A.units+180<cLine)(ha:JE X C sub E a x)(hb:JE X C sub E b y)(hp:rV b:=by intro _ _;rfl):JE X C sub E (.Subscript a b pos) (.dix x y):=⟨Hh hu ha.h hb.h hp⟩
theorem Ky (m:bO C C)(hu:X.A.units+180<cLine)(ho:JE X C sub EF o y)(hi:JE X C sub EF i z)(hv:JE X C sub EF value x)(hs:mf value (some (.Subscript o i pos')) pos.line X.env=pure false:=by kernel_rfl):
 JS X C sub (.Assign [.Subscript o i pos'] value pos) (.asg (.dk y z) x):=⟨Mf m hu ho.h hi.h hv.h hs⟩
end
theorem PZ {P:br}{w:dg}{K:aa}{mg:Str->Option af}{base:Heap}{G:Prog}{r k f:Nat}{fn:Fn}{x qual:Str}{st:Stmt}{a:Addr}{fd:gw}{N ps:List Str}(F:wC K x qual st a fd)(S:lJ N ps (aI st))
  (hG:G.fns f=some fn)(hp:fn.np=ps.length)(hl:fn.nl=N.length)
  (hb:∀(bE:af)(A:cp)(outer:List Env)(s:ah)(H:Hp)(E:L2.XK),cR r (A.deeper (mz qual (aI st) s.heap.objs.size a bE)) ->
   sA (eY dB P w K mg base N qual (aI st) a bE A outer s H E).iA (aJ G k) G.sub (fG st) fn.body):
  fJ P w K mg base dB (r+1) a fd ps (fO K (aJ G (k+1)) f):=by
 refine F.ok S (fun vs H Q E h=>?_) (fun bE A outer s H vs Q E hr h=>?_)
 ·obtain⟨ds,aB,R,r,_,h,_⟩:=h
  simp only[aJ,hG]at h
  rw[<-r.length,h.1,hp]
 ·obtain⟨ds,aB,R,r,ok,h,hq⟩:=h
  simp only[aJ,hG]at h
  refine⟨_,(hb bE A outer s H E hr).h,?_⟩
  refine⟨start fn.np fn.nl ds,aB,_,?_,ok,h.2,⟨fun σ' H' dS bX sr s' gC q=>?_,fun v H' z=>hq v H' z,fun _ _ _ _ _ _ _ q=>q,fun _ _ _ _ _ _ _ q=>q,fun _ _ _ q=>q⟩⟩
  ·rw[hl];exact E8 r h.1
  ·exact hq _ _ ⟨.non,bX,s',gC,.non,q⟩
noncomputable def P6 (s:Stmt)(j:Nat):Stmt:=match s with
 |.ClassDef _ _ _ body ..=>body.getD j (.Pass ⟨0,0,0,0⟩)
 |_=>.Pass ⟨0,0,0,0⟩
inductive At where
 |top
 |dF (c:List Nat)
 |init (c:List Nat)
def UB (K:aa)(mg:Str->Option af)(n:Str)(a:Addr):At->Prop
 |.top=>mg n=some (.ref a)
 |.dF c=>∃ C0,clsAt K c C0/\sW K C0/\DK K C0 n a
 |.init c=>∃ C0,clsAt K c C0/\mg ⟨c.toArray⟩=some (.ref C0)/\Mk K C0 a
structure CZ (K:aa)(mg:Str->Option af)(nf:Nat)(nm qn:Nat->Str)(ps:Nat->List Str)(st:Nat->Stmt)(at_:Nat->At) where
 a:Nat->Addr
 fd:Nat->gw
 fn:∀ i,i<nf->wC K (nm i) (qn i) (st i) (a i) (fd i)
 bi:∀ i,i<nf->Binds K (fd i) (ps i) []
 mg:∀ i,i<nf->UB K mg (nm i) (a i) (at_ i)
def C5 (n q:Str)(ps:List Str)(st:Stmt):Prop:=∀(kV doc pm:af)(an:Option Addr)(bE ct:af)(us:List af),us.length=ps.length->Qx (ig n q (kG st) (fG st) (aI st) .none kV doc pm an bE ct) ⟨us,[]⟩=pure (ps.zip us)
def qZ (K:aa)(mg:Str->Option af)(n q:Str)(st:Stmt)(at_:At):Prop:=∃ a fd,wC K n q st a fd/\UB K mg n a at_
theorem Ge {K:aa}{h:Heap}{mg:Str->Option af}(X:K.In h)(G:h.Ns cw mg){n:Str}{st:Stmt}{f:Addr}{oc:af}{od an:Option Addr}{sl:Array (Option af)}{kV dc pm cd ct:af}
 (a:iu K cw n=some (some (.ref f)))(l:K.lookup f=some ⟨oc,od,.func (ig n n (kG st) (fG st) (aI st) .none kV dc pm an cd ct),sl⟩)(c:kj K cd n=true)(k:fe K (.ref f)=true):qZ K mg n n st .top :=
 ⟨f,_,CA l c k,ly X G a⟩
theorem Jc {K:aa}{h:Heap}{mg:Str->Option af}(X:K.In h)(G:h.Ns cw mg){n q:Str}{c:List Nat}{C:Addr}{st:Stmt}{f:Addr}{oc:af}{od an:Option Addr}{sl:Array (Option af)}{kV dc pm cd ct:af}
 (cl:iu K cw ⟨c.toArray⟩=some (some (.ref C)))(pg:ki K C Rw=true)(hd:lz K C=true)(po:ot K C=true)(sa:ez K (.ref C) "__setattr__" = some (some (.builtin "object.__setattr__")))
 (a:ez K (.ref C) n=some (some (.ref f)))(fn:qv K (.ref f)=true)
 (l:K.lookup f=some ⟨oc,od,.func (ig n q (kG st) (fG st) (aI st) .none kV dc pm an cd ct),sl⟩)(cc:kj K cd q=true)(k:fe K (.ref f)=true):qZ K mg n q st (.dF c) :=
 ⟨f,_,CA l cc k,C,cl,⟨pg,hd,po,sa⟩,⟨a,fn,k⟩⟩
theorem Iz {K:aa}{h:Heap}{mg:Str->Option af}(X:K.In h)(G:h.Ns cw mg){q:Str}{c:List Nat}{C:Addr}{st:Stmt}{f:Addr}{oc:af}{od an:Option Addr}{sl:Array (Option af)}{kV dc pm cd ct:af}
 (cl:iu K cw ⟨c.toArray⟩=some (some (.ref C)))(mk:vf K C=true)(kp:fe K (.ref C)=true)
 (a:ez K (.ref C) "__init__" = some (some (.ref f)))(fn:qv K (.ref f)=true)
 (l:K.lookup f=some ⟨oc,od,.func (ig "__init__" q (kG st) (fG st) (aI st) .none kV dc pm an cd ct),sl⟩)(cc:kj K cd q=true)(k:fe K (.ref f)=true):qZ K mg "__init__" q st (.init c) :=
 ⟨f,_,CA l cc k,C,cl,ly X G cl,⟨mk,a,fn,kp⟩⟩
theorem Cm {K:aa}{c:List Nat}{C:Addr}(cl:iu K cw ⟨c.toArray⟩=some (some (.ref C)))(pg:ki K C Rw=true)(hd:lz K C=true)(po:ot K C=true)(sa:ez K (.ref C) "__setattr__" = some (some (.builtin "object.__setattr__"))):yJ K c:=⟨C,cl,pg,hd,po,sa⟩
theorem Ap {K:aa}{c f:List Nat}{C:Addr}(cl:iu K cw ⟨c.toArray⟩=some (some (.ref C)))(na:ez K (.ref C) ⟨f.toArray⟩=some none):IY K c f:=⟨fun C' h=>by cases clsAt.inj h cl;exact na⟩
theorem MG {K:aa}{n q x:Str}{st:Stmt}{a:Addr}{fd:gw}(F:wC K n q st a fd)(h:C5 n q [x] st)(s:ah)(u:af):yp s fd ⟨[u],[]⟩ [(x,u)]:=by
 obtain⟨oc,od,kV,doc,pm,an,bE,ct,osl,rfl,lk,hcd⟩:=F.ex
 exact .of_eq (h kV doc pm an bE ct [u] rfl)
theorem zR {X:Cx}{pz:List (Addr×Obj)}{σ:L2.St}{H:Hp}{s:ah}{h':Heap}{t':Nat}{ch:List Addr}(I:Inv X pz σ H s)(k:∀ b o,b∉ch->s.heap.get? b=some o->h'.get? b=some o)(f:∀ b∈ch,kP X pz H b):Inv X pz σ H { s with heap:=h',toks:=t' }:=by
 have nit:∀ b u,H b=some u->b∉ch:=fun b u e z=>by rw[(f b z).1]at e;cases e
 refine I.step (g':=s.gens) (d':=s.drawn) (ch:=ch) (fun b hb=>?_) (fun b o _ _ hc e _=>k b o hc e) (fun b o _ _ hc e _=>⟨o.slots,k b o hc e⟩) (fun _ _ _ _ n=>n)
  (fun b o hc e=>⟨o,k b o hc e⟩) (fun _ _ e=>e) (fun _ _ _ e=>e) (fun b ps e=>⟨#[],by rw[e];simp⟩) (fun m hm=>?_) (fun b u e=>?_) I.bare
 ·obtain⟨f0,f1,f2,f3,f4,f5⟩:=f b hb
  exact⟨f3,f1,f4,f5⟩
 ·obtain⟨o,es,ep,ho,r⟩:=hm
  exact⟨o,es,ep,k _ o (fun z=>(f _ z).2.1 rfl) ho,r⟩
 ·refine(I.bN b u e).nF (fun c v hc q=>k c v ?_ q) (fun _ q=>q) fun _ _ q=>q
  rcases hc with z|z
  ·rw[z];exact nit b u e
  ·exact nit c _ z
theorem S4 {X:Cx}{pz:List (Addr×Obj)}{σ:L2.St}{H:Hp}{s:ah}{h':Heap}{t':Nat}{ch:List Addr}{xs:List V}{us:List af}(I:Inv X pz σ H s)(hz:xs.length<=sizeLine)(rv:aO xs us)(k:∀ b o,b∉ch->s.heap.get? b=some o->h'.get? b=some o)(lt:∀ b∈ch,b<s.heap.objs.size)
  (hT:h'.get? s.heap.objs.size=some { cls:=.type "tuple", data:=.seq us.toArray })(f:∀ b∈ch,kP X pz H b):Inv X pz σ (upd H s.heap.objs.size (.tup xs)) { s with heap:=h',toks:=t' }:=by
 have I1:Inv X pz σ (upd H s.heap.objs.size (.tup xs)) { s with heap:=s.heap.push { cls:=.type "tuple", data:=.seq us.toArray },toks:=s.toks } :=
  I.laid (fun b u e=>ag _ e) (av _) ⟨hz,us,rv,nD.new _ _⟩
 refine zR (s:={ s with heap:=s.heap.push { cls:=.type "tuple", data:=.seq us.toArray },toks:=s.toks }) (ch:=ch) I1 (fun b o hb e=>?_) fun b hb=>?_
 ·by_cases z:b=s.heap.objs.size
  ·subst z
   rw[show(s.heap.push { cls:=.type "tuple", data:=.seq us.toArray }).get? s.heap.objs.size=some { cls:=.type "tuple", data:=.seq us.toArray } from aw _ rfl]at e
   rw[hT,e]
  ·refine k b o hb ?_
   have eB:=bc e
   have iD:(s.heap.push { cls:=.type "tuple", data:=.seq us.toArray }).objs.size=s.heap.objs.size+1:=ff ..
   have hlt2:b<s.heap.objs.size:=by
    have hq:b<(s.heap.push { cls:=.type "tuple", data:=.seq us.toArray }).objs.size:=eB
    rw[iD]at hq
    exact Nat.lt_of_le_of_ne (Nat.le_of_lt_succ hq) z
   have e':(s.heap.push { cls:=.type "tuple", data:=.seq us.toArray }).get? b=some o:=e
   rwa [Heap.get?_push_ne _ _ _ z]at e'
 ·obtain⟨f0,f1⟩:=f b hb
  exact⟨by rw[bA (bz (lt b hb))];exact f0,f1⟩
section
variable {prog:br}{w:dg}{A:cp}{E:af->ah->Prop}{s:ah}
theorem O0 {it t:Addr}{i:Nat}{items:Array af}{Q:af->ah->Prop}(hh:A.handled=none)(hit:s.heap.IsTupleIter it t i)(ht:s.heap.IsTuple t items)
 (hQ:∀ x,items[i]? = some x->∀ h',h'.IsTupleIter it t (i+1)->j9 it s.heap h'->Q x { s with heap:=h' })
 (hE:items[i]? = none->∀ h' e,Qj it s.heap h'->(∃ o,h'.get? e=some o/\o.cls=.type "StopIteration")->E (.ref e) { s with heap:=h' }):wpAny (model prog w) A (j5 (.ref it)) Q E s:=by
 obtain⟨o,ho,hc,hd⟩:=id hit
 obtain⟨ol,hol,_,nl,hdl⟩:=ht
 unfold j5
 refine ae (fy (name:=ik "__next__") hit.typeIs r9 (fk r9 hit.typeIs F.entry_tuple_iterator_next ?_ (F.args_tuple_iterator_next_1 _)))
 show wpAny _ _ (field (.ref it) 0 >>= _) _ _ s
 refine ae (f6 ho hd (x:=.ref t) rfl ?_)
 rw[if_neg (show ¬((gf t==g6)=true)from g9)]
 refine ae (f6 ho hd (x:=.int i 0) rfl ?_)
 refine ae (md hol hdl ?_)
 cases hx:items[i]? with
 |some x =>
 simp only[tq,hx]
 refine ae (pe ho hd (by simp) (ak ⟨x,rfl,ak (hQ x hx _ ?_ (ng ..))⟩))
 exact⟨_,gg _ ho (ph (j2 hd _)),(y9 ..).trans hc,by rw[j2 hd];simp [gd]⟩
 |none =>
 simp only[tq,hx]
 refine ae (r6 (ae (pe ho hd (by simp) ?_)))
 refine ae ?_
 simp only[Sg,newTuple]
 refine ae (fv ?_ (by size_fits))
 refine ae (m:=r8 _ _) (ke (a:=g6) (by first|rfl|(simp only[r8];rfl)) ?_)
 refine fv ?_ (by size_fits)
 simp only[Sw]
 refine ae (Rq ?_)
 first|rw[show A.in1.handled=none from hh]|rw[hh]
 refine ae (ak (wpAny_throw ?_))
 exact hE hx _ _ (((ng ..).extBut.push _).push _) ⟨_,aw _ rfl,rfl⟩
structure RY (h:Heap)(z TI TO i1 i2 l1 l2:Addr)(k:Nat):Prop where
 z:IsZip h z TI TO .none
 ti:wx h TI (.ref i1) (.ref i2)
 to:∃ p q,wx h TO p q
 i1:h.IsTupleIter i1 l1 k
 i2:h.IsTupleIter i2 l2 k
theorem GB {z TI TO i1 i2 l1 l2:Addr}{k:Nat}{xs ys:Array af}{Q:Option af->ah->Prop}(hh:A.handled=none)(D:ZipApart z TI TO i1 i2 l1 l2)(Z:RY s.heap z TI TO i1 i2 l1 l2 k)(hl1:s.heap.IsTuple l1 xs)(hl2:s.heap.IsTuple l2 ys)
  (hQ:∀ x y,xs[k]? = some x->ys[k]? = some y->∀ h',IsZip h' z TI TO (gd s.heap.objs.size)->wx h' TO x y->h'.IsTupleIter i1 l1 (k+1)->h'.IsTupleIter i2 l2 (k+1)->wx h' s.heap.objs.size x y ->
   (∀ c o,c≠z->c≠TO->c≠i1->c≠i2->s.heap.get? c=some o->h'.get? c=some o)->Q (some (.ref s.heap.objs.size)) { s with heap:=h' })
  (hE:xs[k]? = none∨ys[k]? = none->∀ h',(∀ c o,c≠z->c≠TO->c≠i1->c≠i2->s.heap.get? c=some o->h'.get? c=some o)->Q none { s with heap:=h' }):wpAny (model prog w) A (rg (.ref z)) Q E s:=by
 obtain⟨hz,hTI,⟨a,b,hTO⟩,h1,h2⟩:=Z
 have hT:s.TypeIs (.ref z) "zip":=⟨_,hz,rfl⟩
 have stop:∀(h':Heap)(e:Addr),(xs[k]? = none∨ys[k]? = none)->(∀ c o,c≠z->c≠TO->c≠i1->c≠i2->s.heap.get? c=some o->h'.get? c=some o)->(∃ o,h'.get? e=some o/\o.cls=.type "StopIteration") ->
   wpAny (model prog w) A (isInstance (.ref e) (.type "StopIteration") >>= fun b=>if b=true then pure none else throw (.ref e)) Q E { s with heap:=h' }:=fun h' e hx hk he=>by
  obtain⟨o,ho,hc⟩:=he
  exact ae (mj (T :="StopIteration") (b:=true) ⟨o,ho,hc⟩ Rh (ak (hE hx _ hk)))
 unfold rg
 refine ae (qa (fy (name:=ik "__next__") hT Qn (fk Qn hT F.entry_zip_next ?_ (F.args_zip_next_1 _))))
 show wpAny _ _ (field (.ref z) 2 >>= _) _ _ _
 refine ae (f6 hz rfl (x:=.bool false) rfl ?_)
 show wpAny _ _ (field (.ref z) 3 >>= _) _ _ _
 refine ae (f6 hz rfl (x:=.ref TI) rfl ?_)
 refine ae (md hTI rfl ?_)
 show wpAny _ _ (ny (.ref z) >>= _) _ _ _
 refine ae ?_
 unfold ny
 refine ae (f6 hz rfl (x:=.none) rfl (ak ?_))
 simp only[if_true]
 refine ae (r6 ?_)
 refine ae (f6 hz rfl (x:=.ref TO) rfl ?_)
 refine ae (lq hz (by simp) fun g1 hz1 hs1=>?_)
 replace hz1:IsZip g1 z TI TO .ellipsis:=hz1
 have lend:∀(h':Heap)(e:Addr),IsZip h' z TI TO .ellipsis->(∃ o,h'.get? e=some o/\o.cls=.type "StopIteration")->e≠z:=fun h' e q ⟨o,ho,hc⟩ x=>by
  subst x;rw[q]at ho;cases ho;simp at hc
 refine ae ?_
 simp only[List.zipIdx_cons,List.zipIdx_nil,vg,wj]
 refine ae (ae (Rt ?_))
 show wpAny _ _ (j5 (.ref i1) >>= _) _ _ _
 refine ae (O0 hh (h1.extBut hs1.extBut D.i1z) (hl1.extBut hs1.extBut D.l1z) (fun x hx g2 i12 hs2=>ak ?_) fun hx g2 e hs2 he=>?_)
 rotate_left
 ·have hz2:IsZip g2 z TI TO .ellipsis:=hs2 _ _ D.i1z.symm hz1
  have hez:=lend _ _ hz2 he
  obtain⟨oe,hoe,hce⟩:=he
  exact lq hz2 (by simp) fun g3 _ hs3=>stop g3 e (.inl hx) (fun c o c1 _ c3 _ q=>hs3.extBut _ _ c1 (hs2 _ _ c3 (hs1.extBut _ _ c1 q))) ⟨oe,hs3.extBut _ _ hez hoe,hce⟩
 have hTO2:wx g2 TO a b:=hs2.extBut _ _ D.TOi1 (hs1.extBut _ _ D.TOz hTO)
 refine ae (md hTO2 rfl ?_)
 refine ae (wy hTO2 fun g3 hTO3 hs3=>?_)
 replace hTO3:wx g3 TO x b:=hTO3
 refine ae (Qh (ak ?_))
 refine ae (ae (Rt ?_))
 show wpAny _ _ (j5 (.ref i2) >>= _) _ _ _
 refine ae (O0 hh (((h2.extBut hs1.extBut D.i2z).extBut hs2.extBut D.i12.symm).extBut hs3.extBut D.TOi2.symm) (((hl2.extBut hs1.extBut D.l2z).extBut hs2.extBut D.l2i1).extBut hs3.extBut D.l2TO) (fun y hy g4 i24 hs4=>ak ?_) fun hy g4 e hs4 he=>?_)
 rotate_left
 ·have hz4:IsZip g4 z TI TO .ellipsis:=hs4 _ _ D.i2z.symm (hs3.extBut _ _ D.TOz.symm (hs2.extBut _ _ D.i1z.symm hz1))
  have hez:=lend _ _ hz4 he
  obtain⟨oe,hoe,hce⟩:=he
  exact lq hz4 (by simp) fun g5 _ hs5=>stop g5 e (.inr hy) (fun c o c1 c2 c3 c4 q=>hs5.extBut _ _ c1 (hs4 _ _ c4 (hs3.extBut _ _ c2 (hs2.extBut _ _ c3 (hs1.extBut _ _ c1 q))))) ⟨oe,hs5.extBut _ _ hez hoe,hce⟩
 have hTO4:wx g4 TO x b:=hs4.extBut _ _ D.TOi2 hTO3
 refine ae (md hTO4 rfl ?_)
 refine ae (wy hTO4 fun g5 hTO5 hs5=>?_)
 replace hTO5:wx g5 TO x y:=hTO5
 refine ae (Qh (ak (ak ?_)))
 refine ae (md hTO5 rfl ?_)
 refine ae (wpAny_newTuple ?_)
 have up5:∀ c o,c≠z->c≠TO->c≠i1->c≠i2->s.heap.get? c=some o->g5.get? c=some o:=fun c o c1 c2 c3 c4 q=>hs5.extBut _ _ c2 (hs4.extBut _ _ c4 (hs3.extBut _ _ c2 (hs2.extBut _ _ c3 (hs1.extBut _ _ c1 q))))
 have hz5:IsZip g5 z TI TO .ellipsis:=hs5.extBut _ _ D.TOz.symm (hs4.extBut _ _ D.i2z.symm (hs3.extBut _ _ D.TOz.symm (hs2.extBut _ _ D.i1z.symm hz1)))
 have i15:=((i12.extBut hs3.extBut D.TOi1.symm).extBut hs4.extBut D.i12).extBut hs5.extBut D.TOi1.symm
 have i25:=i24.extBut hs5.extBut D.TOi2.symm
 have iD:g5.objs.size=s.heap.objs.size:=by rw[hs5.1,hs4.1,hs3.1,hs2.1,hs1.1]
 have zlt:g5.objs.size≠z:=mh (bc hz5)
 show wpAny _ _ (nj (.ref z) (.ref g5.objs.size) >>= _) _ _ _
 refine ae ?_
 unfold nj
 have hz6:IsZip (g5.push { cls:=.type "tuple", data:=.seq #[x,y] }) z TI TO .ellipsis:=ag _ hz5
 refine ae (lq hz6 (by simp) fun g7 hz7 hs7=>?_)
 replace hz7:IsZip g7 z TI TO (gd g5.objs.size):=hz7
 refine lq hz7 (by simp) fun g8 hz8 hs8=>?_
 replace hz8:IsZip g8 z TI TO (gd g5.objs.size):=hz8
 have up:∀ c o,c≠z->g5.get? c=some o->g8.get? c=some o:=fun c o c1 q=>hs8.extBut _ _ c1 (hs7.extBut _ _ c1 (ag _ q))
 have new:wx g8 g5.objs.size x y:=hs8.extBut _ _ zlt (hs7.extBut _ _ zlt (aw _ rfl))
 rw[iD]at hz8 new
 refine ak ⟨_,rfl,?_⟩
 show wpAny _ _ (pure (some (gf g5.objs.size))) _ _ _
 rw[iD]
 exact ak (hQ x y hx hy g8 hz8 (up _ _ D.TOz hTO5) (i15.at fun o q=>up _ o D.i1z q) (i25.at fun o q=>up _ o D.i2z q) new fun c o c1 c2 c3 c4 q=>up c o c1 (up5 c o c1 c2 c3 c4 q))
noncomputable abbrev U5 (h:Heap)(l1:Addr):Heap:=h.push { cls:=.type "tuple_iterator", data:=.fields #[.ref l1,.int 0 0] }
noncomputable abbrev VF (h:Heap)(l1 l2:Addr):Heap:=(U5 h l1).push { cls:=.type "tuple_iterator", data:=.fields #[.ref l2,.int 0 0] }
noncomputable abbrev U8 (h:Heap)(l1 l2:Addr):Heap:=(VF h l1 l2).push { cls:=.type "tuple", data:=.seq #[.ref h.objs.size,.ref (U5 h l1).objs.size] }
noncomputable abbrev VS (h:Heap)(l1 l2:Addr):Heap:=(U8 h l1 l2).push { cls:=.type "tuple", data:=.seq #[.none,.none] }
noncomputable abbrev LN (h:Heap)(l1 l2:Addr):Heap:=(VS h l1 l2).push { cls:=.type "zip", data:=.fields #[.none,.bool false,.bool false,.ref (VF h l1 l2).objs.size,.ref (U8 h l1 l2).objs.size] }
theorem W7 (l1 l2:Addr)(xs ys:Array af):Meets (Builtin.«zip.__new__» ⟨[.type "zip", .ref l1,.ref l2],[]⟩) (fun _ R s=>s.heap.IsTuple l1 xs/\s.heap.IsTuple l2 ys/\R (.ok (.ret (.ref (VS s.heap l1 l2).objs.size))) { s with heap:=LN s.heap l1 l2 }) :=
 .of_wp fun prog w A R s h=>by
 obtain⟨hp,g,d,tk,os⟩:=s;obtain⟨hl1,hl2,h⟩:=h
 have hsub:=sub_zip
 have hL1:Sj (Te ⟨hp,g,d,tk,os⟩) l1 xs:=hl1
 have hL2:Sj (Te ⟨hp.push { cls:=.type "tuple_iterator", data:=.fields #[.ref l1,.int 0 0] },g,d,tk,os⟩) l2 ys:=hl2.at fun o q=>ag _ q
 wp_walk using lh hL1,lh hL2
 exact⟨_,rfl,h⟩
theorem S2 {l1 l2:Addr}{xs ys:Array af}{Q:af->ah->Prop}(hl1:s.heap.IsTuple l1 xs)(hl2:s.heap.IsTuple l2 ys)
 (h:∀ h',RY h' (s.heap.objs.size+4) (s.heap.objs.size+2) (s.heap.objs.size+3) s.heap.objs.size (s.heap.objs.size+1) l1 l2 0->(∀ c o,s.heap.get? c=some o->h'.get? c=some o)->Q (.ref (s.heap.objs.size+4)) { s with heap:=h' }):
 wpAny (model prog w) A (call (.type "zip") [.ref l1,.ref l2]) Q E s:=by
 refine callType_new F.called_zip (by decide) (F.typeCall_zip_2 _ _) (F.newCall_zip_2 _ _) (fun obj=>F.args_object_init_3 obj _ _) F.entry_zip_new (W7 l1 l2 xs ys) ⟨hl1,hl2,?_⟩
 have z1:(U5 s.heap l1).objs.size=s.heap.objs.size+1:=ff ..
 have z2:(VF s.heap l1 l2).objs.size=s.heap.objs.size+2:=by rw[ff,z1]
 have z3:(U8 s.heap l1 l2).objs.size=s.heap.objs.size+3:=by rw[ff,z2]
 have z4:(VS s.heap l1 l2).objs.size=s.heap.objs.size+4:=by rw[ff,z3]
 have g5:(LN s.heap l1 l2).get? (VS s.heap l1 l2).objs.size=some _:=aw _ rfl
 have g4:(LN s.heap l1 l2).get? (U8 s.heap l1 l2).objs.size=some _:=ag _ (aw _ rfl)
 have g3:(LN s.heap l1 l2).get? (VF s.heap l1 l2).objs.size=some _:=ag _ (ag _ (aw _ rfl))
 have g2:(LN s.heap l1 l2).get? (U5 s.heap l1).objs.size=some _:=ag _ (ag _ (ag _ (aw _ rfl)))
 have g1:(LN s.heap l1 l2).get? s.heap.objs.size=some _:=ag _ (ag _ (ag _ (ag _ (aw _ rfl))))
 show _/\_
 rw[z2,z3,z4]at g5
 rw[z1,z2]at g3
 rw[z3]at g4
 rw[z1]at g2
 rw[z4]
 exact⟨⟨_,g5,rfl⟩,h _ ⟨g5,g3,⟨_,_,g4⟩,⟨_,g1,rfl,rfl⟩,⟨_,g2,rfl,rfl⟩⟩ fun c o x=>ag _ (ag _ (ag _ (ag _ (ag _ x))))⟩
end
noncomputable def Dy (K:aa)(a b:Addr):It :=
 ⟨fun i H=>∃ xs ys x y,cX K H a xs/\cX K H b ys/\xs[i]? = some x/\ys[i]? = some y,
 fun i H v H'=>∃ T x y,H T=none/\v=.ref T/\H'=upd H T (.tup [x,y])/\(∀ xs,cX K H a xs->xs[i]? = some x)/\∀ ys,cX K H b ys->ys[i]? = some y,
 fun i H=>∃ xs ys,cX K H a xs/\cX K H b ys/\(xs.length<=i∨ys.length<=i)⟩
theorem UC {P:br}{w:dg}{K:aa}{elts:List Expr}{x1}{pos:Pos}(a b z TI TO i1 i2:Addr)(D:ZipApart z TI TO i1 i2 a b):Turn P w K (.Tuple elts x1 pos) (Dy K a b) [z,TO,i1,i2,TI] z
  (fun i h=>RY h z TI TO i1 i2 a b i) where
 mem:=by simp
 obj:=fun i h st c hc=>by
  obtain⟨hz,hTI,⟨p,q,hTO⟩,⟨o1,e1,c1,d1⟩,⟨o2,e2,c2,d2⟩⟩:=st
  simp only[cu,cb,or_false]at hc
  rcases hc with hc|hc|hc|hc|hc<;>subst hc
  ·exact⟨_,hz,fun v y=>by cases y⟩
  ·exact⟨_,hTO,fun v y=>by cases y⟩
  ·exact⟨o1,e1,fun v y=>by rw[d1]at y;cases y⟩
  ·exact⟨o2,e2,fun v y=>by rw[d2]at y;cases y⟩
  ·exact⟨_,hTI,fun v y=>by cases y⟩
 keep:=fun i h h' st k=>by
  obtain⟨hz,hTI,⟨p,q,hTO⟩,h1,h2⟩:=st
  exact⟨k z (by simp) _ hz,k TI (by simp) _ hTI,⟨p,q,k TO (by simp) _ hTO⟩,h1.at fun o x=>k i1 (by simp) o x,h2.at fun o x=>k i2 (by simp) o x⟩
 item:=by
  intro X hP hw hK hc i pz s σ H E I hf st hg
  subst hP hw hK
  obtain⟨xs,ys,x,y,hqa,hqb,hx,hy⟩:=hg
  obtain⟨aD,rv,pa,hza⟩:=I.tuple hqa
  obtain⟨jts,rw',pb,hzb⟩:=I.tuple hqb
  obtain⟨u,hu,ru⟩:=rv.get hx
  obtain⟨v,hv,bB⟩:=rw'.get hy
  obtain⟨hz,hTI,⟨p,q,hTO⟩,h1,h2⟩:=id st
  have lt:∀{c o},s.heap.get? c=some o->c<s.heap.objs.size:=fun e=>bc e
  have ne:∀ c∈[z,TO,i1,i2,TI],c<s.heap.objs.size:=fun c hc=>by
   simp only[cu,cb,or_false]at hc
   rcases hc with hc|hc|hc|hc|hc<;>subst hc
   ·exact lt hz
   ·exact lt hTO
   ·obtain⟨_,e,_⟩:=h1;exact lt e
   ·obtain⟨_,e,_⟩:=h2;exact lt e
   ·exact lt hTI
  refine GB (I.ok.hd hc) D st pa pb (fun x' y' ex ey h' a1 a2 a3 a4 a5 hk=>⟨_,rfl,?_⟩) fun hn=>?_
  rotate_left
  ·rcases hn with hn|hn
   ·rw[show aD.toArray[i]? = some u by simpa using hu]at hn;cases hn
   ·rw[show jts.toArray[i]? = some v by simpa using hv]at hn;cases hn
  rw[show aD.toArray[i]? = some u by simpa using hu]at ex;cases ex
  rw[show jts.toArray[i]? = some v by simpa using hv]at ey;cases ey
  refine wpAny_letOwnedTupleGo_zip a1 fun h3 hz3 hs3=>?_
  have hTz:s.heap.objs.size≠z:=mh (ne z (by simp))
  refine⟨.ref s.heap.objs.size,upd H s.heap.objs.size (.tup [x,y]),?_,rfl,⟨_,x,y,I.bN.fresh (av _),rfl,rfl,fun ws hw=>by rw[I.lS hw hqa];exact hx,fun ws hw=>by rw[I.lS hw hqb];exact hy⟩,
   ⟨hz3,hs3.extBut _ _ D.TIz (hk _ _ D.TIz D.TITO D.TIi1 D.TIi2 hTI),⟨_,_,hs3.extBut _ _ D.TOz a2⟩,a3.extBut hs3.extBut D.i1z,a4.extBut hs3.extBut D.i2z⟩,fun c hc=>?_⟩
  ·refine S4 (ch:=[z,TO,i1,i2]) (us:=[u,v]) I (by simp [sizeLine]) (.cons ru (.cons bB .nil)) (fun c o hc e=>?_) (fun c hc=>ne c (by simp only[cu,cb,or_false]at hc ⊢;rcases hc with hc|hc|hc|hc<;>simp [hc])) ?_ (fun c hc=>hf c (by simp only[cu,cb,or_false]at hc ⊢;rcases hc with hc|hc|hc|hc<;>simp [hc]))
   ·simp only[cu,cb,or_false,not_or]at hc
    exact hs3.extBut _ _ hc.1 (hk c o hc.1 hc.2.1 hc.2.2.1 hc.2.2.2 e)
   ·exact hs3.extBut _ _ hTz a5
  ·rw[bA (bz (ne c hc))];exact(hf c hc).1
 done:=by
  intro X hP hw hK hc i pz s σ H E I hf st hg
  subst hP hw hK
  obtain⟨xs,ys,hqa,hqb,hx⟩:=hg
  obtain⟨aD,rv,pa,hza⟩:=I.tuple hqa
  obtain⟨jts,rw',pb,hzb⟩:=I.tuple hqb
  have hl:=rv.length
  have hl':=rw'.length
  refine GB (I.ok.hd hc) D st pa pb (fun x' y' ex ey=>?_) fun _ h' hk=>⟨rfl,zR (t':=s.toks) (ch:=[z,TO,i1,i2]) I (fun c o hc e=>?_) (fun c hc=>hf c (by simp only[cu,cb,or_false]at hc ⊢;rcases hc with hc|hc|hc|hc<;>simp [hc]))⟩
  ·have e1:=(List.getElem?_eq_some_iff.mp (show aD[i]? = some x' by simpa using ex)).1
   have e2:=(List.getElem?_eq_some_iff.mp (show jts[i]? = some y' by simpa using ey)).1
   rcases hx with hx|hx<;>omega
  ·simp only[cu,cb,or_false,not_or]at hc
   exact hk c o hc.1 hc.2.1 hc.2.2.1 hc.2.2.2 e
 self:=fun _ _ _ _ _ st h=>zu st.z h
theorem AO:∀(xs ys:List D)(i:Nat)(d:D),(zip2 xs ys)[i]? = some d->∃ x y,xs[i]? = some x/\ys[i]? = some y/\d=.tup [x,y]
 |[],_,_,_,h=>by simp [zip2]at h
 |_::_,[],_,_,h=>by simp [zip2]at h
 |x::xs,y::ys,0,d,h=>by simp [zip2]at h;exact⟨x,y,rfl,rfl,h.symm⟩
 |x::xs,y::ys,i+1,d,h=>by simp only[zip2,km]at h ⊢;exact AO xs ys i d h
theorem IZ:∀(xs ys:List D),(zip2 xs ys).length=min xs.length ys.length
 |[],_=>by simp [zip2]
 |_::_,[]=>by simp [zip2]
 |x::xs,y::ys=>by simp only[zip2,a9,IZ xs ys];omega
section
variable {K:aa}{H1:Hp}{aC:aA}{a b:Addr}{xs ys:List D}
theorem YK {us vs:List V}(aM:aN K aC H1)(f:cX K H1 a us)(f':cX K H1 b vs)(g:aH K H1 xs us)(g':aH K H1 ys vs):zV K (Dy K a b) [] (zip2 xs ys) H1 aC where
 go:=fun i H st d s ok sm e=>by
  obtain⟨x,y,q1,q2,_⟩:=AO _ _ _ _ e
  obtain⟨u,w1,_⟩:=g.get q1
  obtain⟨v,w2,_⟩:=g'.get q2
  exact⟨us,vs,u,v,iK aM s f,iK aM s f',w1,w2⟩
 yld:=fun i H st d x H' s ok sm e ⟨T,v,w,hT,ex,eH,h,h'⟩=>by
  subst ex eH
  obtain⟨x,y,q1,q2,ed⟩:=AO _ _ _ _ e
  subst ed
  obtain⟨u',w1,r1⟩:=(g.step aM s).get q1
  obtain⟨v',w2,r2⟩:=(g'.step aM s).get q2
  have z1:=h us (iK aM s f)
  rw[w1]at z1;cases z1
  have z2:=h' vs (iK aM s f')
  rw[w2]at z2;cases z2
  exact⟨kZ hT,ok.new hT,.tup (cX.of cS) ((aH.cons r1 (.cons r2 .nil)).step ok (kZ (st:=st) hT))⟩
 stop:=fun i H st s ok sm l=>by
  rw[IZ]at l
  have l1:=g.length
  have l2:=g'.length
  exact⟨us,vs,iK aM s f,iK aM s f',by omega⟩
end
section
variable {X:Cx}{C:bC}{sub:Nat->Nat->Bool}{a b:Expr}{x y:Ex}{p pos:Pos}{elts:List Expr}{x1:Nat}{tp:Pos}
theorem Dg {E:XK}(hC:bO C C)(hg:Gl X "zip")(hm:X.mg "zip" = none)(ha:PA X [a,b] (jB X.K (bG C sub E [x,y])))(hs:ai [a,b] X.env=[(false,eval a X.env),(false,eval b X.env)])(hs2:ai [b] X.env=[(false,eval b X.env)]):
 PI X (.Tuple elts x1 tp) (.Call (.Name "zip" p) [a,b] [] pos) (wV X.K fun σ st M=>bG C sub E [x,y] σ st fun ds aC=>gI (some .zip) ds aC fun as xs=>M as xs aC):=by
 intro pz s σ H R I ⟨σd,st,M,r,ok,q,hq⟩
 refine Call_ (jV I hg hm boot_zip (dq (aY (ha pos pz s σ H _ I ⟨σd,st,_,r,ok,mZ [x,y] hC q,fun vs H1 z=>z⟩) fun us s1 ⟨vs,H1,I1,r1,ds,aC,cQ,aM,rd,l1,q1⟩=>?_) (by rw[hs,hs2]) (by rw[hs2];rfl)))
 match ds,l1,q1 with
 |[d,d'],_,q1 =>
 have q1:gI (some .zip) [d,d'] aC fun as xs=>M as xs aC:=q1
 cases rd with|cons rd1 rd2=>cases rd2 with|cons rd2 rd3 =>
 cases rd3
 have key:∃ xs ys,d=.tup xs/\d'=.tup ys/\M [] (zip2 xs ys) aC:=by
  cases d<;>first|exact(show False from q1).elim|skip
  cases d'<;>first|exact(show False from q1).elim|skip
  exact⟨_,_,rfl,rfl,q1⟩
 obtain⟨xs,ys,rfl,rfl,q2⟩:=key
 obtain⟨a1,ws,rfl,g1,g2⟩:=rd1.bM
 obtain⟨b1,ws',rfl,g1',g2'⟩:=rd2.bM
 cases r1 with|cons r rr=>cases rr with|cons r' rr =>
 cases rr
 cases r
 cases r'
 obtain⟨aD,rv,pp,hz⟩:=I1.tuple g1
 obtain⟨kD,bB,pp',hz'⟩:=I1.tuple g1'
 refine S2 pp pp' fun h' hZ hk=>zu hZ.z ?_
 have o:∀ n:Nat,s1.heap.objs.size<=s1.heap.objs.size+n:=fun n=>Nat.le_add_right _ _
 have df:∀{i j:Nat},i≠j->s1.heap.objs.size+i≠s1.heap.objs.size+j:=fun h z=>h (xi z)
 have lo:∀{l:Addr}{n:Nat},l<s1.heap.objs.size->l≠s1.heap.objs.size+n:=fun h=>bz (bq h (o _))
 have la:=pp.lt
 have lb:=pp'.lt
 refine⟨s1.heap.objs.size+4,[s1.heap.objs.size+4,s1.heap.objs.size+3,s1.heap.objs.size,s1.heap.objs.size+1,s1.heap.objs.size+2],_,Dy X.K _ _,H1,rfl,I1.kept (t':=s1.toks) hk,
  UC _ _ _ _ _ _ _ ⟨df (by decide),df (by decide),df (i:=0) (by decide),df (by decide),df (by decide),df (j:=0) (by decide),df (by decide),df (j:=0) (by decide),df (by decide),df (i:=0) (by decide),lo la,lo la,lo (n:=0) la,lo la,lo lb,lo lb,lo (n:=0) lb,lo lb⟩,hZ,fun c hc=>?_,hq _ _ ⟨_,_,aC,cQ,aM,YK aM g1 g1' g2 g2',q2⟩⟩
 have hc':s1.heap.objs.size<=c:=by
  simp only[cu,cb,or_false]at hc
  rcases hc with hc|hc|hc|hc|hc<;>rw[hc]
  ·exact o 4
  ·exact o 3
  ·exact av _
  ·exact o 1
  ·exact o 2
 exact I1.DO hc' (I1.bN.fresh hc')
end
section
variable {X:Cx}{C:bC}{sub:Nat->Nat->Bool}{E:XK}{a b:Expr}{x y:Ex}{p pos tp:Pos}{elts:List Expr}{x1:Nat}
theorem Kw (m:bO C C)(hm:X.mg "zip" = none)(ha:JA X C sub E [a,b] [x,y])(hg:X.env.kindOf "zip" = some .globalImplicit:=by kernel_rfl)(hs:ai [a,b] X.env=[(false,eval a X.env),(false,eval b X.env)]:=by kernel_rfl)(hs2:ai [b] X.env=[(false,eval b X.env)]:=by kernel_rfl):
 JI X C sub E (.Tuple elts x1 tp) (.Call (.Name "zip" p) [a,b] [] pos) (some .zip) [x,y]:=⟨Dg m hg hm ha.h hs hs2⟩
end
section
variable {X:Cx}{C:bC}{sub:Nat->Nat->Bool}{E:XK}{k v:Expr}{x y:Ex}{pos:Pos}
theorem Nf (hu:X.A.units+180<cLine)(ha:PE X k (bR X.K (aE C sub E x)))(hb:PE X v (bR X.K (aE C sub E y))):PE X (.Dict [some k] [v] pos) (bR X.K (aE C sub E (.d1 x y))):=fun pz s σ H Q I ⟨σd,st,R,r,ok,q,hq⟩=>by
 have hs:(evalEachOpt [some k] X.env).zip ((evalEach [v] X.env).map fun t=>do let z <-t;oq pos;pure z)=([(eval k X.env,do let z <-eval v X.env;oq pos;pure z)]:List (Sem Value×Sem af)).map fun p=>(some p.1,p.2):=by
  simp [evalEachOpt,evalEach]
  rfl
 rw[arm_eval_Dict,hs,dictDisplay_pairs _ (by simp) (by simp)]
 refine ae (px (ae ?_))
 unfold subDict
 refine ae (wpAny_alloc ?_)
 refine ae (gq ?_)
 rw[if_pos (by simp)]
 have hf:H s.heap.objs.size=none:=I.bN.fresh (av _)
 have I0:Inv X pz σ (upd H s.heap.objs.size (wD s.heap.objs.size [])) { s with heap:=s.heap.push { cls:=.type "dict", data:=.dict #[] } }:=by
  refine I.laid (a:=s.heap.objs.size) (o:=wD s.heap.objs.size []) (t':=s.toks) (fun _ _ q=>ag _ q) (av _) ?_
  exact⟨⟨_,#[],0,aw _ rfl,⟨rfl,rfl,rfl⟩,rfl,rfl⟩,⟨_,aw _ rfl⟩,ED⟩
 have S0:Step H st (upd H s.heap.objs.size (wD s.heap.objs.size [])) (put st s.heap.objs.size (.tab [] [])):=oB hf
 have Lh:aN X.K (put st s.heap.objs.size (.tab [] [])) (upd H s.heap.objs.size (wD s.heap.objs.size [])) :=
  ok.Fj hf (.tup [] [] cS (beq_eq_false_iff_ne.mpr (mh (Ov I))) rfl List.nodup_nil .nil .nil .nil)
 have q:=q _ (ok.fresh hf)
 refine ae (evalPairs_cons ?_)
 refine aY (ha pz _ σ _ _ I0 ⟨σd,_,_,r.step ok S0,Lh,q,fun v H' z=>z⟩) fun uk s1 ⟨vk,H1,I1,rvk,dk,aC,cQ,aM,rdk,q1⟩=>?_
 refine ae (aY (hb pz s1 σ H1 _ I1 ⟨σd,aC,_,(r.step ok S0).step Lh cQ,aM,q1,fun v H' z=>z⟩) fun uv s2 ⟨vv,H2,I2,rvv,dv,aF,fL,bQ,rdv,q2⟩=>?_)
 refine ae (px (ak (evalPairs_nil ?_)))
 obtain⟨da,ks,vs,ed2,e,hk,hin,hnew,hlen,q4⟩:=LH q2
 cases ed2
 have hroom:(kh (gr X.prog X.w)).room X.A:=by show X.A.units<cLine;omega
 refine gq ?_
 rw[vg]
 refine ae (ae ?_)
 show wpAny _ _ (dictSet s.heap.objs.size uk uv >>= fun _=>pure (n5 PUnit.unit)) _ _ s2
 refine ae (aY (LL (op:=fun k v=>dictSet s.heap.objs.size k v) I2 bQ e hk hin hnew hlen (rdk.step aM fL) rvk rdv rvv (fun h1 h2 h3 h4=>wpAny_dictSet_heap hroom h1 h2 h3 h4) (fun h1 h2 h3 h4=>wpAny_dictSet_pairs h1 h2 h3 h4)) fun _ s4 ⟨H4,I4,hS,tH⟩=>?_)
 refine ak ?_
 show wpAny _ _ (forIn [] _ _) _ _ _
 rw[wj]
 exact ak (ak (ak (ak ⟨.ref s.heap.objs.size,_,I4,rfl,hq _ _ (.after S0 (.after cQ (.after fL ⟨.ref s.heap.objs.size,_,hS,tH,.ref _,q4⟩)))⟩)))
theorem Kx (hu:X.A.units+180<cLine)(ha:JE X C sub E k x)(hb:JE X C sub E v y):JE X C sub E (.Dict [some k] [v] pos) (.d1 x y):=⟨Nf hu ha.h hb.h⟩
end
end L3
end
section
namespace L3
section
variable {C:bC}{sub:Nat->Nat->Bool}{E:XK}{σ:St}{st:aA}{Q:VK}{QQ:List D->aA->Prop}{QB:Bool->aA->Prop}{P:gS}{e a b c:Ex}{es:List Ex}{i:Nat}{d:D}{M:St->aA->Prop}
theorem GX:aE C sub E (.c d) σ st Q=Q d st:=rfl
theorem EZ:aE C sub E (.v i) σ st Q=eF σ i fun d=>Q d st:=rfl
theorem Jr:aE C sub E (.tup es) σ st Q=bG C sub E es σ st fun ds aB=>Q (.tup ds) aB:=rfl
theorem Fy:aE C sub E (.lst es) σ st Q=bG C sub E es σ st fun ds aB=>gF ds aB Q:=rfl
theorem MQ {op:sP}:aE C sub E (.bin op a b) σ st Q=aE C sub E a σ st fun x aC=>aE C sub E b σ aC fun y aF=>iI op x y aF Q:=rfl
theorem Fz:aE C sub E (.neg a) σ st Q=aE C sub E a σ st fun x aC=>C9 x aC Q:=rfl
theorem Hk {op:nZ}:aE C sub E (.cmp op a b) σ st Q=aE C sub E a σ st fun x aC=>aE C sub E b σ aC fun y aF=>cW op x y aF fun k=>Q (.bl k) aF:=rfl
theorem X9 {op op':nZ}:aE C sub E (.chain op op' a b c) σ st Q=aE C sub E a σ st fun x aC=>aE C sub E b σ aC fun y aF=>cW op x y aF fun k =>
 if k=true then aE C sub E c σ aF fun z bK=>cW op' y z bK fun k=>Q (.bl k) bK else Q (.bl false) aF:=rfl
theorem Ib:aE C sub E (.and_ a b) σ st Q=aE C sub E a σ st fun x aC=>eE x aC fun k=>if k=true then aE C sub E b σ aC Q else Q x aC:=rfl
theorem Nj:aE C sub E (.or_ a b) σ st Q=aE C sub E a σ st fun x aC=>eE x aC fun k=>if k=true then Q x aC else aE C sub E b σ aC Q:=rfl
theorem Gd:aE C sub E (.not_ a) σ st Q=aE C sub E a σ st fun x aC=>eE x aC fun k=>Q (.bl (!k)) aC:=rfl
theorem Gx:aE C sub E (.ite c a b) σ st Q=aE C sub E c σ st fun x aC=>eE x aC fun k=>if k=true then aE C sub E a σ aC Q else aE C sub E b σ aC Q:=rfl
theorem Ba {f:Nat}:aE C sub E (.call f es) σ st Q=bG C sub E es σ st fun ds aB=>C f ds aB Q E:=rfl
theorem Bf {f:BI}:aE C sub E (.bi f es) σ st Q=bG C sub E es σ st fun ds aB=>gX f ds aB Q:=rfl
theorem Hz {ts:List Ty}:aE C sub E (.isi a ts) σ st Q=aE C sub E a σ st fun x aC=>tQ sub x aC ts fun k=>Q (.bl k) aC:=rfl
theorem Cn {m:MT}:aE C sub E (.dF m a es) σ st Q=aE C sub E a σ st fun x aC=>wZ m x aC/\bG C sub E es σ aC fun ds aF=>jH m x ds aF Q:=rfl
theorem AR:aE C sub E (.ix a b) σ st Q=aE C sub E a σ st fun x aC=>aE C sub E b σ aC fun y aF=>sF x y aF Q:=rfl
theorem Mr {lo hi:List Ex}:aE C sub E (.sl a lo hi) σ st Q=aE C sub E a σ st fun x aC=>bG C sub E lo σ aC fun ls aF=>nI ls fun l=>bG C sub E hi σ aF fun hs bK=>nI hs fun h=>BS x l h bK Q:=rfl
theorem Hd {f:BI}{k:IK}:aE C sub E (.bit f k es) σ st Q=bG C sub E es σ st fun ds aC=>gI (some k) ds aC fun _ xs=>dN f xs aC Q:=rfl
theorem ZZ {n:Nat}{aK tg:List Nat}{one:Bool}{k:Option IK}{aD ifs:List Ex}:aE C sub E (.comp n aK tg one k aD ifs e) σ st Q=bG C sub E aD σ st fun ds aC=>gI k ds aC fun as xs =>
 jG (same as aC) (fun x aF K=>kI one tg x (ay n none++aK.map fun i=>(σ[i]?).getD none) fun σ' =>
 jP C sub E ifs σ' aF fun b bK=>if b=true then aE C sub E e σ' bK fun d cN=>K (some d) cN else K none bK) xs [] aC fun ds dG=>gF ds dG Q:=rfl
theorem Q1:bG C sub E [] σ st QQ=QQ [] st:=rfl
theorem LO:bG C sub E (e::es) σ st QQ=aE C sub E e σ st fun d aB=>bG C sub E es σ aB fun ds bX=>QQ (d::ds) bX:=rfl
theorem Jd:jP C sub E [] σ st QB=QB true st:=rfl
theorem Fd:jP C sub E (e::es) σ st QB=aE C sub E e σ st fun d aB=>eE d aB fun k=>if k=true then jP C sub E es σ aB QB else QB false aB:=rfl
theorem Ja:wpS C sub (.ex e) P σ st=aE C sub (fun c aB=>P.ex c σ aB) e σ st fun _ aB=>P.nx σ aB:=rfl
theorem sT {t:Tg}:wpS C sub (.asg t e) P σ st=aE C sub (fun c aB=>P.ex c σ aB) e σ st fun d aB=>mD C sub (fun c aB=>P.ex c σ aB) t d σ aB P.nx:=rfl
theorem Bc {op:sP}:wpS C sub (.aug i op e) P σ st=eF σ i fun x=>aE C sub (fun c aB=>P.ex c σ aB) e σ st fun y aB=>notRef x/\iI op x y aB fun d bX=>P.nx (σ.set i (some d)) bX:=rfl
theorem ZQ {x y:List Sx}:wpS C sub (.iff e x y) P σ st=aE C sub (fun c aB=>P.ex c σ aB) e σ st fun d aB=>eE d aB fun k=>if k=true then cO C sub x P σ aB else cO C sub y P σ aB:=rfl
theorem Ds {t:Tg}{k:Option IK}{b:List Sx}:wpS C sub (.iM t k es b) P σ st=bG C sub (fun c aB=>P.ex c σ aB) es σ st fun ds aC=>gI k ds aC fun as xs=>vH (same as aC) (fun x next σ st=>mD C sub (fun c aB=>P.ex c σ aB) t x σ st fun σ' aB=>cO C sub b { P with nx:=next,ct:=next,bk:=P.nx } σ' aB) P.nx xs σ aC:=rfl
theorem OV:wpS C sub (.ret e) P σ st=aE C sub (fun c aB=>P.ex c σ aB) e σ st P.rt:=rfl
theorem Bq:wpS C sub .brk P σ st=P.bk σ st:=rfl
theorem Af:wpS C sub .cnt P σ st=P.ct σ st:=rfl
theorem V7:wpS C sub .pass P σ st=P.nx σ st:=rfl
theorem yB:mD C sub E (.nm i) d σ st M=M (σ.set i (some d)) st:=rfl
theorem Jp {is:List Nat}:mD C sub E (.tp is) d σ st M=kI false is d σ fun σ'=>M σ' st:=rfl
theorem Ju:mD C sub E (.ix a b) d σ st M=aE C sub E a σ st fun x aC=>aE C sub E b σ aC fun y aF=>AF x y d aF fun bK=>M σ bK:=rfl
theorem Ij {c f:List Nat}:mD C sub E (.fl c f a) d σ st M=aE C sub E a σ st fun x aC=>CH c f d x aC fun aF=>M σ aF:=rfl
theorem Ih:mD C sub E (.dk a b) d σ st M=aE C sub E a σ st fun x aC=>aE C sub E b σ aC fun y aF=>vY y d x aF fun bK=>M σ bK:=rfl
theorem Gk {c f:List Nat}:aE C sub E (.fld c f a) σ st Q=aE C sub E a σ st fun x aC=>tI c f x aC Q:=rfl
theorem Lk {c:List Nat}{f:Nat}:aE C sub E (.mk c f es) σ st Q=bG C sub E es σ st fun ds aC=>∀ p,aC p=none->C f (.ref p::ds) (put aC p (.ins c [])) (fun d aF=>d=.non/\Q (.ref p) aF) E:=rfl
theorem Fw {c m:List Nat}{f:Nat}:aE C sub E (.mcl c m f a es) σ st Q=aE C sub E a σ st fun x aC=>DF c m x aC/\bG C sub E es σ aC fun ds aF=>C f (x::ds) aF Q E:=rfl
theorem Og:aE C sub E (.cv i es) σ st Q=eF σ i fun d=>wJ d st (fun _ _ _=>True)/\bG C sub E es σ st fun ds aB=>wJ d aB fun a f cs=>C f (cs++ds) (del aB a) (fun d2 aF=>Q d2 (put aF a (.fn f cs))) (fun c aF=>E c (put aF a (.fn f cs))):=rfl
theorem XD {f g:Nat}{aK:List Nat}{κ:CK}:aE C sub E (.callL f es g aK κ) σ st Q=bG C sub E es σ st fun ds aC=>(∃ P,aC P=some (.cod κ))/\pF σ aK fun cs=>∀ a,aC a=none->C f (ds++[.ref a]) (put aC a (.fn g cs)) (fun d aF=>Q d (del aF a)) (fun c aF=>E c (del aF a)):=rfl
theorem WW {QL:List D->Prop}:pF σ [] QL=QL []:=rfl
theorem SX {QL:List D->Prop}{is:List Nat}:pF σ (i::is) QL=eF σ i fun d=>pF σ is fun ds=>QL (d::ds):=rfl
theorem UW {f p:Nat}{cs:List D}{K:Nat->Nat->List D->Prop}(h:st p=some (.fn f cs)):wJ (.ref p) st K=K p f cs:=by unfold wJ;simp only[h]
theorem CI {p q:Nat}(h:q≠p):del st p q=st q:=by unfold del;rw[if_neg h]
theorem Di {k v:Ex}:aE C sub E (.d1 k v) σ st Q = ∀ p,st p=none->aE C sub E k σ (put st p (.tab [] [])) fun x aC=>aE C sub E v σ aC fun y aF=>vY x y (.ref p) aF fun bK=>Q (.ref p) bK:=rfl
theorem Ad:aE C sub E .dnew σ st Q = ∀ p,st p=none->Q (.ref p) (put st p (.tab [] [])):=rfl
theorem Im {neg:Bool}:aE C sub E (.din neg a b) σ st Q=aE C sub E a σ st fun x aC=>aE C sub E b σ aC fun y aF=>tX x y aF fun k=>Q (.bl (if neg=true then !k else k)) aF:=rfl
theorem Fx:aE C sub E (.dix a b) σ st Q=aE C sub E a σ st fun y aC=>aE C sub E b σ aC fun x aF=>uI x y aF Q:=rfl
theorem qE {c f:List Nat}{p:Nat}{fs:List (List Nat×D)}(h:st p=some (.ins c fs)){x:D}(hx:iS fs f=some x):tI c f (.ref p) st Q=Q x st:=by
 simp only[tI,mP,h,hx,cV,true_and]
theorem U3 {c f:List Nat}{p:Nat}{fs:List (List Nat×D)}{R:aA->Prop}(h:st p=some (.ins c fs))(hl:fs.length<900):CH c f d (.ref p) st R=R (put st p (.ins c (rH f d fs))):=by
 simp only[CH,mP,h,hl,true_and]
theorem Ff {c m:List Nat}{p:Nat}{fs:List (List Nat×D)}(h:st p=some (.ins c fs))(hm:iS fs m=none):DF c m (.ref p) st=True:=by
 simp only[DF,mP,h,hm,and_self]
theorem PX {x:D}{p:Nat}{ks vs:List D}{R:Bool->Prop}(h:st p=some (.tab ks vs))(hx:keyed x)(hk:ks.all (kK x)=true):tX x (.ref p) st R=R (ks.any fun k=>bT k x):=by
 simp only[tX,tabAt,h,hx,hk,true_and]
theorem ZW {x v:D}{p:Nat}{ks vs:List D}(h:st p=some (.tab ks vs))(hx:keyed x)(hk:ks.all (kK x)=true)(hv:pE ks vs x=some v):uI x (.ref p) st Q=Q v st:=by
 simp only[uI,tabAt,h,hx,hk,hv,cV,true_and]
theorem FT {x v:D}{p:Nat}{ks vs:List D}{R:aA->Prop}(h:st p=some (.tab ks vs))(hx:keyed x)(hk:ks.all (kK x)=true)(hn:(ks.any fun k=>bT k x)=false)(hl:ks.length<10000):vY x v (.ref p) st R=R (put st p (.tab (ks++[x]) (vs++[v]))):=by
 simp only[vY,tabAt,h,hx,hk,hn,hl,true_and]
end
section
variable {d:D}{r:St}{R:D->Prop}{o0 o1 o2 o3 o4 o5 o6 o7 o8 o9 jA jO VW:Option D}
theorem CU:eF (some d::r) 0 R=R d:=rfl
theorem Eg:eF (o0::some d::r) 1 R=R d:=rfl
theorem Mp:eF (o0::o1::some d::r) 2 R=R d:=rfl
theorem Nw:eF (o0::o1::o2::some d::r) 3 R=R d:=rfl
theorem Lu:eF (o0::o1::o2::o3::some d::r) 4 R=R d:=rfl
theorem Ni:eF (o0::o1::o2::o3::o4::some d::r) 5 R=R d:=rfl
theorem Oc:eF (o0::o1::o2::o3::o4::o5::some d::r) 6 R=R d:=rfl
theorem Ll:eF (o0::o1::o2::o3::o4::o5::o6::some d::r) 7 R=R d:=rfl
theorem Ms:eF (o0::o1::o2::o3::o4::o5::o6::o7::some d::r) 8 R=R d:=rfl
theorem Nc:eF (o0::o1::o2::o3::o4::o5::o6::o7::o8::some d::r) 9 R=R d:=rfl
theorem Hn:eF (o0::o1::o2::o3::o4::o5::o6::o7::o8::o9::some d::r) 10 R=R d:=rfl
theorem Gp:eF (o0::o1::o2::o3::o4::o5::o6::o7::o8::o9::jA::some d::r) 11 R=R d:=rfl
theorem Ho:eF (o0::o1::o2::o3::o4::o5::o6::o7::o8::o9::jA::jO::some d::r) 12 R=R d:=rfl
theorem Il:eF (o0::o1::o2::o3::o4::o5::o6::o7::o8::o9::jA::jO::VW::some d::r) 13 R=R d:=rfl
end
end L3
end
section
namespace L3
open PySem PySem.Spec PyProof.Rows L2
noncomputable def iR (H:Hp)(a:Addr):Hp:=fun b=>match H b with
 |some (.frz o (.own n))=>if n=a then none else some (.frz o (.own n))
 |y=>y
theorem rU {H:Hp}{a b:Addr}{o:Obj}(h:H b=some (.frz o (.own a))):iR H a b=none:=by unfold iR;rw[h];simp
theorem lA {H:Hp}{a b:Addr}(h:H b=none):iR H a b=none:=by unfold iR;rw[h]
theorem oA (H:Hp)(a b:Addr):(∃ o,H b=some (.frz o (.own a))/\iR H a b=none)∨((∀ o,H b≠some (.frz o (.own a)))/\iR H a b=H b):=by
 cases h:H b with
 |none=>exact .inr ⟨fun o z=>(by cases z),lA h⟩
 |some y =>
  by_cases q:∃ o,y=.frz o (.own a)
  ·obtain⟨o,rfl⟩:=q
   exact .inl ⟨o,rfl,rU h⟩
  ·refine .inr ⟨fun o z=>q ⟨o,cy z⟩,?_⟩
   unfold iR
   rw[h]
   cases y with
   |frz o u=>cases u with
    |own n =>
     have hn:n≠a:=fun z=>q ⟨o,by rw[z]⟩
     simp [hn]
    |_=>rfl
   |_=>rfl
theorem R9 {H:Hp}{a b:Addr}{y:HO}(h:iR H a b=some y):H b=some y:=by
 rcases oA H a b with⟨o,_,e⟩|⟨_,e⟩
 ·rw[e]at h;cases h
 ·rw[<-e];exact h
theorem pX {H:Hp}{a b:Addr}{y:HO}(h:H b=some y)(n:∀ o,y≠.frz o (.own a)):iR H a b=some y:=by
 rcases oA H a b with⟨o,e,_⟩|⟨_,e⟩
 ·rw[h]at e;exact absurd (cy e) (n o)
 ·rw[e];exact h
noncomputable def yN (H H':Hp)(a:Addr):Hp:=fun b=>match H b with
 |some (.frz o (.own n))=>if n=a then some (.frz o (.own n))else H' b
 |_=>H' b
theorem A1 {H H':Hp}{a b:Addr}{o:Obj}(h:H b=some (.frz o (.own a))):yN H H' a b=some (.frz o (.own a)):=by unfold yN;rw[h];simp
theorem gN {H H':Hp}{a b:Addr}(h:∀ o,H b≠some (.frz o (.own a))):yN H H' a b=H' b:=by
 unfold yN
 cases e:H b with
 |none=>rfl
 |some y=>cases y with
 |frz o u=>cases u with
  |own n =>
  have hn:n≠a:=fun z=>h o (by rw[e,z])
  simp [hn]
  |_=>rfl
 |_=>rfl
theorem XB {P:br}{w:dg}{H:Hp}{h:Heap}{a:Addr}(ok:gQ P w H h):gQ P w (iR H a) h:=fun b o e =>
 (ok b o (R9 e)).nF (fun _ _ _ q=>q) (fun _ q=>pX q (fun _ z=>nomatch z)) fun _ _ q=>pX q (fun _ z=>nomatch z)
def Kp (H H':Hp)(a:Addr):Prop:=∀ b y,H b=some y->(∀ o,y≠.frz o (.own a))->(∀ o u,y≠.frz o (.frz u (.own a)))->H' b=some y
theorem OW {H:Hp}{a:Addr}:Kp H (iR H a) a:=fun _ _ h n _=>pX h n
theorem Dj {K:aa}{H H':Hp}{a b:Addr}{vs:List V}(k:Kp H H' a)(h:cX K H b vs):cX K H' b vs:=by
 rcases h with(h|⟨o,h⟩)|h
 ·exact .inl (.inl (k _ _ h (fun _ z=>nomatch z) (fun _ _ z=>nomatch z)))
 ·exact .inl (.inr ⟨o,k _ _ h (fun _ z=>nomatch z) (fun _ _ z=>nomatch z)⟩)
 ·exact .inr h
theorem XY {K:aa}{H H':Hp}{a b:Addr}{vs:List V}(k:Kp H H' a)(h:lF K H b vs):lF K H' b vs:=by
 rcases h with⟨o,h⟩|h
 ·exact .inl ⟨o,k _ _ h (fun _ z=>nomatch z) (fun _ _ z=>nomatch z)⟩
 ·exact .inr h
mutual
theorem Rep.to {K:aa}{H H':Hp}{a:Addr}(k:Kp H H' a):∀{d:D}{v:V},Rep K H d v->Rep K H' d v
 |_,_,.non=>.non
 |_,_,.bl b=>.bl b
 |_,_,.int i=>.int i
 |_,_,.str x=>.str x
 |_,_,.tup h r=>.tup (Dj k h) (aH.to k r)
 |_,_,.ref a=>.ref a
 |_,_,.bL h r=>.bL (XY k h) (aH.to k r)
 |_,_,.cY h=>.cY h
theorem aH.to {K:aa}{H H':Hp}{a:Addr}(k:Kp H H' a):∀{ds:List D}{vs:List V},aH K H ds vs->aH K H' ds vs
 |_,_,.nil=>.nil
 |_,_,.cons h r=>.cons (Rep.to k h) (aH.to k r)
end
theorem KU {K:aa}{H H':Hp}{a b:Addr}{o:MO}(k:Kp H H' a)(ne0:a≠0)(hb:b≠a)(h:rM K H b o):rM K H' b o:=by
 cases o with
 |lst ds=>obtain⟨vs,q,r⟩:=h;exact⟨vs,k _ _ q (fun _ z=>nomatch z) (fun _ _ z=>nomatch z),r.to k⟩
 |dic _ _=>exact h
 |ins c fs=>obtain⟨C,dx,ws,q,q2,q3,r⟩:=h;exact⟨C,dx,ws,q,k _ _ q2 (fun _ z=>nomatch z) (fun _ _ z=>nomatch z),q3,r.to k⟩
 |tab ks vs=>cases h with|tup xs ws q q0 q1 q2 q3 q4 r=>exact .tup xs ws (k _ _ q (fun _ z=>nomatch z) (fun _ _ z=>nomatch z)) q0 q1 q2 (q3.to k) q4 (r.to k)|num xs ws q q0 q1 q2 q4 r=>exact .num xs ws (k _ _ q (fun _ z=>nomatch z) (fun _ _ z=>nomatch z)) q0 q1 q2 q4 (r.to k)
 |fn f cs =>
 obtain⟨vs,⟨T,clos,pm,ctv,c',oc,nb,t,q,ec,co,inj,dom,cap⟩,r⟩:=h
 refine⟨vs,⟨T,clos,pm,ctv,c',oc,nb,t,k _ _ q (fun _ z=>nomatch z) (fun _ _ z=>?_),k _ _ ec (fun _ z=>?_) (fun _ _ z=>nomatch z),co,inj,dom,cap.of fun b' o z=>k _ _ z (fun _ y=>?_) (fun _ _ y=>nomatch y)⟩,r.to k⟩
 ·injection z with _ z;injection z with _ z;injection z with z;exact hb z
 ·injection z with _ z;injection z with z;exact ne0 z.symm
 ·injection y with _ y;injection y with y;exact hb y
 |cod κ =>
 obtain⟨q0,q|⟨c',oc,q,ec,co⟩⟩:=h
 ·exact⟨q0,.inl (k _ _ q (fun _ z=>nomatch z) (fun _ _ z=>nomatch z))⟩
 ·exact⟨q0,.inr ⟨c',oc,k _ _ q (fun _ z=>nomatch z) (fun _ _ z=>nomatch z),k _ _ ec (fun _ z=>by injection z with _ z;injection z with z;exact ne0 z.symm) (fun _ _ z=>nomatch z),co⟩⟩
theorem WJ {K:aa}{H H':Hp}{st:aA}{a:Addr}(k:Kp H H' a)(ne0:a≠0)(ok:aN K st H)(hn:st a=none):aN K st H':=fun b o e =>
 KU k ne0 (fun z=>by rw[z,hn]at e;cases e) (ok b o e)
theorem wI:∀{ps:List Str}{us:List af}{i:Nat}{x:Str}{u:af},ps.Nodup->ps[i]? = some x->us[i]? = some u->(ps.zip us).reverse.lookup x=some u
 |[],_,_,_,_,_,h,_=>by simp at h
 |_::_,[],_,_,_,_,_,h=>by simp at h
 |p::ps,v::us,0,x,u,nd,h1,h2=>by
  simp at h1 h2;subst h1;subst h2
  rw[j0,jd,yi]
  have:(ps.zip us).reverse.lookup p=none:=by
   rw[List.lookup_eq_none_iff]
   intro q hq
   have hq:q∈ps.zip us:=by simpa using hq
   have:=(j7 hq).1
   rw[bne_iff_ne]
   intro z
   exact(List.nodup_cons.mp nd).1 (z▸this)
  rw[this];simp
 |p::ps,v::us,i+1,x,u,nd,h1,h2=>by
  rw[j0,jd,yi,wI (List.nodup_cons.mp nd).2 (by simpa using h1) (by simpa using h2)];rfl
structure MW (T:jS):Prop where
 kind:T.scope.kind=.function
 co:T.scope.isCoroutine=false
 gen:T.scope.isGenerator=false
 nc:∀ x∈T.scope.names,x.2≠.cell
 nd:(T.aK++T.ps).Nodup
 lo:∀ x∈T.ps,T.scope.names.lookup x=some .local
 fr:∀ x,T.scope.names.lookup x=some .free->x∈T.aK
 cf:∀ x∈T.aK,T.scope.names.lookup x=some .free
noncomputable def QN (P:br)(w:dg)(K:aa)(mg:Str->Option af)(base:Heap)(T:jS)(clos:List (Str×Addr))(a c':Addr)(A:cp)(outer:List Env)(s:ah)(H:Hp):Cx where
 prog:=P
 w:=w
 K:=K
 mg:=mg
 base:=base
 A:=A.deeper (qy T.q T.scope s.heap.objs.size a (.ref c') clos)
 N:=T.aK++T.ps
 s₀:=s
 H₀:=H
 env:=qy T.q T.scope s.heap.objs.size a (.ref c') clos
 outer:=outer
 stack:=qy T.q T.scope s.heap.objs.size a (.ref c') clos::outer
 ex:=[]
 calm:=true
 fn:=fun _=>false
 pn:=[]
 xe:=fun _ _=>False
def nK (P:br)(w:dg)(K:aa)(mg:Str->Option af)(base:Heap)(r:Nat)(C:bC)(f:Nat):Prop :=
 ∀(A:cp)(outer:List Env)(s:ah)(H:Hp)(a:Addr)(us:List af)(vs cvs:List V)(ds cs:List D)(st:aA)(R:VK)(Q:L2.VK)(E:L2.XK),
 cR r A->rN P w K mg base A outer s H->VJ H a f cvs->st a=none->aN K st H->aH K H cs cvs->aH K H ds vs->aO vs us->C f (cs++ds) st R (fun _ _=>False)->(∀ v H',QD K H st R v H'->Q v H') ->
 ku (model P w) A (.call (.ref a) ⟨us,[]⟩) (CR dB outer P w H s Q E) s
theorem IG {H:Hp}{a:Addr}{clos:List (Str×Addr)}{xs:List Str}{vs:List V}(h:iT H a clos xs vs):xs.length=vs.length:=by
 induction h with
 |nil=>rfl
 |cons _ _ _ _ _ _ _ _ ih=>exact congrArg Nat.succ ih
theorem AA {H:Hp}{a:Addr}{clos:List (Str×Addr)}{xs:List Str}{vs:List V}(h:iT H a clos xs vs):∀{i:Nat}{x:Str},xs[i]? = some x->∃ v cl o u,vs[i]? = some v/\clos.lookup x=some cl/\H cl=some (.frz o (.own a))/\o.data=.cell (some u)/\RelV v u:=by
 induction h with
 |nil=>intro i x e;simp at e
 |cons cl o u l k d r t ih =>
 intro i x e
 cases i with
 |zero=>simp at e;subst e;exact⟨_,cl,o,u,rfl,l,k,d,r⟩
 |succ i=>exact ih (by simpa using e)
section
variable {P:br}{w:dg}{K:aa}{mg:Str->Option af}{base:Heap}{T:jS}{clos:List (Str×Addr)}{a c':Addr}{A:cp}{outer:List Env}{s:ah}{H:Hp}{us:List af}{vs cvs:List V}
theorem XF (S:MW T)(hd:A.handled=none)(e0:rN P w K mg base A outer s H)(inj:∀ x y c,clos.lookup x=some c->clos.lookup y=some c->x=y)(dom:∀ x c,clos.lookup x=some c->x∈T.aK)(cap:iT H a clos T.aK cvs)(hl:vs.length=T.ps.length)(r:aO vs us)
  {h₁:Heap}{tk:Nat}(hns:h₁.Ns s.heap.objs.size (fun y=>(T.ps.zip us).reverse.lookup y))(hk:∀ b o,s.heap.get? b=some o->h₁.get? b=some o):
  Inv (QN P w K mg base T clos a c' A outer s (iR H a)) [] (cvs.map some++vs.map some) (iR H a) { s with heap:=h₁,toks:=tk }:=by
 have clen:=IG cap
 have cells:∀ x c,clos.lookup x=some c->∃ o u,H c=some (.frz o (.own a))/\o.data=.cell (some u):=fun x c e=>by
  obtain⟨i,hi⟩:=qf (dom x c e)
  obtain⟨v,cl,o,u,_,l,k,d,_⟩:=AA cap hi
  rw[e]at l;cases l
  exact⟨o,u,k,d⟩
 have hcl:∀{c o u},H c=some (.frz o (.own a))->o.data=.cell (some u)->h₁.IsCell c (some u):=fun{c o u} k d=>⟨o,hk _ _ (e0.bN c _ k).1,d⟩
 have noA:∀ b:Addr,b∉(QN P w K mg base T clos a c' A outer s (iR H a)).ex:=fun b z=>absurd (show b∈([]:List Addr)from z) (by simp)
 refine⟨⟨e0.mod,S.kind,rfl,rfl,av _,inj,fun y hy=>?_,fun y c z _=>(nomatch (show false=true from z)),fun _=>hd,v8 e0.frames,.inr ⟨rfl,rfl⟩,fun b z=>absurd z (noA b),fun b o e=>⟨(e0.bs b o e).1,lA (e0.bs b o e).2⟩,e0.bsz,fun b _ _=>noA b,fun b z=>absurd z (noA b),e0.kO,fun b z=>lA (e0.frf b z)⟩,
  rfl,e0.bare,Un.kept hk,⟨_,hns,fun i y v h1 h2 h3=>?_⟩,fun y c h=>?_,lA (e0.bN.fresh (av _)),fun y c h=>?_,fun p hp=>absurd (show p∈([]:List (Addr×Obj))from hp) (by simp),(XB e0.bN).kept hk,?_⟩
 ·have hy:T.scope.names.lookup y=some .cell∨T.scope.names.lookup y=some .free:=hy
  rcases hy with hy|hy
  ·exact absurd rfl (S.nc _ (gx hy))
  ·obtain⟨i,hi⟩:=qf (S.fr y hy)
   obtain⟨_,cl,_,_,_,l,_⟩:=AA cap hi
   exact⟨cl,l⟩
 ·by_cases hi:i<T.aK.length
  ·have h1':T.aK[i]? = some y:=by
    have h1:(T.aK++T.ps)[i]? = some y:=h1
    rwa [c9 hi]at h1
   obtain⟨v',cl,o,u,e1,l,k,d,rv⟩:=AA cap h1'
   rw[c9 (by rw[ab,<-clen];exact hi),be,e1]at h2
   cases h2
   exact⟨u,rv,.inr ⟨.inr (S.cf y (bf h1')),cl,l,hcl k d⟩⟩
  ·have h1':T.ps[i-T.aK.length]? = some y:=by
    have h1:(T.aK++T.ps)[i]? = some y:=h1
    rwa [du (by omega)]at h1
   have h2':vs[i-T.aK.length]? = some v:=by
    rw[du (by rw[ab,<-clen];omega),ab,<-clen,be]at h2
    cases e:vs[i-T.aK.length]? with
    |none=>rw[e]at h2;cases h2
    |some z=>rw[e]at h2;cases h2;rfl
   obtain⟨u,hu,rv⟩:=r.get h2'
   have ndp:T.ps.Nodup:=(List.nodup_append.mp S.nd).2.1
   refine⟨u,rv,.inl ⟨S.lo y (bf h1'),?_⟩⟩
   exact wI ndp h1' hu
 ·obtain⟨o,u,k,d⟩:=cells y c h
  exact⟨some u,hcl k d⟩
 ·obtain⟨o,u,k,d⟩:=cells y c h
  exact rU k
 ·show _=(T.aK++T.ps).length
  rw[bg,bg,ab,ab,clen,hl]
end
section
variable {P:br}{w:dg}{K:aa}{mg:Str->Option af}{base:Heap}
theorem YJ {G:Prog}{k r f n:Nat}{T:jS}{x:Ex}(hT:LT f=some T)(S:MW T)(hG:G.fns f=some ⟨n,n,[.ret x]⟩)(hn:n=T.aK.length+T.ps.length)
  (hbind:∀(clos:List (Str×Addr))(pm:af)(c':Addr)(ctv:af)(us:List af),us.length=T.ps.length->Qx (PySem.W.kla_fn "<lambda>" T.q T.params T.body T.scope clos pm (.ref c') ctv) ⟨us,[]⟩=pure (T.ps.zip us))
  (hb:∀(clos:List (Str×Addr))(a c':Addr)(A:cp)(outer:List Env)(s:ah)(H:Hp),cR r (A.deeper (qy T.q T.scope s.heap.objs.size a (.ref c') clos))->JE (QN P w K mg base T clos a c' A outer s H) (aJ G k) G.sub (fun _ _=>False) T.body x):
  nK P w K mg base (r+1) (aJ G (k+1)) f:=by
 intro A outer s H a us vs cvs ds cs st R Q E hr e0 hF eV ok rc rd rv hC hQ
 obtain⟨T',clos,pm,ctv,c',oc,ne0,t,e,ec,co,inj,dom,cap⟩:=hF
 rw[hT]at t;cases t
 simp only[aJ,hG]at hC
 have clen:=IG cap
 have hlen:(cs++ds).length=n:=hC.1
 have hl:vs.length=T.ps.length:=by
  have h1:=rd.length
  have h2:=rc.length
  rw[bg]at hlen;omega
 have hus:us.length=T.ps.length:=by rw[<-rv.length];exact hl
 obtain⟨vs0,t0,co1,co2⟩:=co
 have lim:s.heap.NoLimit:=e0.mod.nolimit.keeps fun b o z=>(e0.bs b o z).1
 refine PySem.W.kla_callFunE hr.depth (e0.bN a _ e).1 rfl S.co S.gen rfl ⟨c',oc,vs0,t0,rfl,(e0.bN c' _ ec).1,co1,co2⟩ ?_
 rw[hbind clos pm c' ctv us hus]
 refine ak (wk S.nc (fun y hy=>S.lo y.1 (j7 hy).1) (fun h₁ hns hsb=>⟨lim.fresh _ hsb,?_⟩) S.kind)
 show ku _ _ (.expr T.body (qy T.q T.scope s.heap.objs.size a (.ref c') clos)) _ _
 have hk:∀ b o,s.heap.get? b=some o->h₁.get? b=some o:=fun b o z=>hsb.extBut b o (bz (bc z)) (ag _ z)
 refine PySem.W.kla_codeExpr ?_
 have I:=XF (P:=P) (w:=w) (c':=c') (tk:=s.toks+(T.ps.zip us).length) S hr.hd e0 inj dom cap hl rv hns hk
 have hq:aE (aJ G k) G.sub (fun _ _=>False) x (start n n (cs++ds)) st R:=by
  have:=hC.2
  simp only[cO,wpS]at this
  exact this
 have est:start n n (cs++ds)=cs.map some++ds.map some:=by simp [start]
 have hsr:dA K (iR H a) (start n n (cs++ds)) (cvs.map some++vs.map some):=by
  have rr:aH K (iR H a) (cs++ds) (cvs++vs):=(rc.append rd).to OW
  rw[est,<-b9,<-b9]
  refine⟨by rw[ab,ab,rr.length],fun i d e=>?_⟩
  rw[be,dz]at e
  obtain⟨d',e1,e2⟩:=e
  cases e2
  obtain⟨v,e3,e4⟩:=rr.get e1
  exact⟨v,by rw[be,e3];rfl,e4⟩
 have key:=(hb clos a c' A outer s (iR H a) (hr.deeper _)).h [] _ _ (iR H a) (fun v H'=>QD K (iR H a) st R v H') I ⟨start n n (cs++ds),st,R,hsr,WJ OW ne0 ok eV,hq,fun v H' z=>z⟩
 refine jw key (fun u s' z=>?_) fun e s' z=>z.elim
 obtain⟨v,H',J,bB,d,aB,s1,aM,r1,q1⟩:=z
 have jb:Un (tB outer) [] (iR H a) H' s.heap s'.heap:=J.base
 have nc:∀{b y},H' b=some y->∀ o,H b≠some (.frz o (.own a)):=fun{b y} h o z=>by
  have:=jb.free b o (e0.bN b _ z).1 (rU z) (by simp)
  rw[h]at this;cases this
 have aF:Step H' aB (yN H H' a) aB:=fun b o eb n=>⟨by rw[gN (nc eb)];exact eb,n⟩
 refine⟨v,yN H H' a,J.os,J.bare,⟨fun b o q n hb hx=>jb.keep b o q (lA n) hb hx,fun b o q n hb hx=>jb.slot b o q (lA n) hb hx,fun b o q n hx=>?_,fun b o q hx=>jb.there b o q hx,fun b xs q=>?_,fun b o u q=>?_,fun b ps q=>?_⟩,fun b o e=>?_,bB,hQ v _ ⟨d,aB,fun b o eb n=>?_,fun b o e=>?_,r1.step aM aF,q1⟩⟩
 ·rw[gN (fun o z=>by rw[n]at z;cases z)];exact jb.free b o q (lA n) hx
 ·rw[gN (fun o z=>by rw[q]at z;cases z)];exact jb.qH b xs (pX q (fun _ z=>nomatch z))
 ·rcases oA H a b with⟨o',e',_⟩|⟨n,e'⟩
  ·rw[A1 e',<-e'];exact q
  ·rw[gN n];exact jb.mR b o u (by rw[e'];exact q)
 ·obtain⟨more,z⟩:=jb.oV b ps (pX q (fun _ z=>nomatch z))
  exact⟨more,by rw[gN (fun o z=>by rw[q]at z;cases z)];exact z⟩
 ·rcases oA H a b with⟨o',e',_⟩|⟨n,e'⟩
  ·rw[A1 e']at e;cases e
   have g:=jb.keep b o' (e0.bN b _ e').1 (rU e') (fun z=>by rw[e0.frf b z]at e';cases e') (by simp)
   exact⟨g,o',g⟩
  ·rw[gN n]at e
   exact(J.bN b o e).nF (fun _ _ _ q=>q) (fun b' q=>by rw[gN (nc q)];exact q) fun b' xs q=>by rw[gN (nc q)];exact q
 ·rcases oA H a b with⟨o',e',_⟩|⟨n',e'⟩
  ·refine⟨by rw[A1 e',<-e'];exact eb,aM.fresh ?_⟩
   exact jb.free b o' (e0.bN b _ e').1 (rU e') (by simp)
  ·obtain⟨h1,h2⟩:=s1 b o (by rw[e'];exact eb) n
   exact⟨by rw[gN n'];exact h1,h2⟩
 ·have h:=aM b o e
  obtain⟨o',h1,_⟩:=h.bears
  exact h.step aM aF (gN (nc h1))
end
set_option tactic.hygienic true in
theorem HR {σ:St}{i:Nat}{Q:D->Prop}(h:eF σ i Q):∃ d,σ[i]? = some (some d)/\Q d:=by
 unfold eF at h
 split at h
 ·rename_i d e;exact⟨d,e,h⟩
 ·exact h.elim
set_option tactic.hygienic true in
theorem LQ {d:D}{st:aA}{K:Nat->Nat->List D->Prop}(h:wJ d st K):∃ a f cs,d=.ref a/\st a=some (.fn f cs)/\K a f cs:=by
 cases d<;>first|exact d5 h|skip
 rename_i a
 unfold wJ at h
 simp only at h
 split at h
 ·rename_i f cs e;exact⟨a,f,cs,rfl,e,h⟩
 ·exact h.elim
theorem AJ {st:aA}{a:Nat}:del st a a=none:=by unfold del;rw[if_pos rfl]
theorem A0 {st:aA}{a b:Nat}(h:b≠a):del st a b=st b:=by unfold del;rw[if_neg h]
theorem KQ {st:aA}{a b:Nat}{o:MO}(h:del st a b=some o):st b=some o/\b≠a:=by
 by_cases z:b=a
 ·rw[z,AJ]at h;cases h
 ·rw[A0 z]at h;exact⟨h,z⟩
section
variable {X:Cx}{C:bC}{sub:Nat->Nat->Bool}{i k:Nat}{x:Str}{p pos:Pos}{e:Expr}{es:List Expr}{xs:List Ex}{E0:L2.XK}
theorem K7 {H:Hp}{h:Heap}{P:br}{w:dg}{a:Addr}{f:Nat}{vs:List V}(ok:gQ P w H h)(F:VJ H a f vs):PySem.W.FnAt a h:=by
 obtain⟨T,clos,pm,ctv,c',oc,_,_,e,_⟩:=F
 exact⟨_,_,_,_,(ok a _ e).1⟩
theorem Mc (hL:∀ f T,LT f=some T->nK X.prog X.w X.K X.mg X.base k C f)(hr:cR k X.A)(hN:X.N[i]? = some x)(hv:U9 X.env.scope x)(hx:oH dB X E0)(ha:PA X (e::es) (jB X.K (bG C sub (fun _ _=>False) xs)))
  (hd:(x==("__debug__" : Str))=false)(hcd:(x==("__classdict__" : Str))=false)(he:ai (e::es) X.env=(false,eval e X.env)::ai es X.env)(dC:(dh pos (ai es X.env)).any (·.1)=false):
  PE X (.Call (.Name x p) (e::es) [] pos) (bR X.K (aE C sub (fun _ _=>False) (.cv i xs))):=by
 intro pz s σ H Q I ⟨σd,st,R,r,ok,q,hq⟩
 obtain⟨d,ed,q0,q⟩:=HR q
 obtain⟨a,f0,cs0,rfl,ea0,_⟩:=LQ q0
 obtain⟨v,ev,rep⟩:=r.2 i _ ed
 cases rep.cJ
 obtain⟨cvs0,F0,_⟩:=ok a _ ea0
 refine dt (aY (PB hN hv hd hcd pz s σ H (fun v' H1=>v'=.ref a/\H1=H) I ⟨_,ev,rfl,rfl⟩) fun u s1 z=>?_)
 obtain⟨v',H1,I1,rv,rfl,rfl⟩:=z
 obtain rfl:u=gf a:=rv
 refine PySem.W.callWith_F (K7 I1.bN F0) (aY (ha pos pz s1 σ H1 _ I1 ⟨σd,st,_,r,ok,q,fun vs H2 z=>z⟩) fun us s2 z=>?_) he dC
 obtain⟨vs,H2,I2,rvs,ds,aF,cQ,bQ,rds,q3⟩:=z
 obtain⟨a',f,cs,e1,ea,q4⟩:=LQ q3
 cases e1
 have hO:=bQ a _ ea
 obtain⟨cvs,F,rcs⟩:=id hO
 refine⟨K7 I2.bN F,?_⟩
 have okd:aN X.K (del aF a) H2:=fun b o e=>bQ b o (KQ e).1
 have hT:∃ T,LT f=some T:=by obtain⟨T,_,_,_,_,_,_,t,_⟩:=F;exact⟨T,t⟩
 obtain⟨T,hT⟩:=hT
 refine uu (kx (hL f T hT X.A X.stack s2 H2 a us vs cvs ds cs (del aF a) _ Q E0 hr I2.L9 F AJ okd rcs rds rvs q4 fun v H' z=>?_) fun r s' hq=>?_)
 ·obtain⟨d2,bK,s3,vA,r3,q5⟩:=z
  obtain⟨oa,ha1,_⟩:=hO.bears
  have h3:=s3 a oa ha1 AJ
  refine hq v H' (.after cQ ⟨d2,put bK a (.fn f cs),fun b o eb n=>?_,fun b o e=>?_,r3,q5⟩)
  ·have ba:b≠a:=fun z=>by rw[z,ea]at n;cases n
   obtain⟨h1,h2⟩:=s3 b o eb (by rw[A0 ba];exact n)
   exact⟨h1,by rw[aU ba];exact h2⟩
  ·by_cases ba:b=a
   ·subst ba
    rw[aV]at e;cases e
    exact hO.step okd s3 (by rw[h3.1,ha1])
   ·rw[aU ba]at e;exact vA b o e
 ·cases r with
  |error e=>exact hx pz σ H2 s2 e s' I2 hq
  |ok fl =>
   cases fl with
   |ret u=>exact I2.after hq
   |next=>exact d5 hq
   |brk=>exact d5 hq
   |cont=>exact d5 hq
end
theorem EY {σ:St}:∀{is:List Nat}{Q:List D->Prop},pF σ is Q->∃ cs,cs.length=is.length/\(∀(j i:Nat),is[j]? = some i->∃ d,σ[i]? = some (some d)/\cs[j]? = some d)/\Q cs
 |[],Q,h=>⟨[],rfl,fun j i e=>by simp at e,h⟩
 |i::is,Q,h=>by
  obtain⟨d,e,h⟩:=HR h
  obtain⟨cs,l,g,q⟩:=EY (is:=is) h
  refine⟨d::cs,by simp [l],fun j i' e'=>?_,q⟩
  cases j with
  |zero=>simp at e';subst e';exact⟨d,e,rfl⟩
  |succ j=>exact g j i' (by simpa using e')
inductive mK (h:Heap)(cells:List (Str×Addr)):List Str->List V->Prop where
 |nil:mK h cells [] []
 |cons {x:Str}{xs:List Str}{v:V}{vs:List V}(cl:Addr)(o:Obj)(u:af)(l:cells.lookup x=some cl)(k:h.get? cl=some o) (d:o.data=.cell (some u)) (r:RelV v u) (t:mK h cells xs vs):mK h cells (x::xs) (v::vs)
section
variable {X:Cx}{pz:List (Addr×Obj)}{σ:L2.St}{H:Hp}{s:ah}{σd:St}
theorem BZ (I:Inv X pz σ H s)(r:dA X.K H σd σ):∀(xs:List Str)(aK:List Nat)(cs:List D),(∀(j:Nat)(x:Str),xs[j]? = some x->∃ i,aK[j]? = some i/\X.N[i]? = some x/\X.env.scope.names.lookup x=some .cell)->xs.length=aK.length->cs.length=aK.length->(∀(j i:Nat),aK[j]? = some i->∃ d,σd[i]? = some (some d)/\cs[j]? = some d) ->
  ∃ cvs,aH X.K H cs cvs/\mK s.heap X.env.cells xs cvs
 |[],[],[],_,_,_,_=>⟨[],.nil,.nil⟩
 |x::xs,c::aK,d::cs,hx,h1,h2,hg=>by
  obtain⟨cvs,rr,cc⟩:=BZ I r xs aK cs (fun j y e=>by simpa using hx (j+1) y (by simpa using e)) (by simpa using h1) (by simpa using h2) (fun j i e=>by simpa using hg (j+1) i (by simpa using e))
  obtain⟨i,e1,e2,e3⟩:=hx 0 x rfl
  cases e1
  obtain⟨d',e4,e5⟩:=hg 0 c rfl
  cases e5
  obtain⟨v,e6,e7⟩:=r.2 c d e4
  obtain⟨m,hn,hl⟩:=I.loc
  obtain⟨u,rv,l⟩:=hl c x v e2 e6 (.inr (.inl e3))
  rcases l with⟨hk,_⟩|⟨_,cl,hc,o,ho,hd⟩
  ·have hk:X.env.scope.names.lookup x=some .local:=hk
   rw[e3]at hk;cases hk
  ·exact⟨v::cvs,.cons e7 rr,.cons cl o u hc ho hd rv cc⟩
 |[],_::_,_,_,h1,_,_=>by simp at h1
 |_::_,[],_,_,h1,_,_=>by simp at h1
 |[],[],_::_,_,_,h2,_=>by simp at h2
 |_::_,_::_,[],_,_,h2,_=>by simp at h2
end
theorem NH {h h':Heap}{cells:List (Str×Addr)}{xs:List Str}{vs:List V}(c:mK h cells xs vs)(k:∀ x cl o u,cells.lookup x=some cl->h.get? cl=some o->o.data=.cell u->h'.get? cl=some o):mK h' cells xs vs:=by
 induction c with
 |nil=>exact .nil
 |cons cl o u l q d r t ih=>exact .cons cl o u l (k _ _ _ _ l q d) d r ih
noncomputable def Q3 (clos:List (Str×Addr))(xs:List Str):List Addr:=xs.filterMap fun x=>clos.lookup x
noncomputable def iQ (H:Hp)(h:Heap)(a:Addr)(fo:Obj)(l:List Addr):Hp:=fun b=>if b=a then some (.frz fo (.frz fo (.own a)))else if b∈l then(h.get? b).map fun o=>.frz o (.own a)else H b
noncomputable def yE (H:Hp)(l:List Addr):Hp:=fun b=>if b∈l then none else H b
section
variable {H:Hp}{h:Heap}{a b:Addr}{fo:Obj}{l:List Addr}
theorem HN:iQ H h a fo l a=some (.frz fo (.frz fo (.own a))):=by unfold iQ;rw[if_pos rfl]
theorem HK {o:Obj}(n:b≠a)(m:b∈l)(e:h.get? b=some o):iQ H h a fo l b=some (.frz o (.own a)):=by unfold iQ;rw[if_neg n,if_pos m,e];rfl
theorem vN (n:b≠a)(m:b∉l):iQ H h a fo l b=H b:=by unfold iQ;rw[if_neg n,if_neg m]
theorem RC (m:b∈l):yE H l b=none:=by unfold yE;rw[if_pos m]
theorem pS (m:b∉l):yE H l b=H b:=by unfold yE;rw[if_neg m]
theorem J5 {clos:List (Str×Addr)}{xs ys:List Str}{vs:List V}(c:mK h clos xs vs)(na:∀ x cl,clos.lookup x=some cl->cl≠a)(sub:∀ x∈xs,x∈ys):iT (iQ H h a fo (Q3 clos ys)) a clos xs vs:=by
 induction c with
 |nil=>exact .nil
 |cons cl o u l q d r t ih =>
 refine .cons cl o u l (HK (na _ _ l) ?_ q) d r (ih fun x hx=>sub x (cg _ hx))
 exact List.mem_filterMap.mpr ⟨_,sub _ (de ..),l⟩
end
def rO (mg:Str->Option af)(base:Heap):Prop:=∃ bm ob,mg "__builtins__" = some (.ref bm)/\bm≠builtinsNs/\base.get? bm=some ob/\ob.cls=.type "module" /\ ob.dict=some xy/\ob.data=.plain
section
variable {X:Cx}{pz:List (Addr×Obj)}{σ:L2.St}{H:Hp}{s:ah}
theorem RL {P:Addr}{κ:CK}{T:jS}{clos:List (Str×Addr)}{lpos:Pos}{Q:af->ah->Prop}{E:af->ah->Prop}(I:Inv X pz σ H s)(hR:NN X.K H P κ)(hBm:rO X.mg X.base)(hq:T.q=X.env.qual ++"<lambda>")(hκ:T.q=⟨κ.q.toArray⟩)(hln:κ.ln=lpos.line)(hcol:κ.col=lpos.col)(hcode:X.env.code=.ref κ.c)
  (hcl:yh T.scope X.env=pure clos)(hdef:Ri T.params X.env=([],[]))
  (h:∀(pm ctv:af)(c' a:Addr)(oc:Obj)(s':ah)(H':Hp),Inv X pz σ H' s'->s'.os=s.os->s'.heap.get? a=some (n4 "<lambda>" T.q T.params T.body T.scope clos pm c' ctv)->H' a=none->H a=none->s.heap.objs.size<=a->H' c'=some (.frz oc (.own 0))->MH oc T.q->NN X.K H' P κ ->
   (∀ b y,b≠P->H b=some y->H' b=some y)->(∀ b o,b≠P->s.heap.get? b=some o->s'.heap.get? b=some o)->Q (.ref a) s'):
  wpAny (model X.prog X.w) X.A (eval (.Lambda T.params T.body T.scope lpos) X.env) Q E s:=by
 obtain⟨hhd,hps⟩:=hR
 have hg:s.heap.Ns cw X.mg:=I.mod.glob.keeps I.bk
 have C:PySem.W.CodeHd s.heap κ.c P:=xj I.iN hhd
 have hPs:∃ ps,H P=some (.tbl ps):=by
  rcases hps with q|⟨_,_,q,_⟩
  ·exact⟨_,q⟩
  ·exact⟨_,q⟩
 have hne:∀{b:Addr}{o:Obj},X.base.get? b=some o->b≠P:=fun{b o} e z=>by
  obtain⟨ps,q⟩:=hPs
  have:=(I.bs b o e).2
  rw[z,q]at this;cases this
 have hgP:mainGlobals≠P:=by
  obtain⟨o,_,_,e,_⟩:=I.mod.glob
  exact hne e
 have hB:s.heap.BuiltinsAt X.mg P:=by
  obtain⟨bm,ob,b1,b2,b3,b4,b5,b6⟩:=hBm
  refine⟨bm,ob,b1,b2,fun z=>?_,hne b3,I.bk _ _ b3,b4,b5,b6⟩
  obtain⟨o,es,ep,e,hd,_⟩:=I.mod.glob
  rw[z,e]at b3;cases b3;rw[hd]at b6;cases b6
 refine PySem.W.kla_eval hdef ?_
 rw[<-hq]
 rcases hps with q|⟨c',oc,q,ec,co⟩
 ·have hP:s.heap.get? P=some (Rj #[]):=I.bN P _ q
  refine PySem.W.kla_makeFunction (mg:=X.mg) hcl I.ok.glob hg hcode C hP fz rfl hgP hB fun c' ctv h' tk hx hge eB hrec htb=>?_
  obtain⟨c2,oc,vs,t,e2,hoc,hd,hv⟩:=hrec
  cases e2
  have hc0:H c'=none:=I.bN.fresh hge
  have cP:c'≠P:=fun z=>by rw[z,q]at hc0;cases hc0
  have hszle:s.heap.objs.size<=h'.objs.size:=bu hge (me eB)
  have ha0:H h'.objs.size=none:=I.bN.fresh hszle
  have aP:h'.objs.size≠P:=fun z=>by rw[z,q]at ha0;cases ha0
  have ac:h'.objs.size≠c':=mh eB
  have ko:∀ b o,b≠P->s.heap.get? b=some o->(h'.push (n4 "<lambda>" T.q T.params T.body T.scope clos ((X.mg "__name__").getD .none) c' ctv)).get? b=some o:=fun b o n e=>ag _ (hx b o n e)
  have kH:∀ b y,b≠P->H b=some y->upd (upd H P (.tbl #[gd lpos.line,gd lpos.col,.ref c'])) c' (.frz oc (.own 0)) b=some y:=fun b y n e=>by
   rw[bA (fun z=>by rw[z,hc0]at e;cases e),bA n];exact e
  have kN:∀ b,b≠P->b≠c'->H b=none->upd (upd H P (.tbl #[gd lpos.line,gd lpos.col,.ref c'])) c' (.frz oc (.own 0)) b=none:=fun b n n' e=>by rw[bA n',bA n];exact e
  have hPn:upd (upd H P (.tbl #[gd lpos.line,gd lpos.col,.ref c'])) c' (.frz oc (.own 0)) P=some (.tbl #[gd lpos.line,gd lpos.col,.ref c']):=by rw[bA cP.symm,cS]
  have nP:∀{b},H b=none->b≠P:=fun{b} n z=>by rw[z,q]at n;cases n
  refine h _ ctv c' h'.objs.size oc _ _ (I.un (t':=tk) (H':=upd (upd H P (.tbl #[gd lpos.line,gd lpos.col,.ref c'])) c' (.frz oc (.own 0))) ⟨fun b o e n _ _=>ko b o (nP n) e,fun b o e n _ _=>⟨o.slots,ko b o (nP n) e⟩,fun b o e n _=>kN b (nP n) (bz (bq (bc e) hge)) n,fun b o e _=>?_,fun b xs e=>kH b _ (fun z=>by rw[z,q]at e;cases e) e,fun b o u e=>kH b _ (fun z=>by rw[z,q]at e;cases e) e,fun b ps e=>?_⟩ (fun b o e=>?_)) rfl (aw _ rfl) (kN _ aP ac ha0) ha0 hszle cS ⟨vs,t,hd,hv⟩ ⟨hhd,.inr ⟨c',oc,?_,cS,by rw[<-hκ];exact⟨vs,t,hd,hv⟩⟩⟩ kH ko
  ·by_cases z:b=P
   ·subst z;exact⟨_,ag _ htb⟩
   ·exact⟨o,ko b o z e⟩
  ·by_cases z:b=P
   ·subst z
    rw[q]at e;cases e
    exact⟨#[gd lpos.line,gd lpos.col,.ref c'],hPn⟩
   ·exact⟨#[],by rw[kH b _ z e];simp⟩
  ·by_cases z:b=c'
   ·subst z
    rw[cS]at e;cases e
    exact⟨Heap.get?_push_of_some _ hoc,oc,ag _ hoc⟩
   ·rw[bA z]at e
    by_cases z2:b=P
    ·subst z2
     rw[cS]at e;cases e
     exact ag _ htb
    ·rw[bA z2]at e
     refine(I.bN b o e).nF (fun c v hc w=>ko c v ?_ w) (fun b' w=>kH b' _ (fun z=>by rw[z,q]at w;cases w) w) fun b' xs w=>kH b' _ (fun z=>by rw[z,q]at w;cases w) w
     rcases hc with rfl|hc
     ·exact z2
     ·exact fun z=>by rw[z,q]at hc;cases hc
  ·rw[hPn,hln,hcol]
 ·have hP:s.heap.get? P=some (Rj #[gd κ.ln,gd κ.col,.ref c']):=I.bN P _ q
  have hf:codeAmong lpos (#[gd κ.ln,gd κ.col,.ref c']:Array af).toList=some (.ref c'):=by rw[hln,hcol];simp [codeAmong,gd]
  refine PySem.W.kla_makeFunctionHit (mg:=X.mg) hcl I.ok.glob hg hcode C hP fz hf hB fun ctv h' tk hk iD=>?_
  have ha0:H h'.objs.size=none:=I.bN.fresh iD
  refine h _ ctv c' h'.objs.size oc _ H (I.kept (t':=tk) fun b o e=>ag _ (hk b o e)) rfl (aw _ rfl) ha0 ha0 iD ec (by rw[hκ];exact co) ⟨hhd,.inr ⟨c',oc,q,ec,co⟩⟩ (fun _ _ _ e=>e) fun b o _ e=>ag _ (hk b o e)
end
theorem L7 {h:Heap}{cells clos:List (Str×Addr)}{xs:List Str}{vs:List V}(c:mK h cells xs vs)(k:∀ x∈xs,clos.lookup x=cells.lookup x):mK h clos xs vs:=by
 induction c with
 |nil=>exact .nil
 |cons cl o u l q d r t ih=>exact .cons cl o u (by rw[k _ (de ..)];exact l) q d r (ih fun x hx=>k x (cg _ hx))
set_option tactic.hygienic true in
theorem GQ {cells:List (Str×Addr)}{L:List Str}:∀(names:List (Str×NameKind))(cs:List (Str×Addr)){x:Str}{c:Addr},(∀ p∈names,p.2=.free->p.1∈L)->(∀ x c,cs.lookup x=some c->x∈L)->(jX cells names cs).lookup x=some c->x∈L
 |[],cs,x,c,_,h,e=>h x c e
 |(n,k)::r,cs,x,c,hn,h,e=>by
  simp only[jX]at e
  refine GQ r _ (fun p hp=>hn p (cg _ hp)) (fun y d ed=>?_) e
  split at ed
  ·rename_i hk
   rw[c5]at ed
   split at ed
   ·rename_i q
    have q:y=n:=by simpa using q
    rw[q];exact hn (n,k) (de ..) (by simpa using hk)
   ·exact h y d ed
  ·exact h y d ed
theorem OJ {h:Heap}{cells:List (Str×Addr)}{xs:List Str}{vs:List V}(c:mK h cells xs vs):∀ x∈xs,∃ cl o u,cells.lookup x=some cl/\h.get? cl=some o/\o.data=.cell (some u):=by
 induction c with
 |nil=>intro x hx;cases hx
 |cons cl o u l q d r t ih =>
 intro x hx
 rcases List.mem_cons.mp hx with rfl|hx
 ·exact⟨cl,o,u,l,q,d⟩
 ·exact ih x hx
section
variable {X:Cx}{C:bC}{sub:Nat->Nat->Bool}{k fid g:Nat}{f:Addr}{fd:gw}{ps:List Str}{n:Str}{p pos lpos:Pos}{e1 e2:Expr}{x1 x2:Ex}{T:jS}{aK:List Nat}{κ:CK}
theorem XC (F:fJ X.prog X.w X.K X.mg X.base dB k f fd ps (fO X.K C fid))(hr:cR k X.A)(hg:Gl X n)(hm:X.mg n=some (.ref f))(hk:fe X.K (.ref f)=true)(hb:Binds X.K fd ps [])
  (h2:PE X e2 (bR X.K (aE C sub (fun _ _=>False) x2)))(hBm:rO X.mg X.base)(hT:LT g=some T)(hq:T.q=X.env.qual ++"<lambda>")(hκ:T.q=⟨κ.q.toArray⟩)(hln:κ.ln=lpos.line)(hcol:κ.col=lpos.col)(hcode:X.env.code=.ref κ.c)
  (hfn:∀ x,X.fn x=true)(hfree:∀ p∈T.scope.names,p.2=.free->p.1∈T.aK)(hcapf:∀ x∈T.aK,T.scope.names.lookup x=some .free)(hcap:∀(j:Nat)(x:Str),T.aK[j]? = some x->∃ i,aK[j]? = some i/\X.N[i]? = some x/\X.env.scope.names.lookup x=some .cell)(hlen:T.aK.length=aK.length)
  (hdef:Ri T.params X.env=([],[]))(hdb:(n==("__debug__" : Str))=false)(he:ai [e2,.Lambda T.params T.body T.scope lpos] X.env=[(false,eval e2 X.env),(false,eval (.Lambda T.params T.body T.scope lpos) X.env)])(he2:ai [.Lambda T.params T.body T.scope lpos] X.env=[(false,eval (.Lambda T.params T.body T.scope lpos) X.env)]):
  PE X (.Call (.Name n p) [e2,.Lambda T.params T.body T.scope lpos] [] pos) (bR X.K (aE C sub (fun _ _=>False) (.callL fid [x2] g aK κ))):=by
 intro pz s σ H Q I ⟨σd,st,R,r,ok,q,hq0⟩
 refine dt (yH I hg hm ?_ hdb)
 refine n6 (h₀:=X.base) I.ok.mod.kK hk ?_ (by rw[he,he2]) (by rw[he2];rfl)
 rw[he]
 show wpAny _ _ (w5 [(false,eval e2 X.env),(false,eval (.Lambda T.params T.body T.scope lpos) X.env)]) _ _ s
 refine jx (aY (h2 pz s σ H _ I ⟨σd,st,_,r,ok,q,fun v H' z=>z⟩) fun u2 s2 z=>?_)
 obtain⟨v2,H2,I2,rv2,d2,aF,ss2,bQ,rd2,q2⟩:=z
 have r2:=r.step ok ss2
 obtain⟨⟨P,eP⟩,q3⟩:=q2
 obtain⟨cs,cl1,cl2,q4⟩:=EY q3
 obtain⟨cvs,rcs,cH⟩:=BZ I2 r2 T.aK aK cs hcap hlen cl1 cl2
 have hcellsX:∀ p∈T.scope.names,p.2=.free->∃ c,X.env.cells.lookup p.1=some c:=fun p hp hf=>by
  obtain⟨j,hj⟩:=qf (hfree p hp hf)
  obtain⟨i,_,_,e⟩:=hcap j _ hj
  exact I2.ok.has _ (.inl e)
 generalize hclos:jX X.env.cells T.scope.names []=clos
 have hcl:yh T.scope X.env=pure clos:=by rw[<-hclos];exact oN hcellsX
 have csub:∀ x c,clos.lookup x=some c->X.env.cells.lookup x=some c:=fun x c e=>by rw[<-hclos]at e;exact jY _ _ hcellsX (fun _ _ z=>by simp at z) e
 have chas:∀ x∈T.aK,clos.lookup x=X.env.cells.lookup x:=fun x hx=>by
  obtain⟨c,e⟩:=uD (cells:=X.env.cells) T.scope.names [] (hcapf x hx)
  rw[hclos]at e
  rw[e,csub x c e]
 have cdom:∀ x c,clos.lookup x=some c->x∈T.aK:=fun x c e=>by
  rw[<-hclos]at e
  exact GQ T.scope.names [] (fun p hp hf=>hfree p hp hf) (fun x c z=>by simp at z) e
 have hCod:NN X.K H2 P κ:=bQ P _ eP
 refine jx (RL I2 hCod hBm hq hκ hln hcol hcode hcl hdef fun pm ctv c' a oc s3 H3' I3 os3 ea na na2 asz ec co hCod3 kH ko=>?_)
 refine l0 ⟨I3.iN,?_⟩
 obtain⟨psP,hP2⟩:∃ ps,H2 P=some (.tbl ps):=by
  obtain⟨_,z|⟨_,_,z,_⟩⟩:=hCod
  ·exact⟨_,z⟩
  ·exact⟨_,z⟩
 have sizeP:∀ x c,X.env.cells.lookup x=some c->H2 c=none/\H3' c=none/\c≠a/\c≠P:=fun x c e=>by
  have h2:=I2.jT x c e
  have h3:=I3.jT x c e
  obtain⟨v,o,ho,_⟩:=I2.cell x c e
  refine⟨h2,h3,fun z=>?_,fun z=>?_⟩
  ·have eB:=bc ho
   rw[z]at eB
   exact absurd (bq eB asz) (fj _)
  ·rw[z,hP2]at h2;cases h2
 have ne0:a≠0:=fun z=>by
  have eB:=I2.lt
  rw[z]at asz
  exact absurd (bq eB asz) (Nat.not_lt_zero _)
 have cH3:mK s3.heap clos T.aK cvs:=NH (L7 cH chas) fun x cl o u e h0 _=>ko cl o (sizeP x cl (csub x cl e)).2.2.2 h0
 generalize hfo:n4 "<lambda>" T.q T.params T.body T.scope clos pm c' ctv=fo at ea
 generalize hl:Q3 clos T.aK=l
 have lmem:∀ c∈l,∃ x o,X.env.cells.lookup x=some c/\s3.heap.get? c=some o:=fun c hc=>by
  rw[<-hl]at hc
  obtain⟨x,hx,e⟩:=List.mem_filterMap.mp hc
  obtain⟨cl,o,u,e2,e3,_⟩:=OJ cH3 x hx
  rw[e]at e2;cases e2
  exact⟨x,o,csub x c e,e3⟩
 have lH:∀ c∈l,H2 c=none/\H3' c=none/\c≠a/\c≠P:=fun c hc=>by
  obtain⟨x,_,e,_⟩:=lmem c hc
  exact sizeP x c e
 have nl:∀{b y},H3' b=some y->b≠a/\b∉l:=fun{b y} e=>⟨(fun z=>by rw[z,na]at e;cases e),(fun z=>by rw[(lH b z).2.1]at e;cases e)⟩
 have k3:∀{b y},H3' b=some y->iQ H3' s3.heap a fo l b=some y:=fun{b y} e=>by rw[vN (nl e).1 (nl e).2];exact e
 have k23:∀{b y},b≠P->H2 b=some y->iQ H3' s3.heap a fo l b=some y:=fun{b y} n e=>k3 (kH b y n e)
 have hst2:aF a=none:=bQ.fresh na2
 have stepS:Step H2 aF (iQ H3' s3.heap a fo l) (put aF a (.fn g cs)):=fun b o e nn=>by
  have ba:b≠a:=fun z=>by rw[z,na2]at e;cases e
  exact⟨k23 (fun z=>by rw[z,eP]at nn;cases nn) e,by rw[aU ba];exact nn⟩
 have e3:=I3.L9
 have vA:aN X.K (put aF a (.fn g cs)) (iQ H3' s3.heap a fo l):=fun b o e=>by
  by_cases ba:b=a
  ·subst ba
   rw[aV]at e;cases e
   refine⟨cvs,⟨T,clos,pm,ctv,c',oc,ne0,hT,by rw[hfo];exact HN,k3 ec,co,fun x y c h1 h2=>I2.ok.inj x y c (csub x c h1) (csub y c h2),cdom,?_⟩,rcs.step bQ stepS⟩
   rw[<-hl]
   exact J5 cH3 (fun x cl e=>(sizeP x cl (csub x cl e)).2.2.1) fun x hx=>hx
  ·rw[aU ba]at e
   by_cases bP:b=P
   ·subst bP
    rw[eP]at e;cases e
    obtain⟨z0,z|⟨c2,oc2,z1,z2,z3⟩⟩:=hCod3
    ·exact⟨z0,.inl (k3 z)⟩
    ·exact⟨z0,.inr ⟨c2,oc2,k3 z1,k3 z2,z3⟩⟩
   ·obtain⟨o',z,_⟩:=(bQ b o e).bears
    exact(bQ b o e).step bQ stepS (by rw[k23 bP z,z])
 have env3:rN X.prog X.w X.K X.mg X.base X.A X.stack s3 (iQ H3' s3.heap a fo l):=by
  refine⟨e3.frames,e3.mod,fun b o e=>⟨(e3.bs b o e).1,?_⟩,e3.bsz,e3.kO,fun b hb=>?_,fun b o e=>?_,e3.bare⟩
  ·have b1:b≠a:=fun z=>by
    have eB:=bc (I2.bk b o e)
    rw[z]at eB
    exact absurd (bq eB asz) (fj _)
   have b2:b∉l:=fun z=>by
    obtain⟨x,_,ex,_⟩:=lmem b z
    have eB:=bc (I2.ok.bs b o e).1
    exact absurd (bq eB (I2.ok.cab x b (hfn x) ex)) (fj _)
   rw[vN b1 b2];exact(e3.bs b o e).2
  ·have b1:b≠a:=fun z=>by
    obtain⟨_,o,ho,_⟩:=I2.stack.mem hb
    have eB:=bc ho
    rw[z]at eB
    exact absurd (bq eB asz) (fj _)
   have b2:b∉l:=fun z=>by
    obtain⟨x,_,ex,_⟩:=lmem b z
    rcases List.mem_cons.mp (I2.BX b hb)with e|hb
    ·exact I2.ET x b ex e
    ·obtain⟨_,o,ho,_⟩:=I2.ok.kO.mem hb
     exact absurd (bq (bc ho) (I2.ok.cab x b (hfn x) ex)) (fj _)
   rw[vN b1 b2];exact e3.frf b hb
  ·by_cases ba:b=a
   ·subst ba
    rw[HN]at e;cases e
    exact⟨ea,ea,fo,ea⟩
   ·by_cases bl:b∈l
    ·obtain⟨x,ob,_,eb⟩:=lmem b bl
     rw[HK ba bl eb]at e;cases e
     exact⟨eb,ob,eb⟩
    ·rw[vN ba bl]at e
     exact(I3.bN b o e).nF (fun _ _ _ q=>q) (fun b' q=>k3 q) fun b' xs q=>k3 q
 have rr:aH X.K (iQ H3' s3.heap a fo l) [d2,.ref a] [v2,.ref a]:=.cons (rd2.step bQ stepS) (.cons (.ref a) .nil)
 have vv:aO [v2,.ref a] [u2,.ref a]:=.cons rv2 (.cons rfl .nil)
 have hsp:fO X.K C fid [v2,.ref a] (iQ H3' s3.heap a fo l) (fun v H'=>QD X.K (iQ H3' s3.heap a fo l) (put aF a (.fn g cs)) (fun d aB=>R d (del aB a)) v H') E0:=⟨[d2,.ref a],_,_,rr,vA,q4 a hst2,fun v H' z=>z⟩
 have hlen3:([u2,.ref a]:List af).length=ps.length:=by rw[<-vv.length];exact F.len _ _ _ _ hsp
 refine uu (kx (F.run X.A X.stack s3 _ ⟨[u2,.ref a],[]⟩ [u2,.ref a] [v2,.ref a] _ E0 hr env3 (hb s3 [u2,.ref a] I3.iN (by rw[fh];exact hlen3)) vv hsp) fun rs s4 hq4=>?_)
 cases rs with
 |error e=>exact d5 hq4
 |ok fl =>
  cases fl with
  |next=>exact d5 hq4
  |brk=>exact d5 hq4
  |cont=>exact d5 hq4
  |ret u =>
   obtain⟨v,H4,os4,bare4,un,hok4,rv4,z4⟩:=hq4
   obtain⟨d,cN,s34,tH,r4,q5⟩:=z4
   have h4a:H4 a=some (.frz fo (.frz fo (.own a))):=un.mR a _ _ HN
   have h4l:∀ c∈l,∃ o,s3.heap.get? c=some o/\H4 c=some (.frz o (.own a))/\s4.heap.get? c=some o:=fun c hc=>by
    obtain⟨x,o,_,eo⟩:=lmem c hc
    have h:=un.mR c _ _ (HK (lH c hc).2.2.1 hc eo)
    exact⟨o,eo,h,(hok4 c _ h).1⟩
   have nb:∀{b y},H3' b=some y->b∉a::l:=fun{b y} e z=>by
    rcases List.mem_cons.mp z with z|z
    ·exact(nl e).1 z
    ·exact(nl e).2 z
   have keepO:∀ b o,s3.heap.get? b=some o->H3' b=none->(b∈a::l->s4.heap.get? b=some o):=fun b o e n z=>by
    rcases List.mem_cons.mp z with z|z
    ·subst z;rw[ea]at e;cases e;exact(hok4 b _ h4a).1
    ·obtain⟨o',e1,_,e2⟩:=h4l b z
     rw[e]at e1;cases e1;exact e2
   have lo:∀{b},b∉a::l->iQ H3' s3.heap a fo l b=H3' b:=fun{b} z=>vN (fun w=>z (by rw[w];exact de ..)) fun w=>z (cg _ w)
   have kp:Kp H4 (yE H4 (a::l)) a:=fun b y e n1 n2=>by
    rw[pS];·exact e
    intro z
    rcases List.mem_cons.mp z with z|z
    ·rw[z,h4a]at e;exact n2 _ _ (cy e).symm
    ·obtain⟨o,_,h,_⟩:=h4l b z
     rw[h]at e;exact n1 _ (cy e).symm
   have I4:Inv X pz σ (yE H4 (a::l)) s4:=by
    refine I3.UT (ch:=[]) os4 ⟨fun b o e n hb hx=>?_,fun b o e n hb hx=>?_,fun b o e n hx=>?_,fun b o e hx=>un.there b o e hx,fun b xs e=>?_,fun b o u e=>?_,fun b ps e=>?_⟩ (fun b o e=>?_) bare4 (fun b z=>absurd z (by simp))
    ·by_cases z:b∈a::l
     ·exact keepO b o e n z
     ·exact un.keep b o e (by rw[lo z];exact n) hb hx
    ·by_cases z:b∈a::l
     ·exact⟨o.slots,keepO b o e n z⟩
     ·exact un.slot b o e (by rw[lo z];exact n) hb hx
    ·by_cases z:b∈a::l
     ·exact RC z
     ·rw[pS z];exact un.free b o e (by rw[lo z];exact n) hx
    ·rw[pS (nb e)];exact un.qH b xs (k3 e)
    ·rw[pS (nb e)];exact un.mR b o u (k3 e)
    ·rw[pS (nb e)];exact un.oV b ps (k3 e)
    ·by_cases z:b∈a::l
     ·rw[RC z]at e;cases e
     ·rw[pS z]at e
      exact(hok4 b o e).nF (fun _ _ _ q=>q) (fun b' q=>kp b' _ q (fun _ z=>nomatch z) (fun _ _ z=>nomatch z)) fun b' xs q=>kp b' _ q (fun _ z=>nomatch z) (fun _ _ z=>nomatch z)
   refine⟨v,_,I4,rv4,hq0 v _ (.after ss2 ⟨d,del cN a,fun b o e nn=>?_,fun b o e=>?_,r4.to kp,q5⟩)⟩
   ·obtain⟨z1,z2⟩:=stepS b o e nn
    obtain⟨z3,z4⟩:=s34 b o z1 z2
    have ba:b≠a:=fun z=>by rw[z,na2]at e;cases e
    have bl:b∉a::l:=fun z=>by
     rcases List.mem_cons.mp z with z|z
     ·exact ba z
     ·rw[(lH b z).1]at e;cases e
    exact⟨by rw[pS bl];exact z3,by rw[A0 ba];exact z4⟩
   ·obtain⟨z1,z2⟩:=KQ e
    exact KU kp ne0 z2 (tH b o z1)
end
theorem QR {P:br}{w:dg}{K:aa}{mg mb:Str->Option af}{k:Nat}{fa a:Addr}{fd:gw}{x:Str}{sp:Sp}{s₁:ah}{vs:List af}{ns:List Int}{tabs:List (CK×Addr)}
  (KX:K.In s₁.heap)(hns:s₁.heap.Ns cw mg)(hb:s₁.heap.Ns xy mb)(hbb:∀ x:Str,x ≠"__name__" -> mb x=cz x)(hlim:s₁.heap.NoLimit)(hg:s₁.gens = #[])
  (hB:rO mg s₁.heap)(t1:∀ p∈tabs,s₁.heap.get? p.2=some { cls:=.none,data:=.fields #[] })(t2:∀ p∈tabs,pq K p.1.c p.2=true)(t3:∀ p∈tabs,K.lookup p.2=none)
  (ha:s₁.heap.get? a=some { cls:=.type "list", data:=.seq vs.toArray })(hi:Qs vs ns)(hl:ns.length<=sizeLine)(hr:cR k w8)
  (F:∀ base:Heap,K.In base->base.Ns cw mg->rO mg base->fJ P w K mg base dB k fa fd [x] sp)(hbind:∀(s:ah)(u:af),yp s fd ⟨[u],[]⟩ [(x,u)])
  (hsp:∀ H:Hp,(∀ p∈tabs,H p.2=some (.tbl #[]))->lF K H a (ns.map V.int)->sp [.ref a] H (fun v _=>v=.bl true) fun _ _ _=>False):
  ku (model P w) w8 (.call (.ref fa) ⟨[.ref a],[]⟩) (fun r s'=>r=.ok (.ret (.bool true))/\OldK s₁.heap s'.heap/\s'.os=s₁.os/\sy s'.gens) s₁:=by
 have rv:=DY hi
 have lenV:=hi.length
 have aT:∀ p∈tabs,p.2≠a:=fun p hp z=>by
  have:=t1 p hp
  rw[z,ha]at this;cases this
 have core:∀ H:Hp,(∀ p∈tabs,H p.2=some (.tbl #[]))->lF K H a (ns.map V.int)->gQ P w H s₁.heap->(∀ b,H b≠none->b=a∨∃ p∈tabs,b=p.2)->(∀ b u,H b=some u->(∃ o xs,u=.frz o xs)∨∃ p∈tabs,b=p.2)->(H a≠none->K.lookup a=none) ->
   ku (model P w) w8 (.call (.ref fa) ⟨[.ref a],[]⟩) (fun r s'=>r=.ok (.ret (.bool true))/\OldK s₁.heap s'.heap/\s'.os=s₁.os/\sy s'.gens) s₁:=by
  intro H hT hS bN hA hO hK
  have base_of:∀{b:Addr}{o:Obj},s₁.heap.get? b=some o->H b=none->(rQ s₁.heap H).get? b=some o:=fun e n=>S7 e n
  have noK:∀{b:Addr}{o:Obj},K.lookup b=some o->H b=none:=fun{b o} e=>by
   cases q:H b with
   |none=>rfl
   |some u =>
    rcases hA b (by rw[q];simp)with z|⟨p,hp,z⟩
    ·subst z
     rw[hK (by rw[q];simp)]at e;cases e
    ·subst z
     rw[t3 p hp]at e;cases e
  have noA:∀{b:Addr}{o:Obj},s₁.heap.get? b=some o->(∀ xs,o.data≠.seq xs)->(∀ ps,o.data≠.fields ps)->H b=none:=fun{b o} e d1 d2=>by
   cases q:H b with
   |none=>rfl
   |some u =>
    rcases hA b (by rw[q];simp)with z|⟨p,hp,z⟩
    ·subst z
     rw[ha]at e;cases e
     exact absurd rfl (d1 _)
    ·subst z
     rw[t1 p hp]at e;cases e
     exact absurd rfl (d2 _)
  have nsK:∀{b:Addr}{m:Str->Option af},s₁.heap.Ns b m->(rQ s₁.heap H).Ns b m:=fun{b m} ⟨o,es,ep,e,d,r⟩=>⟨o,es,ep,base_of e (noA e (fun _ z=>by rw[d]at z;cases z) (fun _ z=>by rw[d]at z;cases z)),d,r⟩
  have hKb:K.In (rQ s₁.heap H):=fun b o e=>base_of (KX b o e) (noK e)
  have hBb:rO mg (rQ s₁.heap H):=by
   obtain⟨bm,ob,b1,b2,b3,b4,b5,b6⟩:=hB
   exact⟨bm,ob,b1,b2,base_of b3 (noA b3 (fun _ z=>by rw[b6]at z;cases z) (fun _ z=>by rw[b6]at z;cases z)),b4,b5,b6⟩
  have hM:Mod K mg (rQ s₁.heap H):=⟨hKb,nsK hns,⟨mb,nsK hb,hbb⟩,let⟨mc,h1,h2⟩:=hlim;⟨mc,nsK h1,h2⟩⟩
  have e0:rN P w K mg (rQ s₁.heap H) w8 [] s₁ H:=⟨rfl,hM,fun b o e=>ZC e,Se (Q7 _ _),trivial,fun b hb=>absurd (show b∈([]:List Addr)from hb) (by simp),bN,.of_eq hg⟩
  refine kx ((F _ hKb (nsK hns) hBb).run w8 [] s₁ H ⟨[.ref a],[]⟩ [.ref a] [.ref a] _ _ hr e0 (hbind s₁ (.ref a)) (.cons rfl .nil) (hsp H hT hS)) fun r s' h=>?_
  cases r with
  |error e=>exact h.elim
  |ok fl =>
   cases fl with
   |next=>exact d5 h
   |brk=>exact d5 h
   |cont=>exact d5 h
   |ret u =>
    obtain⟨v,H',os,bare,un,hok',r',q⟩:=h
    have q':v=.bl true:=q
    subst q'
    obtain rfl:u=rb true:=r'
    have tb:∀ p∈tabs,∃ more,s'.heap.get? p.2=some { cls:=.none,data:=.fields (#[]++more) }:=fun p hp=>by
     obtain⟨more,z⟩:=un.oV p.2 _ (hT p hp)
     exact⟨more,hok' _ _ z⟩
    have fr:∀ b o,s₁.heap.get? b=some o->(¬∃ p∈tabs,b=p.2)->s'.heap.get? b=some o:=fun b o e nt=>by
     cases q:H b with
     |none=>exact un.keep b o e q (by intro z;exact absurd (show b∈([]:List Addr)from z) (by simp)) (by simp)
     |some u =>
      rcases hO b u q with⟨ob,xs,z⟩|z
      ·subst z
       have z2:=un.mR b ob _ q
       obtain⟨e1,_⟩:=bN b _ q
       obtain⟨e2,_⟩:=hok' b _ z2
       rw[e]at e1;cases e1
       exact e2
      ·exact absurd z nt
    refine⟨rfl,⟨fun b o e=>?_,fun b o e=>?_⟩,os,bare⟩
    ·by_cases h:∃ p∈tabs,b=p.2
     ·obtain⟨p,hp,z⟩:=h
      subst z
      obtain⟨more,z⟩:=tb p hp
      rw[t1 p hp]at e;cases e
      obtain⟨oc,ws,_,_,_,_,_,_,_,c1,c2,c3,c4,_⟩:=xj KX (t2 p hp)
      exact .inr (.inl ⟨⟨_,oc,ws,c1,c2,c3,c4⟩,rfl,#[],more,rfl,z⟩)
     ·exact .inl (fr b o e h)
    ·by_cases h:∃ p∈tabs,b=p.2
     ·obtain⟨p,hp,z⟩:=h
      subst z
      obtain⟨more,z⟩:=tb p hp
      exact⟨_,z⟩
     ·exact⟨o,fr b o e h⟩
 have tn:∀ b,b∈tabs.map (·.2)->∃ p∈tabs,b=p.2:=fun b hb=>by
  obtain⟨p,hp,z⟩:=List.mem_map.mp hb
  exact⟨p,hp,z.symm⟩
 have na:a∉tabs.map (·.2):=fun z=>by
  obtain⟨p,hp,e⟩:=tn a z
  exact aT p hp e.symm
 cases hk:K.lookup a with
 |some o =>
  have e:=KX a o hk
  rw[ha]at e
  cases e
  refine core (fun b=>if b∈tabs.map (·.2)then some (.tbl #[])else none) (fun p hp=>if_pos (List.mem_map.mpr ⟨p,hp,rfl⟩)) (.inr ⟨_,vs.toArray,_,hk,rfl,rfl,rfl,by rw[ao,lenV];exact hl,by simpa using rv⟩) (fun b u z=>?_) (fun b z=>?_) (fun b u z=>?_) fun z=>absurd (if_neg na) z
  ·by_cases hb:b∈tabs.map (·.2)
   ·have z':=(if_pos hb).symm.trans z
    cases z'
    obtain⟨p,hp,e⟩:=tn b hb
    subst e
    exact t1 p hp
   ·have z':=(if_neg hb).symm.trans z
    cases z'
  ·by_cases hb:b∈tabs.map (·.2)
   ·exact .inr (tn b hb)
   ·exact absurd (if_neg hb) z
  ·by_cases hb:b∈tabs.map (·.2)
   ·exact .inr (tn b hb)
   ·have z':=(if_neg hb).symm.trans z
    cases z'
 |none =>
  refine core (fun b=>if b∈tabs.map (·.2)then some (.tbl #[])else if b=a then some (.frz { cls:=.type "list", data:=.seq vs.toArray } (.lst (ns.map V.int)))else none) (fun p hp=>if_pos (List.mem_map.mpr ⟨p,hp,rfl⟩)) (.inl ⟨{ cls:=.type "list", data:=.seq vs.toArray },(if_neg na).trans (if_pos rfl)⟩) (fun b u z=>?_) (fun b z=>?_) (fun b u z=>?_) fun _=>hk
  ·by_cases hb:b∈tabs.map (·.2)
   ·have z':=(if_pos hb).symm.trans z
    cases z'
    obtain⟨p,hp,e⟩:=tn b hb
    subst e
    exact t1 p hp
   ·have z1:=(if_neg hb).symm.trans z
    by_cases hb:b=a
    ·have z':=(if_pos hb).symm.trans z1
     cases z'
     subst hb
     exact⟨ha,by rw[ab];exact hl,vs,_,rv,ha⟩
    ·have z':=(if_neg hb).symm.trans z1
     cases z'
  ·by_cases hb:b∈tabs.map (·.2)
   ·exact .inr (tn b hb)
   ·by_cases hb2:b=a
    ·exact .inl hb2
    ·exact absurd ((if_neg hb).trans (if_neg hb2)) z
  ·by_cases hb:b∈tabs.map (·.2)
   ·exact .inr (tn b hb)
   ·have z1:=(if_neg hb).symm.trans z
    by_cases hb2:b=a
    ·have z':=(if_pos hb2).symm.trans z1
     cases z'
     exact .inl ⟨_,_,rfl⟩
    ·have z':=(if_neg hb2).symm.trans z1
     cases z'
theorem XS {K:aa}{G:Prog}{k f:Nat}{tabs:List (CK×Addr)}(t2:∀ p∈tabs,pq K p.1.c p.2=true)(h:∀(ns:List Int)(st:aA),ns.length<=63->(∀ p∈tabs,∃ P,st P=some (.cod p.1))->aJ G k f [.bL (ns.map .int)] st (fun d _=>d=.bl true) fun _ _=>False)(dj:(tabs.map (·.2)).Nodup)(H:Hp)(a:Addr)(ns:List Int)(hl:ns.length<=63)(hT:∀ p∈tabs,H p.2=some (.tbl #[]))(hF:lF K H a (ns.map V.int)):
  fO K (aJ G k) f [.ref a] H (fun v _=>v=.bl true) fun _ _ _=>False:=by
 have ri:∀ ns:List Int,aH K H (ns.map .int) (ns.map V.int):=fun ns=>by
  induction ns with
  |nil=>exact .nil
  |cons i r ih=>exact .cons (.int i) ih
 refine⟨[.bL (ns.map .int)],fun b=>(tabs.find? fun p=>p.2==b).map fun p=>.cod p.1,fun d _=>d=.bl true,.cons (.bL hF (ri ns)) .nil,fun b o e=>?_,h ns _ hl fun p hp=>⟨p.2,?_⟩,fun v H' ⟨d,aB,_,_,r,q⟩=>?_⟩
 ·obtain⟨p,e1,e2⟩:=Option.map_eq_some_iff.mp e
  have hp:=List.mem_of_find?_eq_some e1
  have hb:=List.find?_some e1
  have hb:p.2=b:=by simpa using hb
  subst hb
  cases e2
  exact⟨t2 p hp,.inl (hT p hp)⟩
 ·have key:∀(l:List (CK×Addr)),(l.map (·.2)).Nodup->∀ p∈l,(l.find? fun q=>q.2==p.2)=some p:=fun l=>by
   induction l with
   |nil=>intro _ p hp;cases hp
   |cons q r ih =>
    intro nd p hp
    rw[aq,List.nodup_cons]at nd
    rcases List.mem_cons.mp hp with z|hp
    ·subst z;simp
    ·rw[List.find?_cons_of_neg]
     ·exact ih nd.2 p hp
     ·intro z
      exact nd.1 (List.mem_map.mpr ⟨p,hp,(by simpa using z:q.2=p.2).symm⟩)
  show(List.find? (fun q=>q.2==p.2) tabs).map _=_
  rw[key tabs dj p hp];rfl
 ·subst q
  exact r.gH
theorem Ke {l:PySem.W.OpenLaw}{q:br}{loose:List Str}{XP:(Str->Option af)->Heap->Prop}{YP:dg->Heap->Prop}{d:DefRec}{K:Params->aa}{G:Prog}{r k f:Nat}{x:Str}{tabs:List (CK×Addr)}(hr:cR r w8)(SK:∀(ns:List Int)(st:aA),ns.length<=63->(∀ p∈tabs,∃ P,st P=some (.cod p.1))->aJ G k f [.bL (ns.map .int)] st (fun d _=>d=.bl true) fun _ _=>False)(dj:(tabs.map (·.2)).Nodup)(hn:l.most=some 63)(hdf:d.params.defaults=[])
 (hY:∀(w:dg)(h:Heap),YP w h->(K w.params).In h)
 (hY2:∀(w:dg)(h:Heap),YP w h->∀ p∈tabs,h.get? p.2=some { cls:=.none,data:=.fields #[] })
 (t2:∀(w:dg)(p:CK×Addr),p∈tabs->pq (K w.params) p.1.c p.2=true)(t3:∀(w:dg)(p:CK×Addr),p∈tabs->gy p.2 (K w.params)=none)
 (F:∀(w:dg)(mg:Str->Option af)(fa:Addr)(h:Heap),(K w.params).In h->h.Ns cw mg->mg d.name=some (.ref fa) ->
  ∃ fd:gw,(∀(s:ah)(u:af),yp s fd ⟨[u],[]⟩ [(x,u)])/\∀ base:Heap,(K w.params).In base->base.Ns cw mg->rO mg base->fJ l.prog w (K w.params) mg base dB r fa fd [x] (fO (K w.params) (aJ G k) f)):
 PySem.W.WalkO q loose XP YP l.row.toRowW d [] (fun f vs=>PySem.call f vs):=by
 refine Att.KE hn hdf fun w s₀ s₁ mg mb fa o pm cd doc a vs ns G Y ho hd hcd hmg hobj hints hlen hg=>?_
 have KX:=hY w _ Y
 obtain⟨fd,hb,hF⟩:=F w mg fa _ KX G.T.g hmg
 exact QR (tabs:=tabs) KX G.T.g G.T.b G.T.builtins G.T.nolimit hg G.T.bmain (hY2 w _ Y) (t2 w) (t3 w) hobj hints (bu hlen (by decide)) hr hF hb fun H hT hS=>XS (t2 w) SK dj H a ns hlen hT hS
theorem Bw {P:br}{w:dg}{K:aa}{mg:Str->Option af}{base:Heap}{G:Prog}{r k f:Nat}{fn:Fn}{x qual:Str}{st:Stmt}{a c:Addr}{fd:gw}{N ps:List Str}(F:wC K x qual st a fd)(hc:fd.code=.ref c)(S:lJ N ps (aI st))
  (hG:G.fns f=some fn)(hp:fn.np=ps.length)(hl:fn.nl=N.length)
  (hb:∀(A:cp)(outer:List Env)(s:ah)(H:Hp)(E:L2.XK),cR r (A.deeper (mz qual (aI st) s.heap.objs.size a (.ref c))) ->
   sA (eY dB P w K mg base N qual (aI st) a (.ref c) A outer s H E).iA (aJ G k) G.sub (fG st) fn.body):
  fJ P w K mg base dB (r+1) a fd ps (fO K (aJ G (k+1)) f):=by
 obtain⟨oc,od,kV,doc,pm,an,bE,ct,osl,rfl,lk,hcd⟩:=F.ex
 have hc:bE=.ref c:=hc
 subst hc
 refine VV lk hcd S (fun vs H Q E h=>?_) fun A outer s H vs Q E hr h=>?_
 ·obtain⟨ds,aB,R,r,_,h,_⟩:=h
  simp only[aJ,hG]at h
  rw[<-r.length,h.1,hp]
 ·obtain⟨ds,aB,R,r,ok,h,hq⟩:=h
  simp only[aJ,hG]at h
  refine⟨_,(hb A outer s H E hr).h.iA,?_⟩
  refine⟨start fn.np fn.nl ds,aB,_,?_,ok,h.2,⟨fun σ' H' dS bX sr s' gC q=>?_,fun v H' z=>hq v H' z,fun _ _ _ _ _ _ _ q=>q,fun _ _ _ _ _ _ _ q=>q,fun _ _ _ q=>q⟩⟩
  ·rw[hl];exact E8 r h.1
  ·exact hq _ _ ⟨.non,bX,s',gC,.non,q⟩
structure OZ (X:Cx)(C:bC):Prop where
 h:∃ k,(∀ f T,LT f=some T->nK X.prog X.w X.K X.mg X.base k C f)/\cR k X.A
theorem RS {P:br}{w:dg}{K:aa}{mg:Str->Option af}{base:Heap}{G:Prog}{f:Nat}:nK P w K mg base 0 (aJ G 0) f :=
 fun _ _ _ _ _ _ _ _ _ _ _ _ _ _ _ _ _ _ _ _ _ _ h=>d5 h
section
variable {X:Cx}{C:bC}{sub:Nat->Nat->Bool}{E:XK}{e e1 e2 lam:Expr}{es:List Expr}{x1 x2:Ex}{xs:List Ex}{p pos lpos:Pos}{n:Str}{fid g:Nat}{T:jS}{aK:List Nat}{κ:CK}
theorem Kz (i:Nat)(hN:X.N[i]? = some n:=by kernel_rfl)(hv:X.env.scope.names.lookup n=some .free:=by kernel_rfl)(hd:(n==("__debug__" : Str))=false:=by kernel_rfl)
 (hcd:(n==("__classdict__" : Str))=false:=by kernel_rfl):JE X C sub E (.Name n pos) (.v i):=⟨MB (pv i hN (.inr (.inr hv)) hd hcd)⟩
theorem Ph (i:Nat)(L:OZ X C)(ha:JA X C sub EF (e::es) xs)(hN:X.N[i]? = some n:=by kernel_rfl)(hv:X.env.scope.names.lookup n=some .local:=by kernel_rfl)
 (hd:(n==("__debug__" : Str))=false:=by kernel_rfl)(hcd:(n==("__classdict__" : Str))=false:=by kernel_rfl)(he:ai (e::es) X.env=(false,eval e X.env)::ai es X.env:=by kernel_rfl)(dC:(dh pos (ai es X.env)).any (·.1)=false:=by kernel_rfl):
 JE X C sub EF (.Call (.Name n p) (e::es) [] pos) (.cv i xs):=⟨let⟨k,h1,h2⟩:=L.h;Mc h1 h2 hN (.inl hv) FV ha.h hd hcd he dC⟩
noncomputable def C3 (aK:List Nat)(tc:List Str)(N:List Str)(names:List (Str×NameKind)):Bool:=match aK,tc with
 |[],[]=>true
 |i::is,x::xs=>(N[i]? == some x)&&(names.lookup x==some .cell)&&C3 is xs N names
 |_,_=>false
theorem ID:∀(aK:List Nat)(tc N:List Str)(names:List (Str×NameKind)),C3 aK tc N names=true->(∀(j:Nat)(x:Str),tc[j]? = some x->∃ i,aK[j]? = some i/\N[i]? = some x/\names.lookup x=some .cell)/\tc.length=aK.length
 |[],[],N,names,_=>⟨fun j x e=>by simp at e,rfl⟩
 |[],_::_,_,_,h=>by simp [C3]at h
 |_::_,[],_,_,h=>by simp [C3]at h
 |i::is,y::ys,N,names,h=>by
  simp only[C3,ar,beq_iff_eq]at h
  obtain⟨⟨h1,h2⟩,h3⟩:=h
  obtain⟨q1,q2⟩:=ID is ys N names h3
  refine⟨fun j x e=>?_,by simp [q2]⟩
  cases j with
  |zero=>simp at e;subst e;exact⟨i,rfl,h1,h2⟩
  |succ j=>simpa using q1 j x (by simpa using e)
noncomputable def FK (T:jS):Bool:=(T.scope.names.all fun p=>!(p.2 == .free)||T.aK.contains p.1)&&T.aK.all fun x=>T.scope.names.lookup x==some .free
theorem Pt {pa:Arguments}{bo:Expr}{sc:Scope}(T:jS)(h:mE X C n fid)(h2:JE X C sub EF e2 x2)(hB:rO X.mg X.base)(hT:LT g=some T)(hcode:X.env.code=.ref κ.c)(hfn:∀ x,X.fn x=true)
 (hl1:pa=T.params:=by kernel_rfl)(hl2:bo=T.body:=by kernel_rfl)(hl3:sc=T.scope:=by kernel_rfl)(hq:T.q=X.env.qual ++"<lambda>":=by kernel_rfl)(hκ:T.q=⟨κ.q.toArray⟩:=by kernel_rfl)(hln:κ.ln=lpos.line:=by kernel_rfl)(hcol:κ.col=lpos.col:=by kernel_rfl)
 (hf:FK T=true:=by kernel_rfl)(hc:C3 aK T.aK X.N X.env.scope.names=true:=by kernel_rfl)(hdef:Ri T.params X.env=([],[]):=by kernel_rfl)(hg:X.env.kindOf n=some .globalImplicit:=by kernel_rfl)(hdb:(n==("__debug__" : Str))=false:=by kernel_rfl)
 (he:ai [e2,(.Lambda pa bo sc lpos)] X.env=[(false,eval e2 X.env),(false,eval (.Lambda pa bo sc lpos) X.env)]:=by kernel_rfl)(he2:ai [(.Lambda pa bo sc lpos)] X.env=[(false,eval (.Lambda pa bo sc lpos) X.env)]:=by kernel_rfl):
 JE X C sub EF (.Call (.Name n p) [e2,(.Lambda pa bo sc lpos)] [] pos) (.callL fid [x2] g aK κ):=by
 subst hl1 hl2 hl3
 obtain⟨k,f,fd,ps,q1,q2,q3,q4,q5⟩:=h.h
 obtain⟨c1,c2⟩:=ID _ _ _ _ hc
 simp only[FK,ar,pw]at hf
 refine⟨XC q1 q2 hg q3 q4 q5 h2.h hB hT hq hκ hln hcol hcode hfn (fun p hp hf'=>?_) (fun x hx=>by simpa using hf.2 x hx) c1 c2 hdef hdb he he2⟩
 have:=hf.1 p hp
 rw[hf']at this
 simpa using this
end
def sD (K:aa)(mg:Str->Option af)(n q:Str)(st:Stmt)(at_:At)(oc:Option Addr):Prop:=∃ a fd,wC K n q st a fd/\UB K mg n a at_/\∀ c,oc=some c->fd.code=.ref c
theorem qZ.Dc {K:aa}{mg:Str->Option af}{n q:Str}{st:Stmt}{at_:At}(h:qZ K mg n q st at_):sD K mg n q st at_ none:=let⟨a,fd,h1,h2⟩:=h;⟨a,fd,h1,h2,fun _ z=>nomatch z⟩
theorem By {K:aa}{h:Heap}{mg:Str->Option af}(X:K.In h)(G:h.Ns cw mg){n:Str}{st:Stmt}{f c:Addr}{oc:af}{od an:Option Addr}{sl:Array (Option af)}{kV dc pm ct:af}
 (a:iu K cw n=some (some (.ref f)))(l:K.lookup f=some ⟨oc,od,.func (ig n n (kG st) (fG st) (aI st) .none kV dc pm an (.ref c) ct),sl⟩)(cc:kj K (.ref c) n=true)(k:fe K (.ref f)=true):sD K mg n n st .top (some c) :=
 ⟨f,_,CA l cc k,ly X G a,fun _ z=>by cases z;rfl⟩
theorem GN {K:aa}{mg:Str->Option af}{nm qn:Nat->Str}{ps:Nat->List Str}{st:Nat->Stmt}{at_:Nat->At}{cd:Nat->Option Addr}:∀(nf:Nat),(∀ i,i<nf->C5 (nm i) (qn i) (ps i) (st i))->(∀ i,i<nf->sD K mg (nm i) (qn i) (st i) (at_ i) (cd i))->gw->∃ T:CZ K mg nf nm qn ps st at_,∀ i,i<nf->∀ c,cd i=some c->(T.fd i).code=.ref c
 |0,_,_,d=>⟨⟨fun _=>0,fun _=>d,fun i h=>absurd h (by omega),fun i h=>absurd h (by omega),fun i h=>absurd h (by omega)⟩,fun i h=>absurd h (by omega)⟩
 |nf+1,B,H,d=>by
  obtain⟨T,hc⟩:=GN nf (fun i h=>B i (by omega)) (fun i h=>H i (by omega)) d
  obtain⟨a,fd,hF,hm,hcd⟩:=H nf (by omega)
  refine⟨⟨fun i=>if i=nf then a else T.a i,fun i=>if i=nf then fd else T.fd i,fun i h=>?_,fun i h=>?_,fun i h=>?_⟩,fun i h=>?_⟩
  ·by_cases e:i=nf
   ·subst e;simpa using hF
   ·simpa only[if_neg e]using T.fn i (by omega)
  ·by_cases e:i=nf
   ·subst e;simpa using hF.binds (B i (by omega))
   ·simpa only[if_neg e]using T.bi i (by omega)
  ·by_cases e:i=nf
   ·subst e;simpa using hm
   ·simpa only[if_neg e]using T.mg i (by omega)
  ·by_cases e:i=nf
   ·subst e;simpa using hcd
   ·simpa only[if_neg e]using hc i (by omega)
theorem C4 {P:br}{w:dg}{K:aa}{mg:Str->Option af}{base:Heap}{G:Prog}{nf:Nat}{nm qn:Nat->Str}{ps:Nat->List Str}{st:Nat->Stmt}{at_:Nat->At}(T:CZ K mg nf nm qn ps st at_)
 (step:∀ k,(∀ i,i<nf->fJ P w K mg base dB (2*k) (T.a i) (T.fd i) (ps i) (fO K (aJ G k) i))->(∀ f Tx,LT f=some Tx->nK P w K mg base (2*k) (aJ G k) f)->(∀ i,i<nf->fJ P w K mg base dB (2*k+1+1) (T.a i) (T.fd i) (ps i) (fO K (aJ G (k+1)) i))/\∀ f Tx,LT f=some Tx->nK P w K mg base (2*k+1+1) (aJ G (k+1)) f):
 ∀ k,(∀ i,i<nf->fJ P w K mg base dB (2*k) (T.a i) (T.fd i) (ps i) (fO K (aJ G k) i))/\∀ f Tx,LT f=some Tx->nK P w K mg base (2*k) (aJ G k) f
 |0=>⟨fun i _=>YC,fun f Tx _=>RS⟩
 |k+1=>step k (C4 T step k).1 (C4 T step k).2
set_option tactic.hygienic true in
theorem yZ {α β:Type}[BEq α] [LawfulBEq α]:∀{l:List (α×β)}{a:α}{b:β},l.lookup a=some b->(a,b)∈l
 |[],_,_,h=>by cases h
 |(x,y)::r,a,b,h=>by
  rw[c5]at h
  split at h
  ·rename_i q
   have q:a=x:=by simpa using q
   subst q
   cases h
   exact de ..
  ·exact cg _ (yZ h)
theorem SA {T:jS}(h1:T.scope.kind=.function:=by kernel_rfl)(h2:T.scope.isCoroutine=false:=by kernel_rfl)(h3:T.scope.isGenerator=false:=by kernel_rfl)(h4:(T.scope.names.all fun p=>!(p.2 == .cell))=true:=by kernel_rfl)(h5:(T.aK++T.ps).Nodup:=by decide +kernel)(h6:(T.ps.all fun x=>T.scope.names.lookup x==some .local)=true:=by kernel_rfl)(h7:FK T=true:=by kernel_rfl):MW T:=by
 simp only[FK,ar,pw]at h7
 rw[pw]at h4 h6
 refine⟨h1,h2,h3,fun x hx z=>?_,h5,fun x hx=>by simpa using h6 x hx,fun x hx=>?_,fun x hx=>by simpa using h7.2 x hx⟩
 ·have:=h4 x hx
  rw[z]at this
  simp at this
 ·have:=h7.1 _ (yZ hx)
  simpa using this
theorem KW:∀(l:List af)(lo:Int),(∀(i:Nat)(v:af),l[i]? = some v->∃ t,v=.int (lo+(i:Nat)) t)->aO (((bb l.length).map fun k:Nat=>lo+(k:Nat)).map V.int) l
 |[],_,_=>.nil
 |u::r,lo,h=>by
  rw[a9,jo,aq,aq]
  obtain⟨t,e⟩:=h 0 u rfl
  refine .cons ⟨t,e⟩ ?_
  have:=KW r (lo+1) fun i v hv=>by
   obtain⟨t,e⟩:=h (i+1) v hv
   exact⟨t,by rw[e];congr 1;omega⟩
  rw[mn,mn]at *
  have ef:(V.int∘(fun k:Nat=>lo+(k:Nat)))∘Nat.succ=V.int∘fun k:Nat=>lo+1+(k:Nat):=by funext k;simp;omega
  rw[ef];exact this
theorem EH {K:aa}{H:Hp}:∀ ns:List Int,aH K H (ns.map .int) (ns.map V.int)
 |[]=>.nil
 |i::r=>.cons (.int i) (EH r)
section
variable {X:Cx}{C:bC}{sub:Nat->Nat->Bool}{E:XK}{a b:Expr}{x y:Ex}{p p2 pos pos2:Pos}
set_option tactic.hygienic true in
theorem Kc (hC:bO C C)(hm:X.mg "list" = none)(hm2:X.mg "range" = none)(hc:X.calm=true)(ha:PA X [a] (jB X.K (bG C sub E [x])))(hg:X.env.kindOf "list" = some .globalImplicit)(hg2:X.env.kindOf "range" = some .globalImplicit)
 (he:ai [.Call (.Name "range" p2) [a] [] pos2] X.env=(false,eval (.Call (.Name "range" p2) [a] [] pos2) X.env)::ai [] X.env)(dC:(dh pos (ai [] X.env)).any (·.1)=false)(hpl2:(dh pos2 (ai [] X.env)).any (·.1)=false)
 (hs:ai [a] X.env=(false,eval a X.env)::ai [] X.env):
 PE X (.Call (.Name "list" p) [.Call (.Name "range" p2) [a] [] pos2] [] pos) (bR X.K (aE C sub E (.bit .list .range [x]))):=by
 intro pz s σ H Q I ⟨σd,st,R,r,ok,q,hq⟩
 refine dt (jV I hg hm yS ?_ (by decide) (by decide))
 refine dq ?_ he dC
 rw[he]
 show wpAny _ _ (w5 ((false,eval (.Call (.Name "range" p2) [a] [] pos2) X.env)::dh pos (ai [] X.env))) _ _ s
 refine jx ?_
 refine dt (jV I hg2 hm2 TF ?_ (by decide) (by decide))
 refine dq (aY (ha pos2 pz s σ H _ I ⟨σd,st,_,r,ok,mZ [x] hC q,fun vs H' z=>z⟩) fun us s1 ⟨vs,H1,I1,rv,ds,aC,cQ,aM,rs,l1,q1⟩=>?_) hs hpl2
 match ds,l1,q1 with
 |[d],_,q1 =>
 have q1:gI (some .range) [d] aC fun _ xs=>dN .list xs aC R:=q1
 cases rs with|cons r1 r3 =>
  cases r3
  cases d<;>first|exact(show False from q1).elim|skip
  rename_i j _ _
  cases r1.int_inv
  cases rv with|cons v1 rv =>
  cases rv
  obtain⟨t',rfl⟩:=v1
  obtain⟨⟨b1,b2⟩,q1⟩:=q1
  have hh:X.A.handled=none:=I1.ok.hd hc
  have q1:gF (fF 0 j.toNat) aC R:=q1
  have hln:(fF 0 j.toNat).length=j.toNat:=by simp [fF]
  have hz:j.toNat<=2 ^ 24:=by have:=q1.1;rw[hln]at this;exact this
  refine Sb (l0 ?_)
  refine call_list_range (n:=j.toNat) hh (Sr ..) (small_one (by decide) (by decide) b1 b2) (by rw[Rl];split<;>omega) hz fun h' tk acc cc k hS hacc=>?_
  have I2:Inv X pz σ H1 { s1 with heap:=s1.heap.push { cls:=.type "range", data:=.fields #[.int 0 s1.toks,.int j t',.int 1 (s1.toks+1)] },toks:=s1.toks+1+1 }:=I1.kept fun b o e=>ag _ e
  obtain⟨h1,h2⟩:=hacc
  have hal:acc.toList.length=j.toNat:=by simpa using h1
  have hv:=KW acc.toList 0 fun m v hv=>by
   obtain⟨t,e⟩:=h2 m v (by simpa using hv)
   exact⟨t,by rw[e];congr 1;omega⟩
  rw[hal]at hv
  refine⟨.ref _,_,HA (aD:=acc.toList) I2 (I1.DO (av _) I1.fresh) (fun b o hb e=>k b o e) (by simpa using hS) hv (by rw[ab,ab,fw,jr];exact hz),rfl,hq _ _ (.after cQ ?_)⟩
  have er:fF 0 j.toNat=((bb j.toNat).map fun k:Nat=>(0:Int)+(k:Nat)).map .int:=by simp [fF]
  rw[er]at q1
  exact .gF aM (EH _) I2.fresh q1.2
theorem Pd (m:bO C C)(hm:X.mg "list" = none)(hm2:X.mg "range" = none)(ha:JA X C sub E [a] [x])(hc:X.calm=true:=by kernel_rfl)(hg:X.env.kindOf "list" = some .globalImplicit:=by kernel_rfl)(hg2:X.env.kindOf "range" = some .globalImplicit:=by kernel_rfl)
 (he:ai [.Call (.Name "range" p2) [a] [] pos2] X.env=(false,eval (.Call (.Name "range" p2) [a] [] pos2) X.env)::ai [] X.env:=by kernel_rfl)(dC:(dh pos (ai [] X.env)).any (·.1)=false:=by kernel_rfl)(hpl2:(dh pos2 (ai [] X.env)).any (·.1)=false:=by kernel_rfl)
 (hs:ai [a] X.env=(false,eval a X.env)::ai [] X.env:=by kernel_rfl):
 JE X C sub E (.Call (.Name "list" p) [.Call (.Name "range" p2) [a] [] pos2] [] pos) (.bit .list .range [x]):=⟨Kc m hm hm2 hc ha.h hg hg2 he dC hpl2 hs⟩
end
end L3
end
section
open L3 PySem
local macro_rules|`(tactic| walk_at"wpe")=>`(tactic| simp only[↓GX,↓EZ,↓Jr,↓Fy,↓MQ,↓Fz,↓Hk,↓X9,↓Ib,↓Nj,↓Gd,↓Gx,↓Ba,↓Bf,↓Hz,↓Cn,↓AR,↓Mr,↓Hd,↓ZZ,↓Gk,↓Lk,↓Fw,↓Og,↓XD,↓WW,↓SX,↓Ad,↓Im,↓Fx,↓Ij,↓Ih,↓Q1,↓LO,↓Jd,↓Fd,↓Ja,↓sT,↓Bc,↓ZQ,↓Ds,↓OV,↓Bq,↓Af,↓V7,↓yB,↓Jp,↓Ju,↓CU,↓Eg,↓Mp,↓Nw,↓Lu,↓Ni,↓Oc,↓Ll,↓Ms,↓Nc,↓Hn,↓Gp,↓Ho,↓Il,↓Bl,↓YM,↓WG,↓XU,↓TH,↓Ae,↓Bm,↓Dd,↓Bg,↓cmp_gt,↓Au,↓YF,↓WH,↓R0,↓SV,↓LZ,↓KJ,↓M4,↓KC,↓JM,↓KG,↓add_int,↓add_str,↓YS,↓WD,↓sub_int,↓mul_int,↓WE,↓RG,↓mod_int,↓pow_int,↓neg_int,↓W6,↓X5,hJ,↓oE,↓KR,↓JJ,↓WK,IB,RX,TL,Nb,Ob,↓aW,↓OY,↓ZG,↓Ay,↓HL,↓Bi,Gu,↓YO,↓S1,↓R7,↓NY,↓TJ,↓Y5,↓DU,↓RN,↓LW,↓NC,↓Y8,↓RI,↓Q9,↓YE,↓IM,↓len_str,↓XM,↓O7,↓PR,↓Y6,↓Es,↓Z7,↓Fe,↓K8,↓JF,↓Ah,↓YH,↓EG,↓Ao,↓Cg,↓WN,↓RW,↓Bo,↓Y2,↓K2,↓CB,↓NI,↓XW,↓qU,↓xG,↓GF,↓KS,↓Fl,↓QC,aq,mi,kq,b7,ay,fh,if_true,if_false,ju,ox,az,reduceIte,di,eh,true_and,and_true,ND,B5,P4,NK,EO,EE,II,ES,iV,LP,Fc,WU,kn,om,km,decide_eq_true_eq,ar,j0,List.zip_nil_left,List.zip_nil_right,qh,List.foldl_nil,a9,bh])
local macro_rules|`(tactic| walk_at"st")=>`(tactic| ((try dsimp only);(first|refine eU ?_|rw[NS]);(try walk_at"wpe")))
local macro_rules|`(tactic| walk_at"ex")=>`(tactic| ((try dsimp only);(try walk_at"wpe")))
section
namespace L3
open PySem
theorem aX {G:Prog}{f k:Nat}{fn:Fn}{ds:List D}{st:aA}{Q:VK}{E:XK}(h:G.fns f=some fn):aJ G (k+1) f ds st Q E=(ds.length=fn.np/\cO (aJ G k) G.sub fn.body ⟨fun _ aB=>Q .non aB,Q,fun _ _=>False,fun _ _=>False,fun c _ aB=>E c aB⟩ (start fn.np fn.nl ds) st):=by
 simp only[aJ,h]
def cG (as:List Nat)(st aB:aA):Prop:=∀ a o,a∉as->st a=some o->aB a=some o
theorem cG.refl {as:List Nat}{st:aA}:cG as st st:=fun _ _ _ h=>h
theorem cG.trans {as:List Nat}{a b c:aA}(h:cG as a b)(h':cG as b c):cG as a c:=fun x o n e=>h' x o n (h x o n e)
theorem cG.mono {as bs:List Nat}{st aB:aA}(h:cG as st aB)(s:∀ a∈as,a∈bs):cG bs st aB:=fun x o n e=>h x o (fun z=>n (s x z)) e
theorem Ext.keep {as:List Nat}{st aB:aA}(h:Ext st aB):cG as st aB:=fun x o _ e=>h x o e
theorem cG.put {as:List Nat}{st:aA}{a:Nat}{o:MO}(h:a∈as):cG as st (put st a o):=fun x u n e=>by rw[aU (fun z=>n (by rw[z];exact h))];exact e
noncomputable def uM (ns:List Int)(k:Int):Int:=if k<ns.length then(ns[k.toNat]?).getD 0 else if ns=[]then 0 else(ns[(k % ns.length).toNat]?).getD 0*31+k
noncomputable def jD (ns:List Int)(k many:Int):Int :=
 let d:=(uM ns k+7919*k+1)*48271 % 2147483647
 (d*d+7*d+k) % 2147483629 % many
theorem fN {ns:List Int}{k many:Int}(h:0<many):0<=jD ns k many:=ql _ (by omega)
theorem fQ {ns:List Int}{k many:Int}(h:0<many):jD ns k many<many:=og _ h
noncomputable def mF:Fn:=⟨2,2,[.iff (.cmp .lt (.v 1) (.bi .len [(.v 0)])) [.ret (.ix (.v 0) (.v 1))] [],.iff (.cmp .eq (.v 0) (.lst [])) [.ret (.c (.int 0))] [],
 .ret (.bin .add (.bin .mul (.ix (.v 0) (.bin .mod (.v 1) (.bi .len [(.v 0)]))) (.c (.int 31))) (.v 1))]⟩
noncomputable def kS (ic:Nat):Fn:=⟨3,4,[.asg (.nm 3) (.bin .mod (.bin .mul (.bin .add (.bin .add (.call ic [(.v 0),(.v 1)]) (.bin .mul (.c (.int 7919)) (.v 1))) (.c (.int 1))) (.c (.int 48271))) (.c (.int 2147483647))),
 .ret (.bin .mod (.bin .mod (.bin .add (.bin .add (.bin .mul (.v 3) (.v 3)) (.bin .mul (.c (.int 7)) (.v 3))) (.v 1)) (.c (.int 2147483629))) (.v 2))]⟩
noncomputable def pD (im:Nat):Fn:=⟨3,3,[.asg (.ix (.v 1) (.c (.int 0))) (.bin .add (.ix (.v 1) (.c (.int 0))) (.c (.int 1))),.ret (.call im [(.v 0),(.ix (.v 1) (.c (.int 0))),(.v 2)])]⟩
theorem A4 (ns:List Int):bI (ns.map .int)=true/\cC (ns.map .int)=0:=by
 induction ns with
 |nil=>exact⟨rfl,rfl⟩
 |cons n r ih=>exact⟨by simp only[aq,bI,bH,ih.1,fq],by simp only[aq,cC,dJ,ih.2,Nat.max_self]⟩
theorem LB {ns:List Int}{k:Int}(h0:0<=k)(h1:k<ns.length):eM (ns.map D.int) k=some (.int ((ns[k.toNat]?).getD 0)):=by
 obtain⟨n,rfl⟩:∃ n:Nat,k=n:=⟨k.toNat,by omega⟩
 rw[gD (by simp;omega)]
 simp only[be,tq]
 rw[aj (by omega)]
 rfl
section
variable {G:Prog}{k ic im dD:Nat}{st:aA}{Q:VK}{E:XK}{ns:List Int}
theorem WY (hc:G.fns ic=some mF){i:Int}(hi:0<=i)(hQ:∀ aB,Ext st aB->Q (.int (uM ns i)) aB):aJ G (k+1) ic [.bL (ns.map .int),.int i] st Q E:=by
 rw[aX hc]
 simp only[mF,start]
 refine⟨rfl,?_⟩
 refine eU ?_
 walk_at"wpe"
 simp only[ab]
 by_cases h:i<ns.length
 ·simp only[h,decide_true,if_true]
  refine eU ?_
  walk_at"wpe"
  rw[LB hi h]
  walk_at"wpe"
  have:=hQ st .refl
  simp only[uM,h,if_true]at this
  exact this
 ·simp only[h,decide_false,az,if_false,aL]
  refine eU ?_
  walk_at"wpe"
  refine⟨Nat.zero_le _,fun p hp=>?_⟩
  have hx:Ext st (put st p (.lst [])):=Ext.new hp
  dsimp only
  have e1:bJ (put st p (.lst [])) (.bL (ns.map .int)) (.ref p)=ns.isEmpty:=by
   simp only[bJ,aV,B9]
   cases ns with
   |nil=>rfl
   |cons n r=>rfl
  rw[e1]
  refine⟨⟨?_,cx _⟩,⟨?_,cx _⟩,?_⟩
  ·simp only[gK,(A4 ns).1,(A4 ns).2,nq];rfl
  ·simp only[gK,aV,UO];rfl
  cases ns with
  |nil =>
   simp only[zv,if_true]
   refine eU ?_
   walk_at"wpe"
   have:=hQ _ hx
   simp only[uM,h,if_false,if_true]at this
   exact this
  |cons n r =>
   simp only[yv,az,if_false,aL]
   refine eU ?_
   have hl:(0:Int)<((n::r).length:Int):=by simp only[a9];omega
   simp only[OV,MQ,AR,EZ,GX,Bf,LO,Q1,Dx,Br,Q9,IM,mod_int,KR,ab,aq,kq,b7,mi]
   refine⟨by simpa using hl,?_⟩
   have hm0:0<=i % ((n::r).length:Int):=ql _ (by omega)
   have hm1:i % ((n::r).length:Int)<(n::r).length:=og _ hl
   have:=LB (ns:=n::r) hm0 hm1
   simp only[aq,a9]at this
   simp only[a9,ab]
   rw[this]
   walk_at"wpe"
   refine⟨.inr ⟨by omega,by omega⟩,?_⟩
   have:=hQ _ hx
   simp only[uM,h,if_false]at this
   simpa using this
theorem AW (hm:G.fns im=some (kS ic))(hc:G.fns ic=some mF){i many:Int}(hi:0<=i)(hmany:0<many)(hQ:∀ aB,Ext st aB->Q (.int (jD ns i many)) aB):aJ G (k+2) im [.bL (ns.map .int),.int i,.int many] st Q E:=by
 rw[aX hm]
 simp only[kS,start]
 refine⟨rfl,?_⟩
 refine eU ?_
 walk_at"wpe"
 refine WY hc hi fun aB e=>?_
 walk_at"wpe"
 refine⟨.inl ⟨by omega,by omega⟩,.inr ⟨by omega,by omega⟩,by omega,?_⟩
 refine eU ?_
 walk_at"wpe"
 have d0:0<=(uM ns i+7919*i+1)*48271 % 2147483647:=ql _ (by omega)
 have d1:(uM ns i+7919*i+1)*48271 % 2147483647<2147483647:=og _ (by omega)
 refine⟨.inl ⟨by omega,by omega⟩,.inl ⟨by omega,by omega⟩,by omega,hmany,?_⟩
 exact hQ aB e
theorem fP (hn:G.fns dD=some (pD im))(hm:G.fns im=some (kS ic))(hc:G.fns ic=some mF){a:Nat}{i many:Int}(ha:st a=some (.lst [.int i]))(hi:0<=i)(hmany:0<many)
 (hQ:∀ aB,cG [a] st aB->aB a=some (.lst [.int (i+1)])->Q (.int (jD ns (i+1) many)) aB):aJ G (k+3) dD [.bL (ns.map .int),.ref a,.int many] st Q E:=by
 rw[aX hn]
 simp only[pD,start]
 refine⟨rfl,?_⟩
 refine eU ?_
 walk_at"wpe"
 rw[eS ha]
 walk_at"wpe"
 rw[aG ha]
 have e0:mV [D.int i].length 0=some 0:=rfl
 simp only[e0,aW,di]
 refine eU ?_
 walk_at"wpe"
 rw[eS aV]
 walk_at"wpe"
 refine AW hm hc (by omega) hmany fun aB e=>?_
 refine hQ aB (fun x o n h=>e x o (by rw[aU (by simpa using n)];exact h)) (e a _ aV)
end
inductive W1 where
 |not|before|once|sofar
 deriving DecidableEq
inductive W2 where
 |and|or|aY|same|since
 deriving DecidableEq
inductive Sy where
 |yes|no|eO (n:List Nat)|one (w:W1)(s:Sy)|two (w:W2)(s t:Sy)
 deriving DecidableEq
noncomputable def c1:W1->List Nat
 |.not=>W "not"
 |.before=>W "before"
 |.once=>W "once"
 |.sofar=>W "sofar"
noncomputable def c2:W2->List Nat
 |.and=>W "and"
 |.or=>W "or"
 |.aY=>W "then"
 |.same=>W "same"
 |.since=>W "since"
noncomputable def toD:Sy->D
 |.yes=>.tup [.str (W "yes")]
 |.no=>.tup [.str (W "no")]
 |.eO n=>.tup [.str (W "lamp"),.str n]
 |.one w s=>.tup [.str (c1 w),toD s]
 |.two w s t=>.tup [.str (c2 w),toD s,toD t]
noncomputable def aQ:Sy->Nat
 |.one _ s=>aQ s+1
 |.two _ s t=>max (aQ s) (aQ t)+1
 |_=>1
noncomputable def p1:W1->Bool
 |.not=>false
 |_=>true
noncomputable def p2:W2->Bool
 |.since=>true
 |_=>false
noncomputable def cnt:Sy->Nat
 |.one w s=>(if p1 w then 1 else 0)+cnt s
 |.two w s t=>(if p2 w then 1 else 0)+(cnt s+cnt t)
 |_=>0
def over (names:List (List Nat)):Sy->Prop
 |.eO n=>n∈names
 |.one _ s=>over names s
 |.two _ s t=>over names s/\over names t
 |_=>True
theorem pR:∀ s:Sy,bH (toD s)=true
 |.yes=>rfl
 |.no=>rfl
 |.eO n=>rfl
 |.one w s=>by simp only[toD,bH,bI,pR s,fq]
 |.two w s t=>by simp only[toD,bH,bI,pR s,pR t,fq]
theorem sE:∀ s:Sy,dJ (toD s)=aQ s
 |.yes=>rfl
 |.no=>rfl
 |.eO n=>rfl
 |.one w s=>by simp only[toD,dJ,cC,sE s,aQ];omega
 |.two w s t=>by simp only[toD,dJ,cC,sE s,sE t,aQ];omega
noncomputable def lI (dD is:Nat):Fn:=⟨5,7,[.asg (.nm 5) (.call dD [(.v 0),(.v 1),(.c (.int 13))]),.iff (.or_ (.cmp .eq (.v 3) (.c (.int 0))) (.cmp .lt (.v 5) (.c (.int 3)))) [.ret (.tup [(.c (.str (W "lamp"))),(.ix (.v 2) (.call dD [(.v 0),(.v 1),(.bi .len [(.v 2)])]))])] [],.iff (.cmp .eq (.v 5) (.c (.int 3))) [.ret (.tup [(.ix (.lst [(.c (.str (W "yes"))),(.c (.str (W "no")))]) (.call dD [(.v 0),(.v 1),(.c (.int 2))]))])] [],.iff (.and_ (.cmp .gt (.v 5) (.c (.int 8))) (.cmp .gt (.ix (.v 4) (.c (.int 0))) (.c (.int 0)))) [.asg (.ix (.v 4) (.c (.int 0))) (.bin .sub (.ix (.v 4) (.c (.int 0))) (.c (.int 1))),.asg (.nm 6) (.call is [(.v 0),(.v 1),(.v 2),(.bin .sub (.v 3) (.c (.int 1))),(.v 4)]),.iff (.cmp .eq (.v 5) (.c (.int 12))) [.ret (.tup [(.c (.str (W "since"))),(.v 6),(.call is [(.v 0),(.v 1),(.v 2),(.bin .sub (.v 3) (.c (.int 1))),(.v 4)])])] [],.ret (.tup [(.ix (.lst [(.c (.str (W "before"))),(.c (.str (W "once"))),(.c (.str (W "sofar")))]) (.bin .sub (.v 5) (.c (.int 9)))),(.v 6)])] [],.asg (.nm 6) (.call is [(.v 0),(.v 1),(.v 2),(.bin .sub (.v 3) (.c (.int 1))),(.v 4)]),.iff (.or_ (.cmp .eq (.v 5) (.c (.int 4))) (.cmp .gt (.v 5) (.c (.int 8)))) [.ret (.tup [(.c (.str (W "not"))),(.v 6)])] [],.ret (.tup [(.ix (.lst [(.c (.str (W "and"))),(.c (.str (W "or"))),(.c (.str (W "then"))),(.c (.str (W "same")))]) (.bin .sub (.v 5) (.c (.int 5)))),(.v 6),(.call is [(.v 0),(.v 1),(.v 2),(.bin .sub (.v 3) (.c (.int 1))),(.v 4)])])]⟩
def Drawn (a b:Nat)(i l:Int)(st aB:aA)(i' l':Int):Prop:=cG [a,b] st aB/\0<=i'/\aB a=some (.lst [.int i'])/\aB b=some (.lst [.int l'])
section
variable {G:Prog}{k ic im dD is:Nat}{st:aA}{Q:VK}{E:XK}{ns:List Int}
theorem XA {xs:List (List Nat)}{v:Int}(h0:0<=v)(h1:v<xs.length):∃ x∈xs,eM (xs.map D.str) v=some (.str x):=by
 obtain⟨n,rfl⟩:∃ n:Nat,v=n:=⟨v.toNat,by omega⟩
 have h:n<xs.length:=by omega
 refine⟨xs[n],gp h,?_⟩
 rw[gD (by simpa using h)]
 simp only[be]
 rw[aj h]
 rfl
theorem VN {d:D}{r:List D}:mV (d::r).length 0=some 0:=by
 unfold mV
 rw[if_pos (by omega),if_pos (by simp only[a9];omega)]
 rfl
theorem cB {ds:List D}{Q:VK}(hl:ds.length<=bD)(h:∀ p aB,Ext st aB->st p=none->aB p=some (.lst ds)->Q (.ref p) aB):gF ds st Q:=⟨hl,fun p hp=>h p _ (Ext.new hp) hp aV⟩
theorem qN (hs:G.fns is=some (lI dD is))(hn:G.fns dD=some (pD im))(hm:G.fns im=some (kS ic))(hc:G.fns ic=some mF){names:List (List Nat)}(kL:0<names.length){a b:Nat}(dU:a≠b):
  ∀(n:Nat){st:aA}{Q:VK}{E:XK}{i l:Int},st a=some (.lst [.int i])->st b=some (.lst [.int l])->0<=i->0<=l ->
   (∀ s aB i',over names s->aQ s<=n+1->(cnt s:Int)<=l->cG [a,b] st aB->0<=i'->aB a=some (.lst [.int i'])->aB b=some (.lst [.int (l-cnt s)])->Q (toD s) aB) ->
   aJ G (k+n+4) is [.bL (ns.map .int),.ref a,.tup (names.map .str),.int n,.ref b] st Q E:=by
 intro n
 have eO:∀{n:Nat}{st:aA}{Q:VK}{E:XK}{i l:Int}{K:Nat}{P:gS}{r:St},st a=some (.lst [.int i])->st b=some (.lst [.int l])->0<=i->0<=l ->
   (∀ s aB i',over names s->aQ s<=n+1->(cnt s:Int)<=l->cG [a,b] st aB->0<=i'->aB a=some (.lst [.int i'])->aB b=some (.lst [.int (l-cnt s)])->P.rt (toD s) aB) ->
   cO (aJ G (K+3)) G.sub [.ret (.tup [(.c (.str (W "lamp"))),(.ix (.v 2) (.call dD [(.v 0),(.v 1),(.bi .len [(.v 2)])]))])] P (some (.bL (ns.map .int))::some (.ref a)::some (.tup (names.map .str))::r) st:=by
  intro n st Q E i l K P r ha hb hi hl hQ
  walk_at"st"
  simp only[ab]
  refine fP hn hm hc ha hi (by omega) fun aC k1 a1=>?_
  walk_at"ex"
  obtain⟨x,hx,e⟩:=XA (xs:=names) (fN (ns:=ns) (k:=i+1) (many:=names.length) (by omega)) (fQ (by omega))
  rw[e]
  walk_at"ex"
  have b1:aC b=some (.lst [.int l]):=k1 b _ (by simpa using dU.symm) hb
  exact hQ (.eO x) aC (i+1) hx (by simp [aQ]) (by simp [cnt];omega) (k1.mono (by simp)) (by omega) a1 (by simpa [cnt]using b1)
 induction n with
 |zero =>
  intro st Q E i l ha hb hi hl hQ
  rw[aX hs]
  simp only[lI,start]
  refine⟨rfl,?_⟩
  walk_at"st"
  refine fP hn hm hc ha hi (by omega) fun aC k1 a1=>?_
  walk_at"st"
  simp only[Int.natCast_zero,beq_self_eq_true,if_true]
  have b1:aC b=some (.lst [.int l]):=k1 b _ (by simpa using dU.symm) hb
  have kk:cG [a,b] st aC:=k1.mono (by simp)
  exact eO (n:=0) (Q:=Q) (E:=E) a1 b1 (by omega) hl fun s aB i' h1 h2 h3 h4 h5 h6 h7=>hQ s aB i' h1 h2 h3 (kk.trans h4) h5 h6 h7
 |succ n ih =>
  intro st Q E i l ha hb hi hl hQ
  rw[aX hs]
  simp only[lI,start]
  refine⟨rfl,?_⟩
  walk_at"st"
  refine fP hn hm hc ha hi (by omega) fun aC k1 a1=>?_
  have v0:=fN (ns:=ns) (k:=i+1) (many:=13) (by omega)
  have v1:=fQ (ns:=ns) (k:=i+1) (many:=13) (by omega)
  generalize jD ns (i+1) 13=v at v0 v1
  have b1:aC b=some (.lst [.int l]):=k1 b _ (by simpa using dU.symm) hb
  have kk:cG [a,b] st aC:=k1.mono (by simp)
  have hn0:(((n+1:Nat):Int)==0)=false:=by rw[beq_eq_false_iff_ne];omega
  have hn1:((n+1:Nat):Int)-1=(n:Int):=by omega
  walk_at"st"
  simp only[hn0,az,if_false]
  by_cases h3:v<3
  ·simp only[h3,decide_true,if_true]
   exact eO (n:=n+1) (Q:=Q) (E:=E) a1 b1 (by omega) hl fun s aB i' h1 h2 h3 h4 h5 h6 h7=>hQ s aB i' h1 h2 h3 (kk.trans h4) h5 h6 h7
  simp only[h3,decide_false,az,if_false,aL]
  walk_at"st"
  by_cases e3:v=3
  ·subst e3
   simp only[beq_self_eq_true,if_true]
   walk_at"st"
   refine cB (by decide) fun p aF x2 hp kM=>?_
   walk_at"ex"
   have pa:p≠a:=fun z=>by rw[z,a1]at hp;cases hp
   have pb:p≠b:=fun z=>by rw[z,b1]at hp;cases hp
   refine fP hn hm hc (x2 a _ a1) (by omega) (by omega) fun bK k3 a3=>?_
   walk_at"ex"
   have w0:=fN (ns:=ns) (k:=i+1+1) (many:=2) (by omega)
   have w1:=fQ (ns:=ns) (k:=i+1+1) (many:=2) (by omega)
   generalize jD ns (i+1+1) 2=w at w0 w1
   rw[eS (k3 p _ (by simpa using pa) kM)]
   have b3:bK b=some (.lst [.int l]):=k3 b _ (by simpa using dU.symm) (x2 b _ b1)
   have kk3:cG [a,b] st bK:=(kk.trans x2.keep).trans (k3.mono (by simp))
   obtain rfl|rfl:w=0∨w=1:=by omega
   ·walk_at"ex"
    exact hQ .yes bK _ trivial (by simp [aQ]) (by simp [cnt];omega) kk3 (by omega) a3 (by simpa [cnt]using b3)
   ·walk_at"ex"
    exact hQ .no bK _ trivial (by simp [aQ]) (by simp [cnt];omega) kk3 (by omega) a3 (by simpa [cnt]using b3)
  have e3':(v==3)=false:=by rw[beq_eq_false_iff_ne];exact e3
  simp only[e3',az,if_false,aL]
  walk_at"st"
  have plain:∀{P:gS},(∀ s aB i',over names s->aQ s<=n+1+1->(cnt s:Int)<=l->cG [a,b] st aB->0<=i'->aB a=some (.lst [.int i'])->aB b=some (.lst [.int (l-cnt s)])->P.rt (toD s) aB) ->
    cO (aJ G (k+n+4)) G.sub [.asg (.nm 6) (.call is [(.v 0),(.v 1),(.v 2),(.bin .sub (.v 3) (.c (.int 1))),(.v 4)]),.iff (.or_ (.cmp .eq (.v 5) (.c (.int 4))) (.cmp .gt (.v 5) (.c (.int 8)))) [.ret (.tup [(.c (.str (W "not"))),(.v 6)])] [],.ret (.tup [(.ix (.lst [(.c (.str (W "and"))),(.c (.str (W "or"))),(.c (.str (W "then"))),(.c (.str (W "same")))]) (.bin .sub (.v 5) (.c (.int 5)))),(.v 6),(.call is [(.v 0),(.v 1),(.v 2),(.bin .sub (.v 3) (.c (.int 1))),(.v 4)])])] P [some (.bL (ns.map .int)),some (.ref a),some (.tup (names.map .str)),some (.int ((n+1:Nat):Int)),some (.ref b),some (.int v),none] aC:=by
   intro P hQ
   walk_at"st"
   rw[hn1]
   refine ih a1 b1 (by omega) hl fun s1 aF i2 o1 d1 cc1 k2 hi2 a2 b2=>?_
   walk_at"st"
   have hor:((v==4)||decide (8<v))=true∨(v=5∨v=6∨v=7∨v=8):=by
    by_cases q:v=4
    ·left;simp [q]
    ·by_cases q':8<v
     ·left;simp [q']
     ·right;omega
   rcases hor with hor|hor
   ·have go:cO (aJ G (k+n+4)) G.sub [.ret (.tup [.c (.str (W "not")),.v 6])] { P with nx:=cO (aJ G (k+n+4)) G.sub [.ret (.tup [(.ix (.lst [(.c (.str (W "and"))),(.c (.str (W "or"))),(.c (.str (W "then"))),(.c (.str (W "same")))]) (.bin .sub (.v 5) (.c (.int 5)))),(.v 6),(.call is [(.v 0),(.v 1),(.v 2),(.bin .sub (.v 3) (.c (.int 1))),(.v 4)])])] P } [some (.bL (ns.map .int)),some (.ref a),some (.tup (names.map .str)),some (.int ((n+1:Nat):Int)),some (.ref b),some (.int v),some (toD s1)] aF:=by
     walk_at"st"
     exact hQ (.one .not s1) aF i2 o1 (by simp only[aQ];omega) (by simp [cnt,p1];omega) (kk.trans k2) hi2 a2 (by simpa [cnt,p1]using b2)
    by_cases q:v=4
    ·simp only[q,beq_self_eq_true,if_true]
     rw[q]at go;exact go
    ·have q1:(v==4)=false:=by rw[beq_eq_false_iff_ne];exact q
     have q2:8<v:=by simpa [q1]using hor
     simp only[q1,q2,az,if_false,if_true]
     exact go
   ·have q1:(v==4)=false:=by rw[beq_eq_false_iff_ne];omega
    have q2:¬8<v:=by omega
    simp only[q1,q2,az,if_false,aL]
    walk_at"st"
    refine cB (by decide) fun p bK x3 hp hp3=>?_
    walk_at"ex"
    rw[eS hp3]
    have pa:p≠a:=fun z=>by rw[z,a2]at hp;cases hp
    have pb:p≠b:=fun z=>by rw[z,b2]at hp;cases hp
    have step:∀ w:W2,p2 w=false->∀{Q:VK},(∀ s aB i',over names s->aQ s<=n+1+1->(cnt s:Int)<=l->cG [a,b] st aB->0<=i'->aB a=some (.lst [.int i'])->aB b=some (.lst [.int (l-cnt s)])->Q (toD s) aB) ->
      aJ G (k+n+4) is [.bL (ns.map .int),.ref a,.tup (names.map .str),.int (((n+1:Nat):Int)-1),.ref b] bK (fun d aB=>Q (.tup [.str (c2 w),toD s1,d]) aB) fun c aB=>P.ex c [some (.bL (ns.map .int)),some (.ref a),some (.tup (names.map .str)),some (.int ((n+1:Nat):Int)),some (.ref b),some (.int v),some (toD s1)] aB:=by
     intro w hw Q hQ
     rw[hn1]
     refine ih (x3 a _ a2) (x3 b _ b2) hi2 (by omega) fun s2 cN i4 o2 d2 c2' k4 hi4 a4 b4=>?_
     refine hQ (.two w s1 s2) cN i4 ⟨o1,o2⟩ (by simp only[aQ];omega) (by simp only[cnt,hw];simp;omega) ((kk.trans k2).trans (x3.keep.trans k4)) hi4 a4 ?_
     rw[b4];simp only[cnt,hw];simp;omega
    rcases hor with rfl|rfl|rfl|rfl
    ·walk_at"ex"; exact step .and rfl hQ
    ·walk_at"ex"; exact step .or rfl hQ
    ·walk_at"ex"; exact step .aY rfl hQ
    ·walk_at"ex"; exact step .same rfl hQ
  by_cases h8:8<v
  ·simp only[h8,if_true]
   rw[eS b1]
   walk_at"ex"
   by_cases hl0:0<l
   ·simp only[hl0,if_true]
    walk_at"st"
    rw[eS b1]
    walk_at"ex"
    rw[aG b1]
    simp only[VN,aW,di]
    have a2:(put aC b (.lst [.int (l-1)])) a=some (.lst [.int (i+1)]):=by rw[aU dU];exact a1
    have kp:cG [a,b] st (put aC b (.lst [.int (l-1)])):=kk.trans (cG.put (by simp))
    walk_at"st"
    rw[hn1]
    refine ih a2 aV (by omega) (by omega) fun s1 aF i2 o1 d1 cc1 k2 hi2 a3 b3=>?_
    walk_at"st"
    by_cases e12:v=12
    ·simp only[e12,beq_self_eq_true,if_true]
     walk_at"st"
     rw[hn1]
     refine ih a3 b3 hi2 (by omega) fun s2 cN i4 o2 d2 c2' k4 hi4 a4 b4=>?_
     refine hQ (.two .since s1 s2) cN i4 ⟨o1,o2⟩ (by simp only[aQ];omega) (by simp [cnt,p2];omega) ((kp.trans k2).trans k4) hi4 a4 ?_
     rw[b4];simp [cnt,p2];omega
    ·have e12':(v==12)=false:=by rw[beq_eq_false_iff_ne];exact e12
     simp only[e12',az,if_false,aL]
     walk_at"st"
     refine cB (by decide) fun p bK x3 hp hp3=>?_
     walk_at"ex"
     rw[eS hp3]
     have fin:∀ w:W1,p1 w=true->Q (.tup [.str (c1 w),toD s1]) bK:=fun w hw=>by
      refine hQ (.one w s1) bK i2 o1 (by simp only[aQ];omega) (by simp [cnt,hw];omega) ((kp.trans k2).trans x3.keep) hi2 (x3 _ _ a3) ?_
      rw[x3 _ _ b3];simp [cnt,hw];omega
     obtain rfl|rfl|rfl:v=9∨v=10∨v=11:=by omega
     ·walk_at"ex"; exact fin .before rfl
     ·walk_at"ex"; exact fin .once rfl
     ·walk_at"ex"; exact fin .sofar rfl
   ·simp only[hl0,if_false,aL]
    exact plain hQ
  ·simp only[h8,if_false,aL]
   exact plain hQ
end
noncomputable def nJ:List (List Nat):=[W "a", W "b", W "x", W "y", W "lamp", W "far", W "yesno", W "abcdefgh"]
noncomputable def sI (fs gs:List (List Nat)):Bool:=decide (1<=fs.length)&&decide (fs.length<=2)&&decide (1<=gs.length)&&decide (gs.length<=2)&&decide ((fs++gs).Nodup)&&(fs++gs).all fun n=>nJ.contains n
noncomputable def oR (t:Int):List (List Nat):=cut nJ (some t) none++cut nJ none (some t)
theorem RD:∀(t:Fin 8)(f g:Fin 2),sI (cut (oR (t.val:Nat)) none (some (1+(f.val:Nat)))) (cut (oR (t.val:Nat)) (some (1+(f.val:Nat))) (some (1+(f.val:Nat)+(1+(g.val:Nat)))))=true:=by decide +kernel
theorem PK {t f g:Int}(h0:0<=t)(h1:t<8)(h2:0<=f)(h3:f<2)(h4:0<=g)(h5:g<2):sI (cut (oR t) none (some (1+f))) (cut (oR t) (some (1+f)) (some (1+f+(1+g))))=true:=by
 have:=RD ⟨t.toNat,by omega⟩ ⟨f.toNat,by omega⟩ ⟨g.toNat,by omega⟩
 simp only[qr h0,qr h2,qr h4]at this
 exact this
theorem xU {α β:Type}(f:α->β)(xs:List α)(lo hi:Option Int):cut (xs.map f) lo hi=(cut xs lo hi).map f:=by
 simp only[cut,ab,List.map_take,List.map_drop]
noncomputable def vD (dD:Nat):Fn:=⟨2,7,[.asg (.nm 2) (.lst [(.c (.str (W "a"))),(.c (.str (W "b"))),(.c (.str (W "x"))),(.c (.str (W "y"))),(.c (.str (W "lamp"))),(.c (.str (W "far"))),(.c (.str (W "yesno"))),(.c (.str (W "abcdefgh")))]),.asg (.nm 3) (.call dD [(.v 0),(.v 1),(.c (.int 8))]),.asg (.nm 4) (.bin .add (.sl (.v 2) [(.v 3)] []) (.sl (.v 2) [] [(.v 3)])),.asg (.nm 5) (.bin .add (.c (.int 1)) (.call dD [(.v 0),(.v 1),(.c (.int 2))])),.asg (.nm 6) (.bin .add (.c (.int 1)) (.call dD [(.v 0),(.v 1),(.c (.int 2))])),.ret (.tup [(.bi .tuple [(.sl (.v 4) [] [(.v 5)])]),(.bi .tuple [(.sl (.v 4) [(.v 5)] [(.bin .add (.v 5) (.v 6))])])])]⟩
section
variable {G:Prog}{k ic im dD is:Nat}{st:aA}{Q:VK}{E:XK}{ns:List Int}
theorem RO {inm:Nat}(hm':G.fns inm=some (vD dD))(hn:G.fns dD=some (pD im))(hm:G.fns im=some (kS ic))(hc:G.fns ic=some mF){a:Nat}{i:Int}(ha:st a=some (.lst [.int i]))(hi:0<=i)
  (hQ:∀ fs gs aB i',sI fs gs=true->cG [a] st aB->0<=i'->aB a=some (.lst [.int i'])->Q (.tup [.tup (fs.map .str),.tup (gs.map .str)]) aB):
  aJ G (k+4) inm [.bL (ns.map .int),.ref a] st Q E:=by
 have hL:bD=16777216:=rfl
 rw[aX hm']
 simp only[vD,start]
 refine⟨rfl,?_⟩
 walk_at"st"
 refine cB (by decide) fun p aC x1 hp hp1=>?_
 have pa:p≠a:=fun z=>by rw[z,ha]at hp;cases hp
 walk_at"st"
 refine fP hn hm hc (x1 a _ ha) hi (by omega) fun aF k2 a2=>?_
 have t0:=fN (ns:=ns) (k:=i+1) (many:=8) (by omega)
 have t1:=fQ (ns:=ns) (k:=i+1) (many:=8) (by omega)
 generalize jD ns (i+1) 8=t at t0 t1
 have p2:=k2 p _ (by simpa using pa) hp1
 walk_at"st"
 rw[aG p2]
 intro q hq
 have x3:Ext aF (put aF q (.lst (cut [.str (W "a"),.str (W "b"),.str (W "x"),.str (W "y"),.str (W "lamp"),.str (W "far"),.str (W "yesno"),.str (W "abcdefgh")] (some t) none))):=Ext.new hq
 walk_at"ex"
 rw[aG (x3 p _ p2)]
 intro q' hq'
 have x4:=Ext.new (o:=.lst (cut [.str (W "a"),.str (W "b"),.str (W "x"),.str (W "y"),.str (W "lamp"),.str (W "far"),.str (W "yesno"),.str (W "abcdefgh")] none (some t))) hq'
 walk_at"ex"
 rw[aG (x4 q _ aV),aG aV]
 have eL:([.str (W "a"),.str (W "b"),.str (W "x"),.str (W "y"),.str (W "lamp"),.str (W "far"),.str (W "yesno"),.str (W "abcdefgh")]:List D)=nJ.map .str:=rfl
 have er:cut ([.str (W "a"),.str (W "b"),.str (W "x"),.str (W "y"),.str (W "lamp"),.str (W "far"),.str (W "yesno"),.str (W "abcdefgh")]:List D) (some t) none++cut [.str (W "a"),.str (W "b"),.str (W "x"),.str (W "y"),.str (W "lamp"),.str (W "far"),.str (W "yesno"),.str (W "abcdefgh")] none (some t)=(oR t).map .str:=by
  rw[eL,xU,xU,<-b9];rfl
 have lr:(oR t).length<=16:=by
  have l1:=xR (xs:=nJ) (lo:=some t) (hi:=none)
  have l2:=xR (xs:=nJ) (lo:=none) (hi:=some t)
  have l3:nJ.length=8:=rfl
  simp only[oR,bg];omega
 rw[er]
 refine cB (by simp only[ab];omega) fun r dG x5 hr hr5=>?_
 have k5:cG [a] st dG:=((x1.keep.trans k2).trans x3.keep).trans (x4.keep.trans x5.keep)
 have a5:dG a=some (.lst [.int (i+1)]):=x5 _ _ (x4 _ _ (x3 _ _ a2))
 have ra:r≠a:=fun z=>by rw[z,x4 _ _ (x3 _ _ a2)]at hr;cases hr
 walk_at"st"
 refine fP hn hm hc a5 (by omega) (by omega) fun gT k6 a6=>?_
 have f0:=fN (ns:=ns) (k:=i+1+1) (many:=2) (by omega)
 have f1:=fQ (ns:=ns) (k:=i+1+1) (many:=2) (by omega)
 generalize jD ns (i+1+1) 2=f at f0 f1
 walk_at"ex"
 walk_at"st"
 refine fP hn hm hc a6 (by omega) (by omega) fun vB k7 a7=>?_
 have g0:=fN (ns:=ns) (k:=i+1+1+1) (many:=2) (by omega)
 have g1:=fQ (ns:=ns) (k:=i+1+1+1) (many:=2) (by omega)
 generalize jD ns (i+1+1+1) 2=g at g0 g1
 have r7:vB r=some (.lst ((oR t).map .str)):=k7 r _ (by simpa using ra) (k6 r _ (by simpa using ra) hr5)
 walk_at"ex"
 walk_at"st"
 rw[aG r7]
 intro u hu
 walk_at"ex"
 rw[aG aV]
 have xu:=Ext.new (o:=.lst (cut ((oR t).map D.str) none (some (1+f)))) hu
 have c1:=xR (xs:=(oR t).map D.str) (lo:=none) (hi:=some (1+f))
 have c2:=xR (xs:=(oR t).map D.str) (lo:=some (1+f)) (hi:=some (1+f+(1+g)))
 simp only[ab]at c1 c2
 refine⟨by omega,?_⟩
 rw[aG (xu r _ r7)]
 intro u' hu'
 walk_at"ex"
 rw[aG aV]
 refine⟨by omega,?_⟩
 have xu':=Ext.new (o:=.lst (cut ((oR t).map D.str) (some (1+f)) (some (1+f+(1+g))))) hu'
 rw[xU,xU]at *
 exact hQ _ _ _ (i+1+1+1) (PK t0 t1 f0 f1 g0 g1) ((k5.trans (k6.trans k7)).trans (xu.keep.trans xu'.keep)) (by omega) (xu' _ _ (xu _ _ a7))
end
mutual
theorem K0:∀ d:D,bH d=true->bT d d=true
 |.non,_=>rfl
 |.bl b,_=>by simp [bT]
 |.int i,_=>by simp [bT]
 |.str x,_=>by simp [bT]
 |.tup ds,h=>by simp only[bH]at h;simp only[bT];exact IU ds h
 |.ref _,h=>by simp [bH]at h
 |.cY _ _,h=>by simp [bH]at h
 |.bL _,h=>by simp [bH]at h
 |.exc _,h=>by simp [bH]at h
theorem IU:∀ ds:List D,bI ds=true->dI ds ds=true
 |[],_=>rfl
 |d::ds,h=>by
  simp only[bI,ar]at h
  simp only[dI,K0 d h.1,IU ds h.2,fq]
end
theorem ZS (w w':W1):(c1 w==c1 w')=decide (w=w'):=by cases w<;>cases w'<;>decide +kernel
theorem Z0 (w w':W2):(c2 w==c2 w')=decide (w=w'):=by cases w<;>cases w'<;>decide +kernel
theorem K9 (w:W1):(W "lamp" == c1 w)=false/\(c1 w==W "lamp")=false:=by cases w<;>decide +kernel
theorem cK {st:aA}{as bs:List D}:bJ st (.tup as) (.tup bs)=gA st as bs:=by simp only[bJ]
theorem bV {st:aA}{a b:D}{as bs:List D}:gA st (a::as) (b::bs)=(bJ st a b&&gA st as bs):=by simp only[gA]
theorem qC {st:aA}:gA st [] []=true:=rfl
theorem lL {st:aA}{b:D}{bs:List D}:gA st [] (b::bs)=false:=rfl
theorem lQ {st:aA}{b:D}{bs:List D}:gA st (b::bs) []=false:=rfl
theorem OB:(W "yes" == W "no")=false/\(W "no" == W "yes")=false:=by decide +kernel
theorem yA {st:aA}:∀ s t:Sy,bJ st (toD s) (toD t)=decide (s=t)
 |.yes,.yes=>by simp only[toD,cK,bV,iV,qC,beq_self_eq_true,fq,decide_true]
 |.yes,.no=>by simp only[toD,cK,bV,iV,OB.1,i7];rfl
 |.yes,.eO _=>by simp only[toD,cK,bV,lL,cq];rfl
 |.yes,.one _ _=>by simp only[toD,cK,bV,lL,cq];rfl
 |.yes,.two _ _ _=>by simp only[toD,cK,bV,lL,cq];rfl
 |.no,.yes=>by simp only[toD,cK,bV,iV,OB.2,i7];rfl
 |.no,.no=>by simp only[toD,cK,bV,iV,qC,beq_self_eq_true,fq,decide_true]
 |.no,.eO _=>by simp only[toD,cK,bV,lL,cq];rfl
 |.no,.one _ _=>by simp only[toD,cK,bV,lL,cq];rfl
 |.no,.two _ _ _=>by simp only[toD,cK,bV,lL,cq];rfl
 |.eO _,.yes=>by simp only[toD,cK,bV,lQ,cq];rfl
 |.eO _,.no=>by simp only[toD,cK,bV,lQ,cq];rfl
 |.eO m,.eO n=>by
  simp only[toD,cK,bV,qC,iV,beq_self_eq_true,nz,nq,Sy.eO.injEq]
  rw[Bool.beq_eq_decide_eq]
 |.eO m,.one w s=>by simp only[toD,cK,bV,iV,(K9 w).1,i7];rfl
 |.eO _,.two _ _ _=>by simp only[toD,cK,bV,lL,cq];rfl
 |.one _ _,.yes=>by simp only[toD,cK,bV,lQ,cq];rfl
 |.one _ _,.no=>by simp only[toD,cK,bV,lQ,cq];rfl
 |.one w s,.eO m=>by simp only[toD,cK,bV,iV,(K9 w).2,i7];rfl
 |.one w s,.one w' s'=>by
  simp only[toD,cK,bV,qC,iV,ZS,yA s s',nz,Sy.one.injEq]
  by_cases h:w=w'<;>by_cases h':s=s'<;>simp [h,h']
 |.one _ _,.two _ _ _=>by simp only[toD,cK,bV,lL,cq];rfl
 |.two _ _ _,.yes=>by simp only[toD,cK,bV,lQ,cq];rfl
 |.two _ _ _,.no=>by simp only[toD,cK,bV,lQ,cq];rfl
 |.two _ _ _,.eO _=>by simp only[toD,cK,bV,lQ,cq];rfl
 |.two _ _ _,.one _ _=>by simp only[toD,cK,bV,lQ,cq];rfl
 |.two w s t,.two w' s' t'=>by
  simp only[toD,cK,bV,qC,iV,Z0,yA s s',yA t t',nz,Sy.two.injEq]
  by_cases h:w=w'<;>by_cases h':s=s'<;>by_cases h'':t=t'<;>simp [h,h',h'']
theorem YR {st:aA}(x:Sy)(f:List Sy):((f.map toD).any fun d=>bJ st d (toD x))=f.contains x:=by
 induction f with
 |nil=>rfl
 |cons y r ih =>
 simp only[aq,iq,ih,yA,yf]
 congr 1
 by_cases h:y=x
 ·simp [h]
 ·simp [h,jn h]
theorem QW (f:List Sy):bI (f.map toD)=true:=by
 induction f with
 |nil=>rfl
 |cons x r ih=>simp only[aq,bI,pR,ih,fq]
theorem SU {n:Nat}(f:List Sy)(h:∀ s∈f,aQ s<=n):cC (f.map toD)<=n:=by
 induction f with
 |nil=>exact cx _
 |cons x r ih =>
 simp only[aq,cC,sE]
 have:=h x (by simp)
 have:=ih fun s hs=>h s (by simp [hs])
 omega
theorem QH {st:aA}{s:Sy}(h:aQ s<=60):plainS st (toD s):=⟨nA _ (pR s),bu (by rw[sE];exact h) (by decide)⟩
theorem L8 {st:aA}{f:List Sy}(h:∀ s∈f,aQ s<=60):cZ st (f.map toD):=⟨iX _ (QW f),bu (SU f h) (by decide)⟩
noncomputable def wd:Sy->List Nat
 |.yes=>W "yes"
 |.no=>W "no"
 |.eO _=>W "lamp"
 |.one w _=>c1 w
 |.two w _ _=>c2 w
noncomputable def subs:Sy->List Sy
 |.one _ s=>[s]
 |.two _ s t=>[s,t]
 |_=>[]
noncomputable def jM:Sy->Bool
 |.one w _=>p1 w
 |.two w _ _=>p2 w
 |_=>false
noncomputable def qB:Sy->Bool
 |.eO _=>true
 |_=>false
theorem HS (s:Sy):∃ r,toD s=.tup (.str (wd s)::r):=by cases s<;>exact⟨_,rfl⟩
theorem SW {s:Sy}(h:qB s=false):toD s=.tup (.str (wd s)::(subs s).map toD):=by cases s<;>first|rfl|cases h
noncomputable def CG:List (List Nat):=[W "before", W "once", W "sofar", W "since"]
theorem YV (s:Sy):CG.contains (wd s)=jM s:=by
 cases s with
 |one w s=>cases w<;>(simp only[wd,jM];decide +kernel)
 |two w s t=>cases w<;>(simp only[wd,jM];decide +kernel)
 |_=>(simp only[wd,jM];decide +kernel)
theorem XI (s:Sy):(wd s==W "lamp")=qB s:=by
 cases s with
 |one w s=>cases w<;>(simp only[wd,qB];decide +kernel)
 |two w s t=>cases w<;>(simp only[wd,qB];decide +kernel)
 |_=>(simp only[wd,qB];decide +kernel)
noncomputable def iG (f:List Sy)(s:Sy):List Sy:=if jM s && !f.contains s then f++[s]else f
noncomputable def mW:Sy->List Sy->List Sy
 |.one w s,f=>mW s (iG f (.one w s))
 |.two w s t,f=>mW t (mW s (iG f (.two w s t)))
 |_,f=>f
noncomputable def iL:List Sy->List Sy->List Sy
 |[],f=>f
 |s::r,f=>iL r (mW s f)
theorem Cv (s:Sy)(f:List Sy):mW s f=iL (subs s) (iG f s):=by
 cases s<;>simp [mW,subs,iL,iG,jM]
theorem J9 (a b:List Sy)(f:List Sy):iL (a++b) f=iL b (iL a f):=by
 induction a generalizing f with
 |nil=>rfl
 |cons x r ih=>simp only[kq,iL,ih]
theorem O1 (s:Sy)(r f:List Sy):iL (s::r) f=iL (subs s++r) (iG f s):=by rw[J9,<-Cv];rfl
noncomputable def sz:Sy->Nat
 |.one _ s=>sz s+1
 |.two _ s t=>sz s+sz t+1
 |_=>1
noncomputable def lU (l:List Sy):Nat:=(l.map sz).sum
theorem FX:∀ s:Sy,sz s+1<=2 ^ aQ s
 |.yes=>by decide
 |.no=>by decide
 |.eO _=>by simp only[sz,aQ];decide
 |.one w s=>by have:=FX s;simp only[sz,aQ,zc];omega
 |.two w s t=>by
  have h1:=FX s
  have h2:=FX t
  have a:=f7 (n:=2) (by omega) (vj (aQ s) (aQ t))
  have b:=f7 (n:=2) (by omega) (ur (aQ s) (aQ t))
  simp only[sz,aQ,zc];omega
theorem V9 (s:Sy):lU (subs s)+1=sz s:=by cases s<;>simp [subs,lU,sz]
theorem TM {s t:Sy}(h:t∈subs s):aQ t<aQ s:=by cases s<;>simp [subs]at h<;>simp only[aQ]<;>(try rcases h with rfl|rfl)<;>(try subst h)<;>omega
theorem AK {f:List Sy}{s:Sy}{n:Nat}(h:∀ x∈f,aQ x<=n)(hs:aQ s<=n):∀ x∈iG f s,aQ x<=n:=by
 unfold iG
 split
 ·intro x hx
  rcases List.mem_append.mp hx with hx|hx
  ·exact h x hx
  ·simp at hx;subst hx;exact hs
 ·exact h
theorem SH (f:List Sy)(s:Sy):(iG f s).length<=f.length+1:=by unfold iG;split<;>simp
theorem yF:∀(s:Sy){f:List Sy}{n:Nat},(∀ x∈f,aQ x<=n)->aQ s<=n->∀ x∈mW s f,aQ x<=n
 |.yes,_,_,h,_=>h
 |.no,_,_,h,_=>h
 |.eO _,_,_,h,_=>h
 |.one w s,f,n,h,hs=>yF s (AK h hs) (by simp only[aQ]at hs;omega)
 |.two w s t,f,n,h,hs=>yF t (yF s (AK h hs) (by simp only[aQ]at hs;omega)) (by simp only[aQ]at hs;omega)
noncomputable def lR:Fn:=⟨1,1,[.iff (.cmp .eq (.ix (.v 0) (.c (.int 0))) (.c (.str (W "lamp")))) [.ret (.tup [])] [],.ret (.sl (.v 0) [(.c (.int 1))] [])]⟩
noncomputable def MS:D:=.tup (CG.map .str)
noncomputable def wR (iw:Nat):Fn:=⟨1,4,[.asg (.nm 1) (.lst []),.asg (.nm 2) (.bit .list .rev [(.v 0)]),.whl (.v 2) [.asg (.nm 3) (.dF .pop (.v 2) []),.iff (.and_ (.cmp .in_ (.ix (.v 3) (.c (.int 0))) (.c MS)) (.cmp .gE (.v 3) (.v 1))) [.ex (.dF .append (.v 1) [(.v 3)])] [],.ex (.dF .extend (.v 2) [(.bit .list .rev [(.call iw [(.v 3)])])])],.ret (.v 1)]⟩
section
variable {G:Prog}{k ip iw:Nat}{st:aA}{Q:VK}{E:XK}
theorem EJ (hw:G.fns iw=some lR){s:Sy}(hQ:Q (.tup ((subs s).map toD)) st):aJ G (k+1) iw [toD s] st Q E:=by
 rw[aX hw]
 simp only[lR,start]
 refine⟨rfl,?_⟩
 obtain⟨r,er⟩:=HS s
 walk_at"st"
 rw[er]
 walk_at"ex"
 rw[XI,<-er]
 cases h:qB s with
 |true =>
 simp only[if_true]
 walk_at"st"
 cases s<;>first|exact hQ|cases h
 |false =>
 simp only[az,if_false,aL]
 walk_at"st"
 rw[SW h]
 walk_at"ex"
 exact hQ
end
theorem mQ {C:bC}{sub:Nat->Nat->Bool}(hC:bO C C){c:Ex}{b:List Sx}{P:gS}(I:Nat->St->aA->Prop)
  (step:∀ m σ st,I m σ st->aE C sub (fun c aB=>P.ex c σ aB) c σ st fun d aB=>eE d aB fun k =>
   if k=true then cO C sub b { P with nx:=fun σ st=>∃ m',m'<m/\I m' σ st,ct:=fun σ st=>∃ m',m'<m/\I m' σ st,bk:=P.nx } σ aB else P.nx σ aB){m:Nat}{σ:St}{st:aA}(h:I m σ st):wpS C sub (.whl c b) P σ st:=by
 refine⟨m+1,?_⟩
 have key:∀(n m:Nat)(σ:St)(st:aA),m<n->I m σ st->nT (fun next σ st=>aE C sub (fun c aB=>P.ex c σ aB) c σ st fun d aB=>eE d aB fun k =>
   if k=true then cO C sub b { P with nx:=next,ct:=next,bk:=P.nx } σ aB else P.nx σ aB) n σ st:=by
  intro n
  induction n with
  |zero=>intro m σ st h;omega
  |succ n ih =>
   intro m σ st hm hI
   refine aS hC (fun _ _ z=>z) c (fun d aB=>iW fun k=>?_) (step m σ st hI)
   split
   ·exact iC hC b ⟨fun σ st ⟨m',h1,h2⟩=>ih m' σ st (by omega) h2,fun _ _ z=>z,fun _ _ z=>z,fun σ st ⟨m',h1,h2⟩=>ih m' σ st (by omega) h2,fun _ _ _ z=>z⟩
   ·exact id
 exact key (m+1) m σ st (by omega) h
section
variable {G:Prog}{k ip iw iz:Nat}{st:aA}{Q:VK}{E:XK}
theorem AM (s:Sy)(r:List Sy):lU (s::r)=sz s+lU r:=by simp [lU]
theorem CT (a b:List Sy):lU (a++b)=lU a+lU b:=by simp [lU]
theorem QA (s:Sy):0<sz s:=by cases s<;>simp [sz]
theorem DA (r:List Sy):r.length<=lU r:=by
 induction r with
 |nil=>simp
 |cons s r ih=>have:=QA s;simp only[AM,a9];omega
theorem HE (hz:G.fns iz=some (wR iw))(hw:G.fns iw=some lR){l:Nat}{ss:List Sy}(hl:st l=some (.lst (ss.map toD)))(hd:∀ x∈ss,aQ x<=60)(hs:lU ss<bD)
  (hQ:∀ p aB,Ext st aB->aB p=some (.lst ((iL ss []).map toD))->Q (.ref p) aB):aJ G (k+2) iz [.ref l] st Q E:=by
 rw[aX hz]
 simp only[wR,start]
 refine⟨rfl,?_⟩
 walk_at"st"
 refine cB (by decide) fun p aC x1 hp hp1=>?_
 walk_at"st"
 rw[aG (x1 l _ hl)]
 refine cB (by have:=DA ss;simp only[qs,ab];omega) fun q aF x2 hq hq2=>?_
 have hpq:p≠q:=fun z=>by rw[z]at hp1;rw[hq]at hp1;cases hp1
 have p2:=x2 p _ hp1
 try dsimp only
 refine eU ?_
 refine mQ (gM G (av _)) (fun m σ aB=>∃(stack f:List Sy)(o:Option D),σ=[some (.ref l),some (.ref p),some (.ref q),o]/\aB p=some (.lst (f.map toD))/\aB q=some (.lst (stack.map toD).reverse)/\lU stack=m /\
  (∀ x∈stack,aQ x<=60)/\(∀ x∈f,aQ x<=60)/\f.length+lU stack<bD/\iL stack f=iL ss []/\Ext st aB) ?_ (m:=lU ss) ⟨ss,[],none,rfl,p2,hq2,rfl,hd,by simp,by simpa using hs,rfl,fun a o e=>x2 a o (x1 a o e)⟩
 rintro m σ bK ⟨stack,f,o,rfl,hp3,hq3,hm,hds,hdf,hlen,Li,x3⟩
 walk_at"ex"
 rw[X0,cM hq3]
 cases stack with
 |nil =>
  simp only[mi,List.reverse_nil,zv,ju,az,if_false]
  walk_at"st"
  refine hQ p bK x3 ?_
  rw[<-Li];exact hp3
 |cons s r =>
  have hne:(!((qd toD (s::r)).reverse).isEmpty)=true:=by simp
  rw[hne]
  simp only[if_true]
  have hds':=hds s (by simp)
  rw[AM]at hm hlen
  have hsp:=QA s
  have hss:=V9 s
  walk_at"st"
  rw[aG hq3]
  refine⟨trivial,?_⟩
  rw[aG hq3]
  have elast:((qd toD (s::r)).reverse)[((qd toD (s::r)).reverse).length-1]? = some (toD s):=by
   simp only[aq,jd,bg,a9,bh]
   rw[du (by simp)]
   simp
  have edrop:((qd toD (s::r)).reverse).dropLast=(r.map toD).reverse:=by simp
  rw[elast,edrop,aW]
  try dsimp only
  have hp4:(put bK q (.lst (r.map toD).reverse)) p=some (.lst (f.map toD)):=by rw[aU hpq];exact hp3
  have hx4:Ext st (put bK q (.lst (r.map toD).reverse)):=fun a u e=>by
   by_cases ha:a=q
   ·exfalso
    rw[ha]at e
    rw[x1 q _ e]at hq;cases hq
   ·rw[aU ha];exact x3 a u e
  have head:∀{P:gS}{cN:aA}{rest:List Sx},cN p=some (.lst (f.map toD)) ->
    (∀ aB,cG [p] cN aB->aB p=some (.lst ((iG f s).map toD))->cO (aJ G (k+1)) G.sub rest P [some (.ref l),some (.ref p),some (.ref q),some (toD s)] aB) ->
    cO (aJ G (k+1)) G.sub ((.iff (.and_ (.cmp .in_ (.ix (.v 3) (.c (.int 0))) (.c MS)) (.cmp .gE (.v 3) (.v 1))) [.ex (.dF .append (.v 1) [(.v 3)])] [])::rest) P [some (.ref l),some (.ref p),some (.ref q),some (toD s)] cN:=by
   intro P cN rest hb hN
   obtain⟨rr,er⟩:=HS s
   walk_at"st"
   rw[er]
   simp only[MS]
   walk_at"ex"
   rw[<-er]
   refine⟨(zI CG).s,?_⟩
   have e1:(List.any (CG.map .str) fun d=>bJ cN d (.str (wd s)))=jM s:=(GA (wd s) CG).trans (YV s)
   rw[e1]
   cases hpp:jM s with
   |false =>
    simp only[az,if_false,aL]
    refine hN cN .refl ?_
    simp only[iG,hpp,i7,az,if_false]
    exact hb
   |true =>
    simp only[if_true]
    rw[nQ,cM hb,YR]
    refine⟨QH hds',L8 hdf,?_⟩
    cases hc:f.contains s with
    |true =>
     simp only[ju,az,if_false,aL]
     refine hN cN .refl ?_
     simp only[iG,hpp,hc,ju,cq,az,if_false]
     exact hb
    |false =>
     simp only[ox,if_true]
     walk_at"st"
     rw[aG hb]
     refine⟨trivial,?_⟩
     rw[aG hb]
     refine⟨by simp only[ab];omega,?_⟩
     rw[aL]
     refine hN _ (cG.put (by simp)) ?_
     rw[aV]
     simp only[iG,hpp,hc,ox,fq,if_true,b9,aq,mi]
  refine head hp4 fun dG k5 hp5=>?_
  have hq5:dG q=some (.lst (r.map toD).reverse):=k5 q _ (by simpa using jn hpq) aV
  have hx5:Ext st dG:=fun a u e=>by
   by_cases ha:a=p
   ·exfalso
    rw[ha]at e;rw[hp]at e;cases e
   ·exact k5 a u (by simpa using ha) (hx4 a u e)
  walk_at"st"
  rw[aG hq5]
  refine⟨trivial,EJ hw ?_⟩
  walk_at"ex"
  have hsl:=DA (subs s)
  have hrl:=DA r
  refine cB (by simp only[qs,ab];omega) fun u gT x6 hu hu6=>?_
  walk_at"ex"
  rw[aG (x6 q _ hq5),aG hu6]
  refine⟨by simp only[qs,ab];omega,?_⟩
  rw[aL]
  dsimp only
  refine⟨lU (subs s++r),by rw[CT];omega,subs s++r,iG f s,_,rfl,?_,?_,rfl,fun x hx=>?_,AK hdf hds',?_,?_,fun a v e=>?_⟩
  ·rw[aU hpq];exact x6 p _ hp5
  ·rw[aV];simp
  ·rcases List.mem_append.mp hx with hx|hx
   ·have:=TM hx;omega
   ·exact hds x (by simp [hx])
  ·have:=SH f s;rw[CT];omega
  ·rw[<-O1];exact Li
  ·by_cases ha:a=q
   ·exfalso
    rw[ha]at e
    rw[x1 q _ e]at hq;cases hq
   ·rw[aU ha];exact x6 a v (hx5 a v e)
end
noncomputable def fR:List (List Nat):=[W "yes", W "no", W "not", W "and", W "or", W "then", W "same", W "before", W "once", W "sofar", W "since", W "foe", W "friend", W "promise", W "must", W "wish"]
noncomputable def fE:List Nat:=W "abcdefghijklmnopqrstuvwxyz"
noncomputable def gZ (nn lt lg:D):Fn:=⟨1,1,[.iff (.or_ (.not_ (.isi (.v 0) [.str])) (.cmp .in_ (.v 0) (.c nn))) [.ret (.c (.bl false))] [],.ret (.and_ (.chain .le .le (.c (.int 1)) (.bi .len [(.v 0)]) (.c lg)) (.bi .all [(.comp 1 [] [0] true none [(.v 0)] [] (.cmp .in_ (.v 0) (.c lt)))]))]⟩
noncomputable def fK (w:List Nat):Bool:=!(fR.any (·== w))&&decide (1<=w.length)&&decide (w.length<=8)&&w.all fun c=>occurs [c] fE
section
variable {G:Prog}{k i:Nat}{st:aA}{Q:VK}{E:XK}
theorem Y3 (st:aA)(w:List Nat):((fR.map D.str).any fun d=>bJ st d (.str w))=fR.any (·== w):=by
 rw[oz];rfl
theorem PJ (st:aA):cZ st (fR.map D.str):=⟨rfl,by decide⟩
noncomputable def RV:D->Bool
 |.str x=>occurs x fE
 |_=>false
theorem FA:∀(w:List Nat),boolsOf ((w.map fun c=>D.str [c]).map fun d=>.bl (RV d))=some (w.map fun c=>occurs [c] fE)
 |[]=>rfl
 |c::r=>by
  show(boolsOf ((r.map fun c=>D.str [c]).map fun d=>.bl (RV d))).map (_ :: ·)=_
  rw[FA r];rfl
set_option tactic.hygienic true in
theorem BB (h:G.fns i=some (gZ (.tup (fR.map .str)) (.str fE) (.int 8))){w:List Nat}(hw:w.length<=bD)(hQ:∀ aB,Ext st aB->Q (.bl (fK w)) aB):aJ G (k+1) i [.str w] st Q E:=by
 have hL:bD=16777216:=rfl
 rw[aX h]
 simp only[gZ,start]
 refine⟨rfl,?_⟩
 walk_at"st"
 refine⟨PJ st,?_⟩
 rw[Y3]
 cases c1:fR.any (·== w)with
 |true =>
  simp only[if_true]
  walk_at"st"
  have e:fK w=false:=by simp [fK,c1]
  rw[<-e];exact hQ _ (fun _ _ z=>z)
 |false =>
  simp only[az,if_false]
  rw[aL]
  walk_at"st"
  refine⟨hw,?_⟩
  split
  ·rename_i g1
   split
   ·rename_i g2
    refine⟨hw,?_⟩
    refine comp_map (fun d=>.bl (RV d)) _ [] st (fun aB x a ha=>by cases ha) ?_ (by simp only[ab,bh];omega) fun aB x=>?_
    ·intro x hx aB K x1 hK
     obtain⟨c,hc,rfl⟩:=List.mem_map.mp hx
     exact hK aB .refl
    ·rw[b7]
     refine cB (by simp only[ab];omega) fun p aF x2 hp kM=>?_
     simp only[eG]
     rw[aG kM,FA]
     have e:fK w=(w.map fun c=>occurs [c] fE).all id:=by
      simp only[fK,c1,u6]
      have h1:decide (1<=w.length)=true:=decide_eq_true (by omega)
      have h2:decide (w.length<=8)=true:=decide_eq_true (by omega)
      rw[h1,h2]
      rfl
     show Q _ _
     rw[<-e]
     exact hQ _ (x.trans x2)
   ·rename_i g2
    have e:fK w=decide ((w.length:Int)<=8):=by
     have h2:decide (w.length<=8)=false:=decide_eq_false (by omega)
     have h3:decide ((w.length:Int)<=8)=false:=decide_eq_false g2
     simp only[fK,h2,h3,cq,i7]
    rw[<-e];exact hQ _ .refl
  ·rename_i g1
   have e:fK w=false:=by
    have h1:decide (1<=w.length)=false:=decide_eq_false (by omega)
    simp only[fK,h1,cq,i7]
   rw[<-e];exact hQ _ .refl
end
noncomputable def kW (gU fI:Nat)(sw:D):Fn:=⟨3,3,[.iff (.or_ (.cmp .lt (.v 2) (.c (.int 1))) (.or_ (.not_ (.isi (.v 1) [.tuple])) (.or_ (.cmp .lt (.bi .len [(.v 1)]) (.c (.int 1))) (.not_ (.isi (.ix (.v 1) (.c (.int 0))) [.str]))))) [.ret (.c (.bl false))] [],.iff (.cmp .eq (.ix (.v 1) (.c (.int 0))) (.c (.str (W "lamp")))) [.ret (.and_ (.cmp .eq (.bi .len [(.v 1)]) (.c (.int 2))) (.and_ (.call gU [(.ix (.v 1) (.c (.int 1)))]) (.cmp .in_ (.ix (.v 1) (.c (.int 1))) (.v 0))))] [],.iff (.or_ (.cmp .gE (.ix (.v 1) (.c (.int 0))) (.c sw)) (.cmp .ne (.bi .len [(.v 1)]) (.bin .add (.c (.int 1)) (.ix (.c sw) (.ix (.v 1) (.c (.int 0))))))) [.ret (.c (.bl false))] [],.ret (.bi .all [(.comp 1 [0,2] [0] true none [(.sl (.v 1) [(.c (.int 1))] [])] [] (.call fI [(.v 1),(.v 0),(.bin .sub (.v 2) (.c (.int 1)))]))])]⟩
section
variable {G:Prog}{k gU fI:Nat}{Q:VK}{E:XK}
noncomputable def vQ:List D:=[(.str (W "yes")),(.str (W "no")),(.str (W "not")),(.str (W "before")),(.str (W "once")),(.str (W "sofar")),(.str (W "and")),(.str (W "or")),(.str (W "then")),(.str (W "same")),(.str (W "since"))]
noncomputable def zX:List D:=[(.int 0),(.int 0),(.int 1),(.int 1),(.int 1),(.int 1),(.int 2),(.int 2),(.int 2),(.int 2),(.int 2)]
theorem hU {α:Type}:∀(ps:List α),boolsOf (ps.map fun _=>.bl true)=some (ps.map fun _=>true)
 |[]=>rfl
 |_::r=>by
  show(boolsOf (r.map fun _=>.bl true)).map (true :: ·)=_
  rw[hU r];rfl
theorem tU (h:G.fns fI=some (kW gU fI (.cY vQ zX))){nm:D}{w:List Nat}{ps:List D}{st:aA}{d:Int}(hd:1<=d)(hl:¬(w==W "lamp")=true)(hin:(vQ.any fun x=>bT x (.str w))=true)(har:uL vQ zX (.str w)=some (.int ps.length))(hps:ps.length<=2)
  (hp:∀ x∈ps,∀(aB:aA)(Q':VK)(E':XK),Ext st aB->(∀ bX,Ext aB bX->Q' (.bl true) bX)->aJ G k fI [nm,x,.int (d-1)] aB Q' E')(hQ:∀ aB,Ext st aB->Q (.bl true) aB):aJ G (k+1) fI [nm,.tup (.str w::ps),.int d] st Q E:=by
 have hL:bD=16777216:=rfl
 rw[aX h]
 simp only[kW,start]
 refine⟨rfl,?_⟩
 walk_at"st"
 have n1:¬d<1:=by omega
 simp only[if_neg n1]
 have n2:¬((ps.length+1:Nat):Int)<1:=by omega
 simp only[a9,if_neg n2]
 walk_at"ex"
 rw[aL]
 walk_at"st"
 rw[if_neg hl]
 rw[aL]
 walk_at"st"
 rw[hin]
 simp only[ju,az,if_false]
 rw[har]
 show plainS st (.int (1+(ps.length:Int)))/\_
 refine⟨⟨rfl,cx _⟩,?_⟩
 have n3:¬(!bJ st (.int ((ps.length+1:Nat):Int)) (.int (1+(ps.length:Int))))=true:=by
  have e:(((ps.length+1:Nat):Int)==1+(ps.length:Int))=true:=beq_iff_eq.mpr (by omega)
  simp only[bJ,e,ju,az,not_false_iff]
 rw[if_neg n3,aL]
 walk_at"st"
 refine comp_map (fun _=>.bl true) ps [] st (fun aB x a ha=>by cases ha) (fun x hx aB K x1 hK=>hp x hx aB _ _ x1 fun bX x2=>hK bX x2) (by simp only[bh];omega) fun aB x1=>?_
 rw[b7]
 refine cB (by simp only[ab];omega) fun p aF x2 hp' kM=>?_
 simp only[eG]
 rw[aG kM,hU]
 show Q (.bl (((ps.map fun _=>true).all id))) _
 have e:(ps.map fun _=>true).all id=true:=by simp
 rw[e]
 exact hQ _ (x1.trans x2)
theorem E4 {n:List Nat}(h:fK n=true):n.length<=8:=by
 simp only[fK,ar,decide_eq_true_eq]at h
 exact h.1.2
theorem nN (st:aA):∀(names:List (List Nat)),cZ st (names.map D.str)
 |[]=>⟨rfl,cx _⟩
 |n::r=>⟨by simp only[aq,gP,gK,nq];exact(nN st r).1,by simp only[aq,cC,dJ];have:=(nN st r).2;omega⟩
theorem PU (st:aA)(names:List (List Nat))(n:List Nat)(h:n∈names):((names.map D.str).any fun d=>bJ st d (.str n))=true:=by
 rw[oz]
 exact List.any_eq_true.mpr ⟨n,h,by show(n==n)=true;simp⟩
theorem O2 (h:G.fns fI=some (kW gU fI (.cY vQ zX)))(hn:G.fns gU=some (gZ (.tup (fR.map .str)) (.str fE) (.int 8))){names:List (List Nat)}(kL:∀ n∈names,fK n=true){n:List Nat}(ho:n∈names){st:aA}{d:Int}(hd:1<=d)
 (hQ:∀ aB,Ext st aB->Q (.bl true) aB):aJ G (k+1+1) fI [.tup (names.map .str),.tup [.str (W "lamp"),.str n],.int d] st Q E:=by
 have hL:bD=16777216:=rfl
 rw[aX h]
 simp only[kW,start]
 refine⟨rfl,?_⟩
 walk_at"st"
 have n1:¬d<1:=by omega
 simp only[if_neg n1]
 walk_at"ex"
 have n2:¬((0+1+1:Nat):Int)<1:=by decide
 simp only[if_neg n2]
 walk_at"ex"
 rw[aL]
 walk_at"st"
 have n3:(W "lamp" == W "lamp")=true:=by simp
 simp only[n3,if_true]
 walk_at"st"
 rw[if_pos (by decide)]
 refine BB (w:=n) hn (by have:=E4 (kL n ho);omega) fun aB x1=>?_
 rw[kL n ho]
 show cZ aB (names.map .str)/\Q (.bl ((names.map D.str).any fun d=>bJ aB d (.str n))) aB
 refine⟨nN aB names,?_⟩
 rw[PU aB names n ho]
 exact hQ _ x1
theorem yK (h:G.fns fI=some (kW gU fI (.cY vQ zX)))(hn:G.fns gU=some (gZ (.tup (fR.map .str)) (.str fE) (.int 8))){names:List (List Nat)}(kL:∀ n∈names,fK n=true):
  ∀(s:Sy){k:Nat}{st:aA}{Q:VK}{E:XK}{d:Int},over names s->(aQ s:Int)<=d->(∀ aB,Ext st aB->Q (.bl true) aB)->aJ G (k+aQ s+1) fI [.tup (names.map .str),toD s,.int d] st Q E
 |.yes,k,st,Q,E,d,ho,hd,hQ=>by
  simp only[aQ]at hd
  exact tU h (by omega) (by decide) (by decide) rfl (by decide) (fun x hx=>by cases hx) hQ
 |.no,k,st,Q,E,d,ho,hd,hQ=>by
  simp only[aQ]at hd
  exact tU h (by omega) (by decide) (by decide) rfl (by decide) (fun x hx=>by cases hx) hQ
 |.eO n,k,st,Q,E,d,ho,hd,hQ=>by
  simp only[aQ]at hd ⊢
  exact O2 h hn kL ho (by omega) hQ
 |.one w s,k,st,Q,E,d,ho,hd,hQ=>by
  simp only[aQ]at hd ⊢
  refine tU (ps:=[toD s]) h (by omega) (by cases w<;>decide) (by cases w<;>decide) (by cases w<;>rfl) (by simp) (fun x hx aB Q' E' x1 hQ'=>?_) hQ
  simp only[bw]at hx
  subst hx
  have:=yK h hn kL s (k:=k) (st:=aB) (Q:=Q') (E:=E') (d:=d-1) ho (by omega) hQ'
  exact this
 |.two w s t,k,st,Q,E,d,ho,hd,hQ=>by
  simp only[aQ]at hd ⊢
  refine tU (ps:=[toD s,toD t]) h (by omega) (by cases w<;>decide) (by cases w<;>decide) (by cases w<;>rfl) (by simp) (fun x hx aB Q' E' x1 hQ'=>?_) hQ
  have l1:=vj (aQ s) (aQ t)
  have l2:=ur (aQ s) (aQ t)
  simp only[cu,cb,or_false]at hx
  rcases hx with rfl|rfl
  ·have:=yK h hn kL s (k:=k+(max (aQ s) (aQ t)-aQ s)) (st:=aB) (Q:=Q') (E:=E') (d:=d-1) ho.1 (by omega) hQ'
   have e:k+(max (aQ s) (aQ t)-aQ s)+aQ s+1=k+(max (aQ s) (aQ t)+1):=by omega
   rw[e]at this;exact this
  ·have:=yK h hn kL t (k:=k+(max (aQ s) (aQ t)-aQ t)) (st:=aB) (Q:=Q') (E:=E') (d:=d-1) ho.2 (by omega) hQ'
   have e:k+(max (aQ s) (aQ t)-aQ t)+aQ t+1=k+(max (aQ s) (aQ t)+1):=by omega
   rw[e]at this;exact this
end
noncomputable def fZ:Fn:=⟨3,3,[.ret (.and_ (.isi (.v 0) [.tuple]) (.chain .le .le (.v 1) (.bi .len [(.v 0)]) (.v 2)))]⟩
noncomputable def A7 (ir gU:Nat)(ml:D):Fn:=⟨2,3,[.iff (.or_ (.not_ (.call ir [(.v 0),(.c (.int 1)),(.c ml)])) (.not_ (.call ir [(.v 1),(.c (.int 1)),(.c ml)]))) [.ret (.c (.bl false))] [],.asg (.nm 2) (.bin .add (.v 0) (.v 1)),.ret (.and_ (.bi .all [(.comp 1 [] [0] true none [(.v 2)] [] (.call gU [(.v 0)]))]) (.cmp .eq (.bi .tG [(.v 2)]) (.bi .len [(.v 2)])))]⟩
section
variable {G:Prog}{k ir gU il:Nat}{st:aA}{Q:VK}{E:XK}
theorem lP (h:G.fns ir=some fZ){ds:List D}{lo hi:Int}(hQ:Q (.bl (decide (lo<=(ds.length:Int))&&decide ((ds.length:Int)<=hi))) st):aJ G (k+1) ir [.tup ds,.int lo,.int hi] st Q E:=by
 rw[aX h]
 simp only[fZ,start]
 refine⟨rfl,?_⟩
 walk_at"st"
 by_cases c:lo<=(ds.length:Int)
 ·rw[if_pos c]
  rw[decide_eq_true c,nq]at hQ
  exact hQ
 ·rw[if_neg c]
  rw[decide_eq_false c,i7]at hQ
  exact hQ
theorem E9:∀(ws seen:List (List Nat)),(seen++ws).Nodup->xD seen ws=ws.length
 |[],_,_=>rfl
 |w::r,seen,h=>by
  have e:seen.any (·== w)=false:=by
   rw[td]
   intro x hx z
   have:x=w:=by simpa using z
   subst this
   rw[tu]at h
   exact h.2.2 x hx x (by simp) rfl
  show(if seen.any (·== w)=true then 0 else 1)+xD (seen++[w]) r=_
  rw[e,E9 r (seen++[w]) (by simpa using h)]
  simp only[az,if_false,a9]
  omega
theorem BH:∀(ws:List (List Nat)),strsOf (ws.map .str)=some ws
 |[]=>rfl
 |w::r=>by
  show(strsOf (r.map .str)).map (w :: ·)=_
  rw[BH r];rfl
theorem TN (h:G.fns il=some (A7 ir gU (.int 2)))(hr:G.fns ir=some fZ)(hn:G.fns gU=some (gZ (.tup (fR.map .str)) (.str fE) (.int 8))){fs gs:List (List Nat)}(h1:1<=fs.length)(h2:fs.length<=2)(h3:1<=gs.length)(h4:gs.length<=2)(h5:(fs++gs).Nodup)(h6:∀ n∈fs++gs,fK n=true)
  (hQ:∀ aB,Ext st aB->Q (.bl true) aB):aJ G (k+2) il [.tup (fs.map .str),.tup (gs.map .str)] st Q E:=by
 have hL:bD=16777216:=rfl
 rw[aX h]
 simp only[A7,start]
 refine⟨rfl,?_⟩
 walk_at"st"
 refine lP hr ?_
 have e1:(decide ((1:Int)<=((fs.map D.str).length:Int))&&decide (((fs.map D.str).length:Int)<=2))=true:=by simp only[ab,ar,decide_eq_true_eq];omega
 rw[e1]
 walk_at"ex"
 refine lP hr ?_
 have e2:(decide ((1:Int)<=((gs.map D.str).length:Int))&&decide (((gs.map D.str).length:Int)<=2))=true:=by simp only[ab,ar,decide_eq_true_eq];omega
 rw[e2]
 walk_at"ex"
 rw[aL]
 walk_at"st"
 refine⟨by simp only[ab];omega,?_⟩
 rw[<-b9]
 walk_at"st"
 refine comp_map (fun _=>.bl true) _ [] st (fun aB x a ha=>by cases ha) (fun x hx aB K x1 hK=>?_) (by simp only[ab,bg,bh];omega) fun aB x1=>?_
 ·obtain⟨n,hn',rfl⟩:=List.mem_map.mp hx
  refine BB (w:=n) hn (by have:=E4 (h6 n hn');omega) fun bX x2=>?_
  rw[h6 n hn']
  exact hK bX x2
 ·rw[b7]
  refine cB (by simp only[ab,bg];omega) fun p aF x2 hp' kM=>?_
  simp only[eG]
  rw[aG kM,hU]
  rw[aW,BH,aW]
  have e3:(qd (fun _=>true) ((fs++gs).map D.str)).all id=true:=by simp
  rw[if_pos e3]
  refine⟨by simp only[bg];omega,?_⟩
  have e4:(((xD [] (fs++gs):Nat):Int)==((((fs++gs).map D.str).length:Nat):Int))=true:=by
   rw[E9 (fs++gs) [] (by simpa using h5),ab];simp
  rw[e4]
  exact hQ _ (x1.trans x2)
end
noncomputable def nU (fI:Nat)(dp:D):Fn:=⟨2,2,[.ret (.call fI [(.v 0),(.v 1),(.c dp)])]⟩
noncomputable def sY (ir iy:Nat):Fn:=⟨3,3,[.ret (.and_ (.call ir [(.v 1),(.c (.int 0)),(.v 2)]) (.bi .all [(.comp 1 [0] [0] true none [(.v 1)] [] (.call iy [(.v 1),(.v 0)]))]))]⟩
noncomputable def nG (hp:D):Fn:=⟨1,1,[.ret (.and_ (.isi (.v 0) [.int]) (.and_ (.not_ (.isi (.v 0) [.bool])) (.chain .le .le (.c (.int 1)) (.v 0) (.c hp))))]⟩
noncomputable def tD (ir ip iy:Nat):Fn:=⟨2,2,[.ret (.and_ (.call ir [(.v 1),(.c (.int 2)),(.c (.int 2))]) (.and_ (.call ip [(.ix (.v 1) (.c (.int 0)))]) (.call iy [(.v 0),(.ix (.v 1) (.c (.int 1)))])))]⟩
noncomputable def tJ (ir iw:Nat)(mw:D):Fn:=⟨2,2,[.ret (.and_ (.call ir [(.v 1),(.c (.int 1)),(.c mw)]) (.bi .all [(.comp 1 [0] [0] true none [(.v 1)] [] (.call iw [(.v 1),(.v 0)]))]))]⟩
section
variable {G:Prog}{k ir gU fI iy ip iw ia:Nat}{st:aA}{Q:VK}{E:XK}{names:List (List Nat)}
theorem D0 (hy:G.fns iy=some (nU fI (.int 8)))(h:G.fns fI=some (kW gU fI (.cY vQ zX)))(hn:G.fns gU=some (gZ (.tup (fR.map .str)) (.str fE) (.int 8)))(kL:∀ n∈names,fK n=true){s:Sy}(ho:over names s)(hd:aQ s<=8)
 (hQ:∀ aB,Ext st aB->Q (.bl true) aB):aJ G (k+10) iy [.tup (names.map .str),toD s] st Q E:=by
 rw[aX hy]
 simp only[nU,start]
 refine⟨rfl,?_⟩
 walk_at"st"
 have:=yK h hn kL s (k:=k+(8-aQ s)) (st:=st) (Q:=Q) (E:=E) (d:=8) ho (by omega) hQ
 have e:k+(8-aQ s)+aQ s+1=k+9:=by omega
 rw[e]at this;exact this
theorem BM (ha:G.fns ia=some (sY ir iy))(hr:G.fns ir=some fZ)(hy:G.fns iy=some (nU fI (.int 8)))(h:G.fns fI=some (kW gU fI (.cY vQ zX)))(hn:G.fns gU=some (gZ (.tup (fR.map .str)) (.str fE) (.int 8)))(kL:∀ n∈names,fK n=true){ss:List Sy}{m:Int}
  (ho:∀ s∈ss,over names s/\aQ s<=8)(hl:(ss.length:Int)<=m)(hl2:ss.length<=1000)(hQ:∀ aB,Ext st aB->Q (.bl true) aB):aJ G (k+11) ia [.tup (names.map .str),.tup (ss.map toD),.int m] st Q E:=by
 have hL:bD=16777216:=rfl
 rw[aX ha]
 simp only[sY,start]
 refine⟨rfl,?_⟩
 walk_at"st"
 refine lP hr ?_
 have e1:(decide ((0:Int)<=((ss.map toD).length:Int))&&decide (((ss.map toD).length:Int)<=m))=true:=by simp only[ab,ar,decide_eq_true_eq];omega
 rw[e1]
 walk_at"ex"
 refine comp_map (fun _=>.bl true) _ [] st (fun aB x a ha=>by cases ha) (fun x hx aB K x1 hK=>?_) (by simp only[ab,bh];omega) fun aB x1=>?_
 ·obtain⟨s,hs,rfl⟩:=List.mem_map.mp hx
  exact D0 hy h hn kL (ho s hs).1 (ho s hs).2 fun bX x2=>hK bX x2
 ·rw[b7]
  refine cB (by simp only[ab];omega) fun p aF x2 hp' kM=>?_
  simp only[eG]
  rw[aG kM,hU,aW]
  have e3:(qd (fun _=>true) (ss.map toD)).all id=true:=by simp
  rw[e3]
  exact hQ _ (x1.trans x2)
theorem J7 (h:G.fns ip=some (nG (.int 99))){p:Int}(h1:1<=p)(h2:p<=99)(hQ:Q (.bl true) st):aJ G (k+1) ip [.int p] st Q E:=by
 rw[aX h]
 simp only[nG,start]
 refine⟨rfl,?_⟩
 walk_at"st"
 rw[if_pos h1,decide_eq_true h2]
 exact hQ
theorem NM (hw:G.fns iw=some (tD ir ip iy))(hr:G.fns ir=some fZ)(hp:G.fns ip=some (nG (.int 99)))(hy:G.fns iy=some (nU fI (.int 8)))(h:G.fns fI=some (kW gU fI (.cY vQ zX)))(hn:G.fns gU=some (gZ (.tup (fR.map .str)) (.str fE) (.int 8)))(kL:∀ n∈names,fK n=true){s:Sy}{p:Int}
 (h1:1<=p)(h2:p<=99)(ho:over names s)(hd:aQ s<=8)(hQ:∀ aB,Ext st aB->Q (.bl true) aB):aJ G (k+11) iw [.tup (names.map .str),.tup [.int p,toD s]] st Q E:=by
 rw[aX hw]
 simp only[tD,start]
 refine⟨rfl,?_⟩
 walk_at"st"
 refine lP hr ?_
 have e1:(decide ((2:Int)<=(([.int p,toD s]:List D).length:Int))&&decide ((([.int p,toD s]:List D).length:Int)<=2))=true:=rfl
 rw[e1]
 walk_at"ex"
 refine J7 hp h1 h2 ?_
 walk_at"ex"
 exact D0 hy h hn kL ho hd fun bX x2=>hQ bX x2
end
noncomputable def qV (ih ib:Nat):Fn:=⟨2,2,[.iff (.cmp .eq (.ix (.v 1) (.c (.int 0))) (.c (.str (W "before")))) [.ret (.c (.bl false))] [],.iff (.cmp .eq (.ix (.v 1) (.c (.int 0))) (.c (.str (W "lamp")))) [.ret (.cmp .in_ (.ix (.v 1) (.c (.int 1))) (.v 0))] [],.ret (.bi .any [(.comp 1 [0] [0] true none [(.call ih [(.v 1)])] [] (.call ib [(.v 1),(.v 0)]))])]⟩
noncomputable def fW (gs:List (List Nat)):Sy->Bool
 |.eO n=>gs.any (·== n)
 |.one .before _=>false
 |.one _ s=>fW gs s
 |.two _ s t=>fW gs s||fW gs t
 |_=>false
section
variable {G:Prog}{k ih ib ir gU fI iy ip iw ia:Nat}{st:aA}{Q:VK}{E:XK}{names:List (List Nat)}
theorem J8 (ha:G.fns ia=some (tJ ir iw (.int 5)))(hw:G.fns iw=some (tD ir ip iy))(hr:G.fns ir=some fZ)(hp:G.fns ip=some (nG (.int 99)))(hy:G.fns iy=some (nU fI (.int 8)))(h:G.fns fI=some (kW gU fI (.cY vQ zX)))(hn:G.fns gU=some (gZ (.tup (fR.map .str)) (.str fE) (.int 8)))(kL:∀ n∈names,fK n=true){ws:List (Int×Sy)}
  (ho:∀ w∈ws,1<=w.1/\w.1<=99/\over names w.2/\aQ w.2<=8)(h1:1<=ws.length)(h2:ws.length<=5)(hQ:∀ aB,Ext st aB->Q (.bl true) aB):aJ G (k+12) ia [.tup (names.map .str),.tup (ws.map fun w=>.tup [.int w.1,toD w.2])] st Q E:=by
 have hL:bD=16777216:=rfl
 rw[aX ha]
 simp only[tJ,start]
 refine⟨rfl,?_⟩
 walk_at"st"
 refine lP hr ?_
 have e1:(decide ((1:Int)<=((ws.map fun w=>D.tup [.int w.1,toD w.2]).length:Int))&&decide (((ws.map fun w=>D.tup [.int w.1,toD w.2]).length:Int)<=5))=true:=by simp only[ab,ar,decide_eq_true_eq];omega
 rw[e1]
 walk_at"ex"
 refine comp_map (fun _=>.bl true) _ [] st (fun aB x a ha=>by cases ha) (fun x hx aB K x1 hK=>?_) (by simp only[ab,bh];omega) fun aB x1=>?_
 ·obtain⟨s,hs,rfl⟩:=List.mem_map.mp hx
  obtain⟨o1,o2,o3,o4⟩:=ho s hs
  exact NM hw hr hp hy h hn kL o1 o2 o3 o4 fun bX x2=>hK bX x2
 ·rw[b7]
  refine cB (by simp only[ab];omega) fun p aF x2 hp' kM=>?_
  simp only[eG]
  rw[aG kM,hU,aW]
  have e3:(qd (fun _=>true) (ws.map fun w=>D.tup [.int w.1,toD w.2])).all id=true:=by simp
  rw[e3]
  exact hQ _ (x1.trans x2)
end
theorem iU {α:Type}{g:aA->Prop}{turn:D->aA->(Option D->aA->Prop)->Prop}{R:List D->aA->Prop}(t f:α->D):∀(xs:List α)(acc:List D)(st:aA),
  (∀ aB,Ext st aB->g aB)->(∀ x∈xs,∀ aB (K:Option D->aA->Prop),Ext st aB->(∀ bX,Ext aB bX->K (some (f x)) bX)->turn (t x) aB K) ->
  acc.length+xs.length<=bD->(∀ aB,Ext st aB->R (acc++xs.map f) aB)->jG g turn (xs.map t) acc st R
 |[],acc,st,hg,_,_,hR=>⟨hg st .refl,by simpa using hR st .refl⟩
 |x::xs,acc,st,hg,ht,hl,hR=>by
  simp only[a9]at hl
  refine⟨hg st .refl,by omega,ht x (by simp) st _ .refl fun bX h''=>?_⟩
  exact iU t f xs (acc++[f x]) bX (fun aB h=>hg aB (h''.trans h)) (fun y hy aB K h=>ht y (by simp [hy]) aB K (h''.trans h)) (by simp only[bg,a9,bh];omega) fun aB h=>by simpa using hR aB (h''.trans h)
theorem AB {α:Type}(b:α->Bool):∀(ps:List α),boolsOf (ps.map fun x=>.bl (b x))=some (ps.map b)
 |[]=>rfl
 |x::r=>by
  show(boolsOf (r.map fun x=>.bl (b x))).map (b x :: ·)=_
  rw[AB b r];rfl
section
variable {G:Prog}{k ih ib:Nat}{Q:VK}{E:XK}{gs:List (List Nat)}
theorem uA (h:G.fns ib=some (qV ih ib))(hh:G.fns ih=some lR){s:Sy}{st:aA}(h1:¬(wd s==W "before")=true)(h2:qB s=false)(h3:¬(wd s==W "lamp")=true)(h4:(subs s).length<=2)
 (hp:∀ x∈subs s,∀(aB:aA)(Q':VK)(E':XK),Ext st aB->(∀ bX,Ext aB bX->Q' (.bl (fW gs x)) bX)->aJ G (k+1) ib [.tup (gs.map .str),toD x] aB Q' E')(hQ:∀ aB,Ext st aB->Q (.bl ((subs s).any (fW gs))) aB):aJ G (k+2) ib [.tup (gs.map .str),toD s] st Q E:=by
 have hL:bD=16777216:=rfl
 rw[aX h]
 simp only[qV,start]
 refine⟨rfl,?_⟩
 obtain⟨r,er⟩:=HS s
 rw[er]
 walk_at"st"
 rw[if_neg h1,aL]
 walk_at"st"
 rw[if_neg h3,aL]
 walk_at"st"
 rw[<-er]
 refine EJ hh ?_
 walk_at"ex"
 refine iU toD (fun x=>.bl (fW gs x)) _ [] st (fun aB x a ha=>by cases ha) (fun x hx aB K x1 hK=>hp x hx aB _ _ x1 fun bX x2=>hK bX x2) (by simp only[bh];omega) fun aB x1=>?_
 rw[b7]
 refine cB (by simp only[ab];omega) fun p aF x2 hp' kM=>?_
 simp only[eG]
 rw[aG kM,AB,aW,oz]
 exact hQ _ (x1.trans x2)
theorem xO (h:G.fns ib=some (qV ih ib))(hh:G.fns ih=some lR):∀(s:Sy){k:Nat}{st:aA}{Q:VK}{E:XK},(∀ aB,Ext st aB->Q (.bl (fW gs s)) aB)->aJ G (k+aQ s+1) ib [.tup (gs.map .str),toD s] st Q E
 |.yes,k,st,Q,E,hQ=>uA (k:=k) h hh (by decide) rfl (by decide) (by decide) (fun x hx=>by cases hx) hQ
 |.no,k,st,Q,E,hQ=>uA (k:=k) h hh (by decide) rfl (by decide) (by decide) (fun x hx=>by cases hx) hQ
 |.eO n,k,st,Q,E,hQ=>by
  rw[aX h]
  simp only[qV,start,toD]
  refine⟨rfl,?_⟩
  walk_at"st"
  have n1:¬(W "lamp" == W "before")=true:=by decide
  rw[if_neg n1,aL]
  walk_at"st"
  have n3:(W "lamp" == W "lamp")=true:=by decide
  rw[if_pos n3]
  walk_at"st"
  refine⟨nN st gs,?_⟩
  have e:((gs.map D.str).any fun d=>bJ st d (.str n))=fW gs (.eO n):=by rw[oz];rfl
  rw[e]
  exact hQ _ .refl
 |.one w s,k,st,Q,E,hQ=>by
  by_cases hw:w=.before
  ·subst hw
   rw[aX h]
   simp only[qV,start,toD,c1]
   refine⟨rfl,?_⟩
   walk_at"st"
   have n1:(W "before" == W "before")=true:=by decide
   rw[if_pos n1]
   walk_at"st"
   exact hQ _ .refl
  ·have e0:k+aQ (.one w s)+1=(k+aQ s)+2:=by simp only[aQ];omega
   rw[e0]
   refine uA h hh (show ¬(c1 w==W "before")=true by cases w<;>first|decide|exact absurd rfl hw) rfl (show ¬(c1 w==W "lamp")=true by cases w<;>decide) (by simp [subs]) (fun x hx aB Q' E' x1 hQ'=>?_) (fun aB x1=>?_)
   ·simp only[subs,cu,cb,or_false]at hx
    rw[hx]at hQ' ⊢
    exact xO h hh s (k:=k) (st:=aB) (Q:=Q') (E:=E') hQ'
   ·have e1:(subs (.one w s)).any (fW gs)=fW gs (.one w s):=by
     cases w<;>first|exact absurd rfl hw|simp [subs,fW]
    rw[e1];exact hQ aB x1
 |.two w s t,k,st,Q,E,hQ=>by
  have l1:=vj (aQ s) (aQ t)
  have l2:=ur (aQ s) (aQ t)
  have e0:k+aQ (.two w s t)+1=(k+max (aQ s) (aQ t))+2:=by simp only[aQ];omega
  rw[e0]
  refine uA h hh (show ¬(c2 w==W "before")=true by cases w<;>decide) rfl (show ¬(c2 w==W "lamp")=true by cases w<;>decide) (by simp [subs]) (fun x hx aB Q' E' x1 hQ'=>?_) (fun aB x1=>by simpa [subs,fW]using hQ aB x1)
  simp only[subs,cu,cb,or_false]at hx
  rcases hx with hx|hx
  ·rw[hx]at hQ' ⊢
   have:=xO h hh s (k:=k+(max (aQ s) (aQ t)-aQ s)) (st:=aB) (Q:=Q') (E:=E') hQ'
   have e:k+(max (aQ s) (aQ t)-aQ s)+aQ s+1=k+max (aQ s) (aQ t)+1:=by omega
   rw[e]at this;exact this
  ·rw[hx]at hQ' ⊢
   have:=xO h hh t (k:=k+(max (aQ s) (aQ t)-aQ t)) (st:=aB) (Q:=Q') (E:=E') hQ'
   have e:k+(max (aQ s) (aQ t)-aQ t)+aQ t+1=k+max (aQ s) (aQ t)+1:=by omega
   rw[e]at this;exact this
end
noncomputable def xS (ia ib:Nat)(mp:D):Fn:=⟨3,3,[.ret (.and_ (.call ia [(.v 0),(.v 2),(.c mp)]) (.not_ (.bi .any [(.comp 1 [1] [0] true none [(.v 2)] [] (.call ib [(.v 1),(.v 0)]))])))]⟩
noncomputable def B1:Fn:=⟨3,3,[.ret (.bin .add (.bin .add (.bi .list [(.v 0)]) (.bi .list [(.v 1)])) (.comp 1 [] [0] true none [(.v 2)] [] (.ix (.v 0) (.c (.int 1)))))]⟩
section
variable {G:Prog}{k ih ib ir gU fI iy ia iap io:Nat}{st:aA}{Q:VK}{E:XK}{names gs:List (List Nat)}
theorem NO (hp:G.fns iap=some (xS ia ib (.int 3)))(hb:G.fns ib=some (qV ih ib))(hh:G.fns ih=some lR)(ha:G.fns ia=some (sY ir iy))(hr:G.fns ir=some fZ)(hy:G.fns iy=some (nU fI (.int 8)))(h:G.fns fI=some (kW gU fI (.cY vQ zX)))(hn:G.fns gU=some (gZ (.tup (fR.map .str)) (.str fE) (.int 8)))(kL:∀ n∈names,fK n=true){ss:List Sy}
  (ho:∀ s∈ss,over names s/\aQ s<=8)(hl:ss.length<=3)(hbare:∀ s∈ss,fW gs s=false)(hQ:∀ aB,Ext st aB->Q (.bl true) aB):aJ G (k+12) iap [.tup (names.map .str),.tup (gs.map .str),.tup (ss.map toD)] st Q E:=by
 have hL:bD=16777216:=rfl
 rw[aX hp]
 simp only[xS,start]
 refine⟨rfl,?_⟩
 walk_at"st"
 refine BM ha hr hy h hn kL ho (by omega) (by omega) fun aC y1=>?_
 walk_at"ex"
 refine iU toD (fun _=>.bl false) _ [] aC (fun aB x a ha=>by cases ha) (fun x hx aB K x1 hK=>?_) (by simp only[bh];omega) fun aB x1=>?_
 ·have e:k+11=(k+10-aQ x)+aQ x+1:=by have:=(ho x hx).2;omega
  rw[e]
  refine xO hb hh x fun bX x2=>?_
  rw[hbare x hx]
  exact hK bX x2
 ·rw[b7]
  refine cB (by simp only[ab];omega) fun p aF x2 hp' kM=>?_
  simp only[eG]
  rw[aG kM,AB (fun _=>false),aW]
  have e3:(ss.map fun _=>false).any id=false:=by simp
  rw[e3]
  exact hQ _ ((y1.trans x1).trans x2)
theorem OP (h:G.fns io=some B1){ps ms:List Sy}{ws:List (Int×Sy)}(h1:ps.length<=1000)(h2:ms.length<=1000)(h3:ws.length<=1000)
 (hQ:∀ p aB,Ext st aB->aB p=some (.lst ((ps++ms++ws.map (·.2)).map toD))->Q (.ref p) aB):aJ G (k+1) io [.tup (ps.map toD),.tup (ms.map toD),.tup (ws.map fun w=>.tup [.int w.1,toD w.2])] st Q E:=by
 have hL:bD=16777216:=rfl
 rw[aX h]
 simp only[B1,start]
 refine⟨rfl,?_⟩
 walk_at"st"
 refine cB (by simp only[ab];omega) fun p aC x1 hp hp1=>?_
 walk_at"ex"
 refine cB (by simp only[ab];omega) fun q aF x2 hq hq2=>?_
 walk_at"ex"
 rw[aG (x2 _ _ hp1),aG hq2]
 refine cB (by simp only[ab,bg];omega) fun r bK x3 hr hr3=>?_
 refine iU (fun w:Int×Sy=>D.tup [.int w.1,toD w.2]) (fun w=>toD w.2) _ [] bK (fun aB x a ha=>by cases ha) (fun x hx aB K y1 hK=>hK aB .refl) (by simp only[bh];omega) fun cN x4=>?_
 rw[b7]
 refine cB (by simp only[ab];omega) fun u dG x5 hu hu5=>?_
 show cD dG r fun xs=>cD dG u fun ys=>gF (xs++ys) dG Q
 rw[aG (x5 _ _ (x4 _ _ hr3)),aG hu5]
 refine cB (by simp only[ab,bg];omega) fun v gT x6 hv hv6=>?_
 refine hQ v gT (((((x1.trans x2).trans x3).trans x4).trans x5).trans x6) ?_
 rw[hv6]
 simp only[b9,mn]
 rfl
end
noncomputable def xY (ir il iap ia iaw ipi io:Nat)(mm mp:D):Fn:=⟨1,6,[.iff (.or_ (.not_ (.call ir [(.v 0),(.c (.int 5)),(.c (.int 5))])) (.not_ (.call il [(.ix (.v 0) (.c (.int 0))),(.ix (.v 0) (.c (.int 1)))]))) [.ret (.c (.bl false))] [],.asg (.nm 1) (.ix (.v 0) (.c (.int 1))),.asg (.nm 2) (.bin .add (.ix (.v 0) (.c (.int 0))) (.v 1)),.asg (.nm 3) (.ix (.v 0) (.c (.int 2))),.asg (.nm 4) (.ix (.v 0) (.c (.int 3))),.asg (.nm 5) (.ix (.v 0) (.c (.int 4))),.iff (.or_ (.not_ (.call iap [(.v 2),(.v 1),(.v 3)])) (.not_ (.call ia [(.v 2),(.v 4),(.c mm)]))) [.ret (.c (.bl false))] [],.ret (.and_ (.call iaw [(.v 2),(.v 5)]) (.cmp .le (.bi .len [(.call ipi [(.call io [(.v 3),(.v 4),(.v 5)])])]) (.c mp)))]⟩
structure Bk where
 fs:List (List Nat)
 gs:List (List Nat)
 ps:List Sy
 ms:List Sy
 ws:List (Int×Sy)
noncomputable def Bk.d (b:Bk):D:=.tup [.tup (b.fs.map .str),.tup (b.gs.map .str),.tup (b.ps.map toD),.tup (b.ms.map toD),.tup (b.ws.map fun w=>.tup [.int w.1,toD w.2])]
noncomputable def Bk.names (b:Bk):List (List Nat):=b.fs++b.gs
noncomputable def Bk.says (b:Bk):List Sy:=b.ps++b.ms++b.ws.map (·.2)
structure Bk.Ok (b:Bk):Prop where
 f1:1<=b.fs.length
 f2:b.fs.length<=2
 g1:1<=b.gs.length
 g2:b.gs.length<=2
 nd:b.names.Nodup
 nm:∀ n∈b.names,fK n=true
 p1:b.ps.length<=3
 p2:∀ s∈b.ps,over b.names s/\aQ s<=8
 p3:∀ s∈b.ps,fW b.gs s=false
 m1:b.ms.length<=3
 m2:∀ s∈b.ms,over b.names s/\aQ s<=8
 w1:1<=b.ws.length
 w2:b.ws.length<=5
 w3:∀ w∈b.ws,1<=w.1/\w.1<=99/\over b.names w.2/\aQ w.2<=8
section
variable {G:Prog}{k ih ib ir gU fI iy ia iap io il iaw ipi ip iw ibk:Nat}{st:aA}{Q:VK}{E:XK}
theorem nM (h:G.fns ir=some fZ){ds:List D}{lo hi:Int}(h1:lo<=(ds.length:Int))(h2:(ds.length:Int)<=hi)(hQ:Q (.bl true) st):aJ G (k+1) ir [.tup ds,.int lo,.int hi] st Q E :=
 lP h (by rw[decide_eq_true h1,decide_eq_true h2];exact hQ)
end
section
variable {G:Prog}{k ir il iap ia iaw ipi io ibk:Nat}{Q:VK}{E:XK}
theorem J4 (hbk:G.fns ibk=some (xY ir il iap ia iaw ipi io (.int 3) (.int 4)))(hr:G.fns ir=some fZ){F J P M V N:D}{st:aA}{Φ:Nat->aA->Prop}
 (h1:∀(st:aA)(Q:VK)(E:XK),(∀ aB,Ext st aB->Q (.bl true) aB)->aJ G (k+12) il [F,J] st Q E)(h2:∀(st:aA)(Q:VK),Q N st->iI .add F J st Q)
 (h3:∀(st:aA)(Q:VK)(E:XK),(∀ aB,Ext st aB->Q (.bl true) aB)->aJ G (k+12) iap [N,J,P] st Q E)(h4:∀(st:aA)(Q:VK)(E:XK),(∀ aB,Ext st aB->Q (.bl true) aB)->aJ G (k+12) ia [N,M,.int 3] st Q E)
 (h5:∀(st:aA)(Q:VK)(E:XK),(∀ aB,Ext st aB->Q (.bl true) aB)->aJ G (k+12) iaw [N,V] st Q E)(h6:∀(st:aA)(Q:VK)(E:XK),(∀ l aB,Ext st aB->Φ l aB->Q (.ref l) aB)->aJ G (k+12) io [P,M,V] st Q E)
 (h7:∀(l:Nat)(st:aA)(Q:VK)(E:XK),Φ l st->(∀ p aB (xs:List D),Ext st aB->xs.length<=4->aB p=some (.lst xs)->Q (.ref p) aB)->aJ G (k+12) ipi [.ref l] st Q E)
 (hQ:∀ aB,Ext st aB->Q (.bl true) aB):aJ G (k+13) ibk [.tup [F,J,P,M,V]] st Q E:=by
 rw[aX hbk]
 simp only[xY,start]
 refine⟨rfl,?_⟩
 walk_at"st"
 refine nM hr (Th 5) (Th 5) ?_
 walk_at"ex"
 refine h1 _ _ _ fun aC x1=>?_
 walk_at"ex"
 rw[aL]
 try dsimp only
 refine eU ?_
 rw[sT,AR,EZ]
 simp only[↓CU,↓GX]
 rw[oE,show eM [F,J,P,M,V] 1=some J from rfl,aW,yB]
 simp only[eh,di]
 refine eU ?_
 rw[sT,MQ,AR,EZ]
 simp only[↓CU,↓GX]
 rw[oE,show eM [F,J,P,M,V] 0=some F from rfl,aW,EZ]
 simp only[eh,di,↓Eg]
 refine h2 _ _ ?_
 rw[yB]
 simp only[eh,di]
 refine eU ?_
 rw[sT,AR,EZ]
 simp only[eh,di,↓CU,↓GX]
 rw[oE,show eM [F,J,P,M,V] 2=some P from rfl,aW,yB]
 simp only[eh,di]
 refine eU ?_
 rw[sT,AR,EZ]
 simp only[eh,di,↓CU,↓GX]
 rw[oE,show eM [F,J,P,M,V] 3=some M from rfl,aW,yB]
 simp only[eh,di]
 refine eU ?_
 rw[sT,AR,EZ]
 simp only[eh,di,↓CU,↓GX]
 rw[oE,show eM [F,J,P,M,V] 4=some V from rfl,aW,yB]
 simp only[eh,di]
 walk_at"st"
 refine h3 _ _ _ fun aF x2=>?_
 walk_at"ex"
 refine h4 _ _ _ fun bK x3=>?_
 walk_at"ex"
 rw[aL]
 walk_at"st"
 refine h5 _ _ _ fun cN x4=>?_
 walk_at"ex"
 refine h6 _ _ _ fun l dG x5 hl=>?_
 walk_at"ex"
 refine h7 _ _ _ _ hl fun p gT xs x6 hx hp=>?_
 walk_at"ex"
 unfold dY
 rw[hp]
 show Q (.bl (decide ((xs.length:Int)<=4))) gT
 rw[decide_eq_true (show(xs.length:Int)<=4 by omega)]
 exact hQ _ (((((x1.trans x2).trans x3).trans x4).trans x5).trans x6)
end
section
variable {G:Prog}{k ih ib ir gU fI iy ia iap io il iaw ipi ip iw ibk:Nat}{st:aA}{Q:VK}{E:XK}
theorem MV (hbk:G.fns ibk=some (xY ir il iap ia iaw ipi io (.int 3) (.int 4)))(hla:G.fns il=some (A7 ir gU (.int 2)))(hap:G.fns iap=some (xS ia ib (.int 3)))(hb:G.fns ib=some (qV ih ib))(hh:G.fns ih=some lR)(ha:G.fns ia=some (sY ir iy))(hr:G.fns ir=some fZ)(hy:G.fns iy=some (nU fI (.int 8)))(h:G.fns fI=some (kW gU fI (.cY vQ zX)))
  (hn:G.fns gU=some (gZ (.tup (fR.map .str)) (.str fE) (.int 8)))(haw:G.fns iaw=some (tJ ir iw (.int 5)))(hw:G.fns iw=some (tD ir ip iy))(hp:G.fns ip=some (nG (.int 99)))(ho:G.fns io=some B1)(hpi:G.fns ipi=some (wR ih)){b:Bk}(B:b.Ok)(hs:lU b.says<bD)(hd:∀ x∈b.says,aQ x<=60)(hc:(iL b.says []).length<=4)
  (hQ:∀ aB,Ext st aB->Q (.bl true) aB):aJ G (k+13) ibk [b.d] st Q E:=by
 have hL:bD=16777216:=rfl
 have f2:=B.f2
 have g2:=B.g2
 have p1:=B.p1
 have m1:=B.m1
 have w2:=B.w2
 refine J4 hbk hr (N:=.tup (b.names.map .str)) (Φ:=fun l st=>st l=some (.lst (b.says.map toD))) (fun st Q E q=>TN (k:=k+10) hla hr hn B.f1 B.f2 B.g1 B.g2 B.nd B.nm q) (fun st Q q=>?_) (fun st Q E q=>NO (k:=k) hap hb hh ha hr hy h hn B.nm B.p2 B.p1 B.p3 q)
  (fun st Q E q=>BM (k:=k+1) ha hr hy h hn B.nm B.m2 (by omega) (by omega) q) (fun st Q E q=>J8 (k:=k) haw hw hr hp hy h hn B.nm B.w3 B.w1 B.w2 q) (fun st Q E q=>OP (k:=k+11) ho (by omega) (by omega) (by omega) fun p aB x e=>q p aB x e)
  (fun l st Q E e q=>HE (k:=k+10) hpi hh e hd hs fun p aB x e'=>q p aB _ x (by simpa using hc) e') hQ
 show _/\Q _ st
 refine⟨by simp only[ab];omega,?_⟩
 rw[<-b9]
 exact q
end
mutual
theorem UA {st:aA}:∀(a b:D),bH a=true->bJ st a b=bT a b
 |.non,b,_=>by cases b<;>simp only[bJ,bT]
 |.bl _,b,_=>by cases b<;>simp only[bJ,bT]
 |.int _,b,_=>by cases b<;>simp only[bJ,bT]
 |.str _,b,_=>by cases b<;>simp only[bJ,bT]
 |.tup as,b,h=>by
  cases b with
  |tup bs=>simp only[bJ,bT];exact U0 as bs (by simpa [bH]using h)
  |_=>simp only[bJ,bT]
 |.ref _,_,h=>by simp [bH]at h
 |.cY _ _,_,h=>by simp [bH]at h
 |.bL _,_,h=>by simp [bH]at h
 |.exc _,_,h=>by simp [bH]at h
theorem U0 {st:aA}:∀(as bs:List D),bI as=true->gA st as bs=dI as bs
 |[],[],_=>rfl
 |[],_::_,_=>rfl
 |_::_,[],_=>rfl
 |a::as,b::bs,h=>by
  simp only[bI,ar]at h
  simp only[gA,dI]
  rw[UA a b h.1,U0 as bs h.2]
end
noncomputable def IP (n:Nat):List D:=(bb n).map fun i=>.int (i:Nat)
theorem YX (n:Nat):(IP n).length=n:=by simp [IP]
theorem De {n j:Nat}(h:j<n):(IP n)[j]? = some (.int (j:Nat)):=by simp [IP,h]
theorem gG {α:Type}(t:α->D){g:aA->Prop}{turn:D->(St->aA->Prop)->St->aA->Prop}{N:St->aA->Prop}(I:List α->St->aA->Prop)(hg:∀ xs σ st,I xs σ st->g st)
 (ht:∀ x r σ st (M:St->aA->Prop),I (x::r) σ st->(∀ σ' aB,I r σ' aB->M σ' aB)->turn (t x) M σ st)(hN:∀ σ st,I [] σ st->N σ st):∀(xs:List α)(σ:St)(st:aA),I xs σ st->vH g turn N (xs.map t) σ st
 |[],σ,st,h=>⟨hg _ _ _ h,hN _ _ h⟩
 |x::xs,σ,st,h=>⟨hg _ _ _ h,ht x xs σ st _ h fun σ' aB h'=>gG t I hg ht hN xs σ' aB h'⟩
theorem G0:∀(l:List Sy){f:List Sy}{n:Nat},(∀ x∈f,aQ x<=n)->(∀ x∈l,aQ x<=n)->∀ x∈iL l f,aQ x<=n
 |[],_,_,hf,_=>hf
 |s::l,f,n,hf,hl=>G0 l (yF s hf (hl s (by simp))) fun x hx=>hl x (by simp [hx])
theorem zZ {f:List Nat}{d:D}:∀{fs:List (List Nat×D)},iS fs f=none->rH f d fs=fs++[(f,d)]
 |[],_=>rfl
 |(g,x)::r,h=>by
  simp only[iS]at h
  by_cases q:g=f
  ·rw[if_pos q]at h;cases h
  ·rw[if_neg q]at h
   simp only[rH,if_neg q,zZ h,kq]
noncomputable def jE:Fn:=⟨2,2,[.ret (.and_ (.isi (.v 0) [.tuple]) (.and_ (.cmp .eq (.bi .len [(.v 0)]) (.v 1)) (.bi .all [(.comp 1 [] [0] true none [(.v 0)] [] (.isi (.v 0) [.bool]))])))]⟩
noncomputable def nE (ibk:Nat):Fn:=⟨1,1,[.iff (.not_ (.call ibk [(.v 0)])) [.rais 2 [(.c (.str (W "no book")))]] [],.ret (.v 0)]⟩
section
variable {G:Prog}{k i ie iw ipo iz irr iti io r:Nat}{st:aA}{Q:VK}{E:XK}{b:Bk}
theorem YA (B:b.Ok):∀ s∈b.says,over b.names s/\aQ s<=8:=by
 intro s hs
 simp only[Bk.says,Qo,Sk]at hs
 rcases hs with(hs|hs)|⟨w,hw,rfl⟩
 ·exact B.p2 s hs
 ·exact B.m2 s hs
 ·exact⟨(B.w3 w hw).2.2.1,(B.w3 w hw).2.2.2⟩
end
noncomputable def dE (bs:List Bool):D:=.tup (bs.map .bl)
def FJ (G:Prog)(ibk kb:Nat)(b:Bk):Prop:=∀(k:Nat)(st:aA)(Q:VK)(E:XK),(∀ aB,Ext st aB->Q (.bl true) aB)->aJ G (k+kb) ibk [b.d] st Q E
section
variable {G:Prog}{k i ibk kb ich icp ist ie iw ipo iz irr iti io iri ima Qd iph inh:Nat}{st:aA}{Q:VK}{E:XK}{b:Bk}
theorem MP (h:G.fns ist=some jE){bs:List Bool}{n:Nat}(hn:bs.length=n)(hl:n<=100)(hQ:∀ aB,Ext st aB->Q (.bl true) aB):aJ G (k+1) ist [dE bs,.int n] st Q E:=by
 have hL:bD=16777216:=rfl
 rw[aX h]
 simp only[jE,start,dE]
 refine⟨rfl,?_⟩
 walk_at"st"
 have e1:(((bs.map D.bl).length:Int)==(n:Int))=true:=by rw[ab,hn];simp
 simp only[e1,if_true]
 walk_at"ex"
 refine iU D.bl (fun _=>.bl true) bs [] st (fun bX y a ha=>by cases ha) (fun t ht bX K y1 hK=>hK bX .refl) (by simp only[bh];omega) fun aF y2=>?_
 rw[b7]
 refine cB (by simp only[ab];omega) fun pp bK y3 hpp J1=>?_
 walk_at"ex"
 rw[aG J1,hU,aW]
 have e2:(bs.map fun _=>true).all id=true:=by simp
 rw[e2]
 exact hQ bK (y2.trans y3)
theorem MK (h:G.fns ich=some (nE ibk))(hb:FJ G ibk kb b)(hQ:∀ aB,Ext st aB->Q b.d aB):aJ G (k+kb+1) ich [b.d] st Q E:=by
 rw[aX h]
 simp only[nE,start]
 refine⟨rfl,?_⟩
 walk_at"st"
 refine hb k _ _ _ fun aC x1=>?_
 walk_at"ex"
 simp only[aL]
 walk_at"st"
 exact hQ aC x1
end
local macro_rules|`(tactic| walk_at"wd")=>`(tactic| (first|rw[if_pos (by decide +kernel)]|rw[if_neg (by decide +kernel)]))
theorem hV (n:Nat):fF 0 n=(bb n).map fun k=>D.int (k:Nat):=by
 unfold fF;congr 1;funext k;simp
theorem uK (bs:List Bool):bH (dE bs)=true:=by
 simp only[dE,bH]
 induction bs with
 |nil=>rfl
 |cons a l ih=>simp only[aq,bI,bH,ih,fq]
theorem CV (bs:List Bool):dJ (dE bs)<=1:=by
 simp only[dE,dJ]
 have:cC (bs.map D.bl)=0:=by
  induction bs with
  |nil=>rfl
  |cons a l ih=>simp only[aq,cC,dJ,ih];rfl
 omega
theorem CQ (J0:List (List Bool)):bI (J0.map dE)=true/\cC (J0.map dE)<=1:=by
 induction J0 with
 |nil=>exact⟨rfl,by simp [cC]⟩
 |cons a l ih =>
 have:=CV a
 simp only[aq,bI,uK,ih.1,fq,cC,true_and]
 omega
noncomputable def xX (is dD:Nat):Fn:=⟨5,7,[.asg (.nm 5) (.call is [(.v 0),(.v 1),(.v 2),(.c (.int 1)),(.lst [(.c (.int 0))])]),.iff (.and_ (.cmp .gt (.ix (.v 4) (.c (.int 0))) (.c (.int 0))) (.cmp .eq (.call dD [(.v 0),(.v 1),(.c (.int 2))]) (.c (.int 1)))) [.asg (.ix (.v 4) (.c (.int 0))) (.bin .sub (.ix (.v 4) (.c (.int 0))) (.c (.int 1))),.asg (.nm 6) (.call is [(.v 0),(.v 1),(.v 3),(.c (.int 1)),(.lst [(.c (.int 0))])]),.ret (.tup [(.ix (.lst [(.c (.str (W "then"))),(.c (.str (W "or"))),(.c (.str (W "same")))]) (.call dD [(.v 0),(.v 1),(.c (.int 3))])),(.tup [(.c (.str (W "before"))),(.v 6)]),(.v 5)])] [],.ret (.v 5)]⟩
noncomputable def yI (inm dD is ipr:Nat):Fn:=⟨4,14,[.asg (.nm 4) (.lst [(.v 1)]),.asg (.tp [5,6]) (.call inm [(.v 0),(.v 4)]),.asg (.nm 7) (.bin .add (.v 5) (.v 6)),.asg (.nm 8) (.lst [(.call dD [(.v 0),(.v 4),(.bin .add (.v 2) (.c (.int 1)))])]),.asg (.nm 9) (.lst []),.iM (.nm 10) (some .range) [(.bin .add (.c (.int 1)) (.call dD [(.v 0),(.v 4),(.c (.int 3))]))] [.asg (.nm 11) (.bin .add (.c (.int 1)) (.call dD [(.v 0),(.v 4),(.ix (.lst [(.c (.int 3)),(.c (.int 9)),(.c (.int 99))]) (.call dD [(.v 0),(.v 4),(.c (.int 3))]))])),.ex (.dF .append (.v 9) [(.tup [(.v 11),(.call is [(.v 0),(.v 4),(.v 7),(.c (.int 2)),(.v 8)])])])],.asg (.nm 12) (.comp 1 [0,4,7,8] [0] true (some .range) [(.call dD [(.v 0),(.v 4),(.bin .add (.v 3) (.c (.int 1)))])] [] (.call is [(.v 1),(.v 2),(.v 3),(.c (.int 2)),(.v 4)])),.asg (.nm 13) (.comp 1 [0,4,5,7,8] [0] true (some .range) [(.call dD [(.v 0),(.v 4),(.c (.int 2))])] [] (.call ipr [(.v 1),(.v 2),(.v 3),(.v 4),(.v 5)])),.ret (.tup [(.v 5),(.v 6),(.bi .tuple [(.v 13)]),(.bi .tuple [(.v 12)]),(.bi .tuple [(.v 9)])])]⟩
theorem H0 {α:Type}{g:aA->Prop}{turn:D->aA->(Option D->aA->Prop)->Prop}{R:List D->aA->Prop}(t:α->D)(I:List α->List D->aA->Prop)(hg:∀ r acc st,I r acc st->g st/\acc.length<bD)
 (ht:∀ x r acc st (K:Option D->aA->Prop),I (x::r) acc st->(∀ d aB,I r (acc++[d]) aB->K (some d) aB)->turn (t x) st K)(hR:∀ acc st,I [] acc st->R acc st):∀(xs:List α)(acc:List D)(st:aA),I xs acc st->jG g turn (xs.map t) acc st R
 |[],acc,st,h=>⟨(hg _ _ _ h).1,hR _ _ h⟩
 |x::xs,acc,st,h=>⟨(hg _ _ _ h).1,(hg _ _ _ h).2,ht x xs acc st _ h fun d aB h'=>H0 t I hg ht hR xs (acc++[d]) aB h'⟩
theorem oJ {f g:List (List Nat)}(h:∀ n∈f,n∈g):∀ s:Sy,over f s->over g s
 |.yes,_=>trivial
 |.no,_=>trivial
 |.eO _,q=>h _ q
 |.one w s,q=>oJ h s q
 |.two w s t,q=>⟨oJ h s q.1,oJ h t q.2⟩
theorem nS {fs gs:List (List Nat)}(h:∀ n∈fs,n∉gs):∀ s:Sy,over fs s->fW gs s=false
 |.yes,_=>rfl
 |.no,_=>rfl
 |.eO n,q=>by
  simp only[fW,td]
  intro x hx e
  have:=h n q
  rw[<-eq_of_beq e]at this
  exact this hx
 |.one w s,q=>by cases w<;>first|rfl|exact nS h s q
 |.two w s t,q=>by simp only[fW,nS h s q.1,nS h t q.2,Sl]
section
variable {G:Prog}{k ic im dD is ipr:Nat}{st:aA}{Q:VK}{E:XK}{ns:List Int}
theorem XR (h:G.fns ipr=some (xX is dD))(hs:G.fns is=some (lI dD is))(hn:G.fns dD=some (pD im))(hm:G.fns im=some (kS ic))(hc:G.fns ic=some mF){fs gs:List (List Nat)}(hf:0<fs.length)(hdis:∀ n∈fs,n∉gs){a b:Nat}(dU:a≠b){i l:Int}
  (ha:st a=some (.lst [.int i]))(hb:st b=some (.lst [.int l]))(hi:0<=i)(hl:0<=l)
  (hQ:∀ s aB i',over (fs++gs) s->fW gs s=false->aQ s<=4->(cnt s:Int)<=l->cG [a,b] st aB->0<=i'->aB a=some (.lst [.int i'])->aB b=some (.lst [.int (l-cnt s)])->Q (toD s) aB):
  aJ G (k+6) ipr [.bL (ns.map .int),.ref a,.tup (fs.map .str),.tup ((fs++gs).map .str),.ref b] st Q E:=by
 rw[aX h]
 simp only[xX,start]
 refine⟨rfl,?_⟩
 have hfm:∀ n∈fs,n∈fs++gs:=fun n hn=>by simp [hn]
 walk_at"st"
 refine cB (by decide) fun z aC x1 hz hz1=>?_
 have za:a≠z:=fun e=>by rw[<-e,ha]at hz;cases hz
 have zb:b≠z:=fun e=>by rw[<-e,hb]at hz;cases hz
 have zz:∀ c o,st c=some o->c≠z:=fun c o e q=>by rw[q,hz]at e;cases e
 refine qN (k:=k) hs hn hm hc hf za 1 (x1 _ _ ha) hz1 hi (by omega) fun s aF i2 o1 d1 c1' k2 hi2 a2 z2=>?_
 have cs:cnt s=0:=by omega
 have b2:aF b=some (.lst [.int l]):=k2 b _ (by simp [dU.symm,zb]) (x1 _ _ hb)
 have kk2:cG [a,b] st aF:=fun c o nc e=>k2 c o (by simp only[cu,cb,or_false,not_or]at nc ⊢;exact⟨nc.1,zz c o e⟩) (x1 _ _ e)
 have base:∀ bK i3,cG [a,b] aF bK->0<=i3->bK a=some (.lst [.int i3])->bK b=some (.lst [.int l])->Q (toD s) bK:=fun bK i3 k3 h3 a3 b3 =>
  hQ s bK i3 (oJ hfm s o1) (nS hdis s o1) (by omega) (by omega) (kk2.trans k3) h3 a3 (by rw[cs];simpa using b3)
 walk_at"st"
 rw[eS b2,IB,aW]
 walk_at"ex"
 by_cases hl0:0<l
 ·rw[if_pos hl0]
  refine fP (k:=k+2) hn hm hc a2 hi2 (by omega) fun bK k3 a3=>?_
  have b3:bK b=some (.lst [.int l]):=k3 b _ (by simpa using dU.symm) b2
  walk_at"ex"
  generalize hv:jD ns (i2+1) 2=v
  cases hv1:(v==1)with
  |true =>
   simp only[if_true]
   walk_at"st"
   rw[eS b3,IB,aW]
   walk_at"ex"
   rw[aG b3,VN,aW]
   generalize hst4:put bK b _=cN
   have b4:cN b=some (.lst [.int (l-1)]):=by rw[<-hst4,aV];rfl
   have a4:cN a=some (.lst [.int (i2+1)]):=by rw[<-hst4,aU dU];exact a3
   have k4:cG [a,b] bK cN:=by rw[<-hst4];exact cG.put (by simp)
   walk_at"st"
   refine cB (by decide) fun y dG x5 hy hy5=>?_
   have ya:a≠y:=fun e=>by rw[<-e,a4]at hy;cases hy
   have yb:b≠y:=fun e=>by rw[<-e,b4]at hy;cases hy
   have yy:∀ c o,cN c=some o->c≠y:=fun c o e q=>by rw[q,hy]at e;cases e
   refine qN (k:=k) hs hn hm hc (by simp;omega) ya 1 (x5 _ _ a4) hy5 (by omega) (by omega) fun s2 gT i6 o6 d6 c6 k6 hi6 a6 y6=>?_
   have cs2:cnt s2=0:=by omega
   have b6:gT b=some (.lst [.int (l-1)]):=k6 b _ (by simp [dU.symm,yb]) (x5 _ _ b4)
   have kk6:cG [a,b] cN gT:=fun c o nc e=>k6 c o (by simp only[cu,cb,or_false,not_or]at nc ⊢;exact⟨nc.1,yy c o e⟩) (x5 _ _ e)
   walk_at"st"
   refine cB (by decide) fun u vB x7 hu hu7=>?_
   walk_at"ex"
   refine fP (k:=k+2) hn hm hc (x7 _ _ a6) hi6 (by omega) fun iP k8 a8=>?_
   have u8:iP u=some (.lst [.str (W "then"),.str (W "or"),.str (W "same")]):=k8 u _ (by
    intro z'
    simp only[bw]at z'
    rw[z',a6]at hu;cases hu) hu7
   have w0:=fN (ns:=ns) (k:=i6+1) (many:=3) (by omega)
   have w1:=fQ (ns:=ns) (k:=i6+1) (many:=3) (by omega)
   generalize jD ns (i6+1) 3=w at w0 w1
   have b8:iP b=some (.lst [.int (l-1)]):=k8 b _ (by simpa using dU.symm) (x7 _ _ b6)
   have kk8:cG [a,b] st iP:=((((kk2.trans (k3.mono (by simp))).trans k4).trans kk6).trans x7.keep).trans (k8.mono (by simp))
   have fin:∀ W2',p2 W2'=false->aQ (Sy.two W2' (.one .before s2) s)<=4->Q (toD (Sy.two W2' (.one .before s2) s)) iP:=fun W2' kM hdp=>by
    have hcn:cnt (Sy.two W2' (.one .before s2) s)=1:=by simp [cnt,kM,p1,cs,cs2]
    refine hQ _ iP (i6+1) ⟨o6,oJ hfm s o1⟩ ?_ hdp (by rw[hcn];omega) kk8 (by omega) a8 (by rw[hcn];exact b8)
    simp only[fW,nS hdis s o1,Sl]
   walk_at"ex"
   have hdp:∀ W2',aQ (Sy.two W2' (.one .before s2) s)<=4:=fun W2'=>by simp only[aQ];omega
   have hw:w=0∨w=1∨w=2:=by omega
   rcases hw with rfl|rfl|rfl
   ·rw[eS u8,IB,aW];exact fin .aY rfl (hdp _)
   ·rw[eS u8,RX,aW];exact fin .or rfl (hdp _)
   ·rw[eS u8,TL,aW];exact fin .same rfl (hdp _)
  |false =>
   simp only[az,if_false,aL]
   walk_at"st"
   exact base bK (i2+1) (k3.mono (by simp)) (by omega) a3 b3
 ·rw[if_neg hl0]
  (try rw[if_neg hl0])
  (try simp only[decide_eq_false hl0,az,if_false])
  rw[aL]
  walk_at"st"
  exact base aF i2 .refl hi2 a2 b2
end
theorem R6 {fs gs:List (List Nat)}(h:sI fs gs=true):1<=fs.length/\fs.length<=2/\1<=gs.length/\gs.length<=2/\(fs++gs).Nodup/\∀ n∈fs++gs,n∈nJ:=by
 simp only[sI,ar,decide_eq_true_eq,pw]at h
 obtain⟨⟨⟨⟨⟨a,b⟩,c⟩,d⟩,e⟩,f⟩:=h
 exact⟨a,b,c,d,e,fun n hn=>by simpa using f n hn⟩
theorem MJ:∀ n∈nJ,fK n=true:=by decide +kernel
noncomputable def fD (l:List Sy):Nat:=(l.map cnt).sum
theorem rK (a b:List Sy):fD (a++b)=fD a+fD b:=by simp [fD]
theorem HU (f:List Sy)(s:Sy):(iG f s).length<=f.length+(if jM s=true then 1 else 0):=by
 unfold iG
 cases h:jM s with
 |true=>simp only[nq,if_true];split<;>simp
 |false=>simp
theorem yT:∀(s:Sy)(f:List Sy),(mW s f).length<=f.length+cnt s
 |.yes,f=>by simp [mW]
 |.no,f=>by simp [mW]
 |.eO _,f=>by simp [mW]
 |.one w s,f=>by
  have h1:=yT s (iG f (.one w s))
  have h2:=HU f (.one w s)
  simp only[jM]at h2
  simp only[mW,cnt]
  cases h:p1 w<;>simp [h]at h2 ⊢<;>omega
 |.two w s t,f=>by
  have h1:=yT s (iG f (.two w s t))
  have h2:=HU f (.two w s t)
  have h3:=yT t (mW s (iG f (.two w s t)))
  simp only[jM]at h2
  simp only[mW,cnt]
  cases h:p2 w<;>simp [h]at h2 ⊢<;>omega
theorem HW:∀(l f:List Sy),(iL l f).length<=f.length+fD l
 |[],f=>by simp [iL,fD]
 |s::l,f=>by
  have h1:=HW l (mW s f)
  have h2:=yT s f
  have:fD (s::l)=cnt s+fD l:=by simp [fD]
  simp only[iL];omega
structure Ks (b:Bk)(pieces fX:Int):Prop where
 ok:b.Ok
 d4:∀ s∈b.says,aQ s<=4
 ms:(b.ms.length:Int)<=fX
 cn:(fD b.says:Int)<=pieces
 n8:∀ n∈b.names,n∈nJ
noncomputable abbrev bσ (at_ pieces fX:Int)(ns:List Int)(fs gs:List (List Nat))(m lf wl:Nat)(jA jO VW Qe:Option D):St:=[some (.bL (ns.map .int)),some (.int at_),some (.int pieces),some (.int fX),some (.ref m),some (.tup (fs.map .str)),some (.tup (gs.map .str)),some (.tup ((fs++gs).map .str)),some (.ref lf),some (.ref wl),jA,jO,VW,Qe]
inductive WI (σ0:Option D->Option D->St)(names:List (List Nat))(m lf wl:Nat)(gT:aA)(lv v:Int)(rest:List Nat)(σ:St)(aB:aA):Prop
 |mk (j:Nat)(jA jO:Option D)(i':Int)(ws:List (Int×Sy))(e1:rest=(bb (1+v).toNat).drop j)(e2:σ=σ0 jA jO)(q1:cG [m,lf,wl] gT aB)(q2:0<=i')(q3:aB m=some (.lst [.int i']))(q4:aB lf=some (.lst [.int (lv-fD (ws.map (·.2)))]))(q5:(fD (ws.map (·.2)):Int)<=lv)(q6:aB wl=some (.lst (ws.map fun w:Int×Sy=>.tup [.int w.1,toD w.2])))(q7:ws.length=j)(q7':j<=(1+v).toNat)(q8:∀ w∈ws,1<=w.1/\w.1<=99/\over names w.2/\aQ w.2<=3)
theorem Pk {a b c:Nat}{x:Int}(h:(a:Int)<=x)(h':(b:Int)<=x-a):((a+b:Nat):Int)<=x:=by omega
theorem Pz {a b:Nat}{x:Int}:x-(a:Int)-(b:Int)=x-((a+b:Nat):Int):=by omega
theorem VE {b:Nat}{x:Int}(h:(b:Int)<=x):0<=x-(b:Int):=by omega
theorem draws {turn:D->aA->(Option D->aA->Prop)->Prop}{R:List D->aA->Prop}{m lf:Nat}{ok:Sy->Prop}{Fp:aA}
 (ht:∀(x:D)(st:aA)(K:Option D->aA->Prop)(i c:Int),0<=i->0<=c->st m=some (.lst [.int i])->st lf=some (.lst [.int c])->(∀ s aB i',ok s->(cnt s:Int)<=c->cG [m,lf] st aB->0<=i'->aB m=some (.lst [.int i'])->aB lf=some (.lst [.int (c-cnt s)])->K (some (toD s)) aB)->turn x st K):
 ∀(xs:List D)(ss:List Sy){st:aA}{i c:Int},0<=i->0<=c->st m=some (.lst [.int i])->st lf=some (.lst [.int c])->ss.length+xs.length<bD ->
  (∀ ss' aB i',(∀ s∈ss',ok s)->ss'.length=xs.length->(fD ss':Int)<=c->cG [m,lf] st aB->0<=i'->aB m=some (.lst [.int i'])->aB lf=some (.lst [.int (c-fD ss')])->R ((ss++ss').map toD) aB) ->
  jG (same [] Fp) turn xs (ss.map toD) st R
 |[],ss,st,i,c,hi,hc,hm,hl,hn,h=>⟨JV,by have q:=h [] st i (fun _ h=>nomatch h) rfl (by simpa [fD]using hc) .refl hi hm (by simpa [fD]using hl);rw[fh]at q;exact q⟩
 |x::xs,ss,st,i,c,hi,hc,hm,hl,hn,h=>⟨JV,by rw[ab];simp only[a9]at hn;omega,ht x st _ i c hi hc hm hl fun s aB i' o1 o2 k1 hi' m1 l1=>by
 have q:=draws (Fp:=Fp) ht xs (ss++[s]) hi' (VE o2) m1 l1 (by simp only[bg,a9,bh]at hn ⊢;omega) (fun ss' bX i'' p1 p2 p3 p4 p5 p6 p7=>by
  have e:fD (s::ss')=cnt s+fD ss':=by simp [fD]
  have z:=h (s::ss') bX i'' (fun s' jN=>by
  rcases List.mem_cons.mp jN with rfl|jN
  ·exact o1
  ·exact p1 s' jN) (by simp [p2]) (by rw[e];exact Pk (c:=0) o2 p3) (k1.trans p4) p5 p6 (by rw[e,<-Pz];exact p7)
  rw[yt]
  exact z)
 rw[b9]at q
 exact q⟩
section
variable {G:Prog}{k i inm ic im dD is ipr:Nat}{st:aA}{Q:VK}{E:XK}{ns:List Int}
theorem ZT {v:Int}{n:Int}(h0:0<=v)(h1:v<n)(hn:n<=4):dO v:=by unfold dO;omega
theorem UX {v:Int}{n:Int}{a:Nat}(e:a=v.toNat)(h1:v<n)(hn:n<=4):a<=3:=by omega
theorem Pq {v n:Int}{a:Nat}(e:a=v.toNat)(h0:0<=v)(h1:v<n+1):(a:Int)<=n:=by omega
theorem Pa {a b c:Nat}{x y:Int}(h:(a:Int)<=x-c-b)(h':x<y+1):((a+b+c:Nat):Int)<=y:=by omega
theorem OC {a:Nat}(h:a<=3):a<=bD:=bu h (by decide)
theorem RA (hp:G.fns ipr=some (xX is dD))(hs:G.fns is=some (lI dD is))(hn:G.fns dD=some (pD im))(hm:G.fns im=some (kS ic))(hc:G.fns ic=some mF){fs gs:List (List Nat)}(f1:0<fs.length)(fpos:0<(fs++gs).length)(hdis:∀ n∈fs,n∉gs){m lf wl:Nat}(mlf:m≠lf)(mwl:m≠wl)(lfwl:lf≠wl){at_ pieces fX i' c:Int}(hmu:0<=fX)(hmu3:fX<=3){ws:List (Int×Sy)}{jA jO:Option D}(q2:0<=i')(q3:st m=some (.lst [.int i']))(q4:st lf=some (.lst [.int c]))(hc0:0<=c)(q6:st wl=some (.lst (ws.map fun w:Int×Sy=>.tup [.int w.1,toD w.2])))(hws:ws.length<=3)
 (hQ:∀ ps ms aB,(∀ s∈ms,over (fs++gs) s/\aQ s<=3)->(ms.length:Int)<=fX->ms.length<=3->(∀ s∈ps,over (fs++gs) s/\aQ s<=4/\fW gs s=false)->ps.length<=3->(fD ms:Int)<=c->(fD ps:Int)<=c-fD ms->cG [m,lf] st aB->Q (Bk.d ⟨fs,gs,ps,ms,ws⟩) aB):
 cO (aJ G (k+6)) G.sub ((yI inm dD is ipr).body.drop 6) ⟨fun _ aB=>Q .non aB,Q,fun _ _=>False,fun _ _=>False,fun c _ aB=>E c aB⟩ (bσ at_ pieces fX ns fs gs m lf wl jA jO none none) st:=by
 simp only[yI,xf,rz,bσ]
 walk_at"st"
 refine fP (k:=k+3) hn hm hc q3 q2 (by omega) fun vB k7 m7=>?_
 have V2:=fN (ns:=ns) (k:=i'+1) (many:=fX+1) (by omega)
 have V3:=fQ (ns:=ns) (k:=i'+1) (many:=fX+1) (by omega)
 generalize jD ns (i'+1) (fX+1)=v2 at V2 V3
 walk_at"ex"
 have h4:fX+1<=4:=by omega
 refine⟨ZT V2 V3 h4,?_⟩
 have lf7:=k7 lf _ (by simpa using mlf.symm) q4
 have wl7:=k7 wl _ (by simpa using mwl.symm) q6
 refine draws (m:=m) (lf:=lf) (ok:=fun s=>over (fs++gs) s/\aQ s<=3) (fun x aB K i c hi hc' h1 h2 hK=>?_) _ [] (by omega) hc0 m7 lf7 ?_ fun ms iP i8 z8 z7 z6 z2 z3 z4 z5=>?_
 ·exact qN (k:=k) hs hn hm hc fpos mlf 2 h1 h2 hi hc' fun s iP i8 o8 d8 c8 k8 hi8 m8 lf8=>hK s iP i8 ⟨o8,d8⟩ c8 k8 hi8 m8 lf8
 ·simp only[bh,fF,ab,fw];exact rp (by rw[qx];exact UX rfl V3 h4) (by decide)
 simp only[fF,ab,fw]at z7
 have m3:=UX z7 V3 h4
 refine cB (by rw[b7,ab];exact OC m3) fun ml RF x9 hml ml9=>?_
 walk_at"ex"
 have wl9:=x9 _ _ (z2 wl _ (by simp [mwl.symm,lfwl.symm]) wl7)
 walk_at"st"
 refine fP (k:=k+3) hn hm hc (x9 _ _ z4) z3 (by decide) fun sta ka ma=>?_
 have V4:=fN (ns:=ns) (k:=i8+1) (many:=2) (by decide)
 have V5:=fQ (ns:=ns) (k:=i8+1) (many:=2) (by decide)
 generalize jD ns (i8+1) 2=v3 at V4 V5
 walk_at"ex"
 refine⟨ZT V4 V5 (by decide),?_⟩
 have mml:m≠ml:=fun z=>by rw[<-z,z4]at hml;cases hml
 have lfml:lf≠ml:=fun z=>by rw[<-z,z5]at hml;cases hml
 have lfa:=ka lf _ (by simpa using mlf.symm) (x9 _ _ z5)
 have wla:=ka wl _ (by simpa using mwl.symm) wl9
 have mla:=ka ml _ (by simpa using mml.symm) ml9
 refine draws (m:=m) (lf:=lf) (ok:=fun s=>over (fs++gs) s/\aQ s<=4/\fW gs s=false) (fun x aB K i c hi hc' h1 h2 hK=>?_) _ [] (by omega) (VE z6) ma lfa ?_ fun ps stb ib y8 y7 y6 y2 y3 y4 y5=>?_
 ·exact XR (k:=k) hp hs hn hm hc f1 hdis mlf h1 h2 hi hc' fun s iP i8 o8 b8 d8 c8 k8 hi8 m8 lf8=>hK s iP i8 ⟨o8,d8,b8⟩ c8 k8 hi8 m8 lf8
 ·simp only[bh,fF,ab,fw];exact rp (by rw[qx];exact UX rfl V5 (by decide)) (by decide)
 simp only[fF,ab,fw]at y7
 have p3:=UX y7 V5 (by decide)
 refine cB (by rw[b7,ab];exact OC p3) fun pl stc xc dC plc=>?_
 walk_at"ex"
 have wlc:=xc _ _ (y2 wl _ (by simp [mwl.symm,lfwl.symm]) wla)
 have mlc:=xc _ _ (y2 ml _ (by simp [mml.symm,lfml.symm]) mla)
 simp only[b7]at plc mlc
 walk_at"st"
 rw[aG plc]
 refine⟨by rw[ab];exact OC p3,?_⟩
 rw[aG mlc]
 refine⟨by rw[ab];exact OC m3,?_⟩
 rw[aG wlc]
 refine⟨by rw[ab];exact OC hws,?_⟩
 refine hQ ps ms stc z8 (Pq z7 V2 V3) m3 y8 p3 z6 y6 fun a o ha e=>?_
 have ha':=ha
 simp only[cu,cb,or_false,not_or]at ha'
 have t7:=k7 a o (by simpa using ha'.1) e
 have t9:=ka a o (by simpa using ha'.1) (x9 _ _ (z2 a o ha t7))
 exact xc _ _ (y2 a o ha t9)
theorem XO (h:G.fns i=some (yI inm dD is ipr))(kL:G.fns inm=some (vD dD))(hp:G.fns ipr=some (xX is dD))(hs:G.fns is=some (lI dD is))(hn:G.fns dD=some (pD im))(hm:G.fns im=some (kS ic))(hc:G.fns ic=some mF){at_ pieces fX:Int}(ha:0<=at_)(hpi:0<=pieces)(hmu:0<=fX)(hmu3:fX<=3)
  (hQ:∀ b aB,Ks b pieces fX->Ext st aB->Q b.d aB):aJ G (k+7) i [.bL (ns.map .int),.int at_,.int pieces,.int fX] st Q E:=by
 have hL:bD=16777216:=rfl
 rw[aX h]
 simp only[yI,start]
 refine⟨rfl,?_⟩
 walk_at"st"
 refine cB (by show 1<=bD;decide) fun m aC x1 hm0 m1=>?_
 walk_at"st"
 refine RO (k:=k+2) kL hn hm hc m1 ha fun fs gs aF i2 bN k2 hi2 m2=>?_
 obtain⟨f1,f2,g1,g2,nd,n8⟩:=R6 bN
 walk_at"ex"
 walk_at"st"
 refine⟨by simp only[ab];omega,?_⟩
 have en:(fs.map D.str++gs.map D.str)=(fs++gs).map .str:=by simp
 rw[en]
 walk_at"st"
 refine fP (k:=k+3) hn hm hc m2 hi2 (by omega) fun bK k3 m3=>?_
 have L0:=fN (ns:=ns) (k:=i2+1) (many:=pieces+1) (by omega)
 have L1:=fQ (ns:=ns) (k:=i2+1) (many:=pieces+1) (by omega)
 generalize jD ns (i2+1) (pieces+1)=lv at L0 L1
 refine cB (by show 1<=bD;decide) fun lf cN x4 hlf lf4=>?_
 have m4:=x4 _ _ m3
 have mlf:m≠lf:=fun z=>by rw[<-z,m3]at hlf;cases hlf
 have old3:∀ a o,st a=some o->bK a=some o:=fun a o e=>by
  have hma:a≠m:=fun z=>by rw[z,hm0]at e;cases e
  exact k3 a o (by simpa using hma) (k2 a o (by simpa using hma) (x1 _ _ e))
 have old4:∀ a o,st a=some o->cN a=some o/\a≠m/\a≠lf:=fun a o e=>⟨x4 _ _ (old3 a o e),fun z=>(by rw[z,hm0]at e;cases e),fun z=>(by rw[<-z,old3 a o e]at hlf;cases hlf)⟩
 walk_at"ex"
 walk_at"st"
 refine cB (by simp) fun wl dG x5 hwl wl5=>?_
 have m5:=x5 _ _ m4
 have lf5:=x5 _ _ lf4
 have mwl:m≠wl:=fun z=>by rw[<-z,m4]at hwl;cases hwl
 have lfwl:lf≠wl:=fun z=>by rw[<-z,lf4]at hwl;cases hwl
 have old5:∀ a o,st a=some o->dG a=some o/\a≠m/\a≠lf/\a≠wl:=fun a o e=>by
  obtain⟨q1,q2,q3⟩:=old4 a o e
  exact⟨x5 _ _ q1,q2,q3,fun z=>by rw[<-z,q1]at hwl;cases hwl⟩
 walk_at"ex"
 walk_at"st"
 refine fP (k:=k+3) hn hm hc m5 (by omega) (by omega) fun gT k6 m6=>?_
 have V0:=fN (ns:=ns) (k:=i2+1+1) (many:=3) (by omega)
 have V1:=fQ (ns:=ns) (k:=i2+1+1) (many:=3) (by omega)
 generalize jD ns (i2+1+1) 3=v at V0 V1
 have lf6:=k6 lf _ (by simpa using mlf.symm) lf5
 have wl6:=k6 wl _ (by simpa using mwl.symm) wl5
 walk_at"ex"
 refine⟨by unfold dO;omega,?_⟩
 rw[hV]
 have hname:∀ n∈fs++gs,fK n=true:=fun n hn'=>MJ n (n8 n hn')
 have fpos:0<(fs++gs).length:=by simp;omega
 have hdis:∀ n∈fs,n∉gs:=fun n h1 h2=>by
  rw[tu]at nd
  exact nd.2.2 n h1 n h2 rfl
 refine gG (fun j:Nat=>D.int (j:Nat)) (I:=WI (fun jA jO=>bσ at_ pieces fX ns fs gs m lf wl jA jO none none) (fs++gs) m lf wl gT lv v) (fun rest σ aB _ a ha=>?_) (fun x rest σ aB M ⟨j,jA,jO,i',ws,e1,e2,q1,q2,q3,q4,q5,q6,q7,q7',q8⟩ hM=>?_) (fun σ aB ⟨j,jA,jO,i',ws,e1,e2,q1,q2,q3,q4,q5,q6,q7,q7',q8⟩=>?_) _ _ _ ⟨0,none,none,i2+1+1,[],rfl,rfl,.refl,by omega,m6,by simpa [fD]using lf6,by simp [fD];omega,wl6,rfl,cx _,by simp⟩
 ·cases ha
 ·subst e2
  have hj:j<(bb (1+v).toNat).length:=by
   by_cases z:j<(bb (1+v).toNat).length
   ·exact z
   ·rw[lp (by omega)]at e1;cases e1
  rw[e8 hj]at e1
  injection e1 with e3 e4
  simp only[fw]at hj
  simp only[bσ]
  walk_at"st"
  refine cB (by decide) fun u vB x7 hu hu7=>?_
  walk_at"ex"
  refine fP (k:=k+3) hn hm hc (x7 _ _ q3) q2 (by omega) fun iP k8 m8=>?_
  have um:u≠m:=fun z=>by rw[z,q3]at hu;cases hu
  have u8:=k8 u _ (by simpa using um) hu7
  have w0:=fN (ns:=ns) (k:=i'+1) (many:=3) (by omega)
  have w1:=fQ (ns:=ns) (k:=i'+1) (many:=3) (by omega)
  generalize jD ns (i'+1) 3=w at w0 w1
  have hpr:∃ c:Int,0<c/\c<=99/\eM [D.int 3,D.int 9,D.int 99] w=some (.int c):=by
   have hw:w=0∨w=1∨w=2:=by omega
   rcases hw with rfl|rfl|rfl
   ·exact⟨3,by decide,by decide,IB⟩
   ·exact⟨9,by decide,by decide,RX⟩
   ·exact⟨99,by decide,by decide,TL⟩
  obtain⟨c,VE,c99,hc'⟩:=hpr
  rw[eS u8,hc',aW]
  refine fP (k:=k+3) hn hm hc m8 (by omega) VE fun RF k9 m9=>?_
  have y0:=fN (ns:=ns) (k:=i'+1+1) (many:=c) (by omega)
  have y1:=fQ (ns:=ns) (k:=i'+1+1) (many:=c) (by omega)
  generalize jD ns (i'+1+1) c=y at y0 y1
  walk_at"ex"
  have kk9:cG [m,lf,wl] aB RF:=(x7.keep.trans (k8.mono (by simp))).trans (k9.mono (by simp))
  have lf9:RF lf=some (.lst [.int (lv-fD (ws.map (·.2)))]):=k9 lf _ (by simpa using mlf.symm) (k8 lf _ (by simpa using mlf.symm) (x7 _ _ q4))
  have wl9:RF wl=some (.lst (ws.map fun w:Int×Sy=>.tup [.int w.1,toD w.2])):=k9 wl _ (by simpa using mwl.symm) (k8 wl _ (by simpa using mwl.symm) (x7 _ _ q6))
  walk_at"st"
  rw[aG wl9]
  refine⟨True.intro,?_⟩
  refine qN (k:=k) hs hn hm hc fpos mlf 2 m9 lf9 (by omega) (by omega) fun s Qg i10 o10' d10 c10 k10 hi10 m10 lf10=>?_
  have wl10:=k10 wl _ (by simp [mwl.symm,lfwl.symm]) wl9
  walk_at"ex"
  rw[aG wl10]
  refine⟨by simp only[ab];omega,?_⟩
  simp only[aL]
  have ec:fD ((ws++[(1+y,s)]).map (·.2))=fD (ws.map (·.2))+cnt s:=by rw[b9,rK];simp [fD]
  refine hM _ _ ⟨j+1,_,_,i10,ws++[(1+y,s)],e4,rfl,?_,hi10,?_,?_,?_,?_,by simp [q7],by omega,fun w' hw'=>?_⟩
  ·intro a o na e
   simp only[cu,cb,or_false,not_or]at na
   rw[aU na.2.2]
   exact k10 a o (by simp [na]) (kk9 a o (by simp [na]) (q1 a o (by simp [na]) e))
  ·rw[aU mwl];exact m10
  ·rw[aU lfwl,lf10,ec];simp;omega
  ·rw[ec];simp;omega
  ·rw[aV];simp
  ·rcases List.mem_append.mp hw' with hw'|hw'
   ·exact q8 w' hw'
   ·simp only[bw]at hw';subst hw'
    exact⟨by show 1<=1+y;omega,by show 1+y<=99;omega,o10',d10⟩
 ·-- fX
  subst e2
  have hj:(1+v).toNat<=j:=by
   by_cases z:j<(bb (1+v).toNat).length
   ·rw[e8 z]at e1;cases e1
   ·simpa using z
  have hws:ws.length<=3:=by omega
  refine RA (k:=k) (inm:=inm) hp hs hn hm hc (by omega) fpos hdis mlf mwl lfwl hmu hmu3 q2 q3 q4 (by omega) q6 hws fun ps ms iP z8 z7 m3 y8 p3 z6 y6 z2=>?_
  have w1:1<=ws.length:=by omega
  refine hQ ⟨fs,gs,ps,ms,ws⟩ iP ⟨⟨f1,f2,g1,g2,nd,hname,p3,fun s jN=>⟨(y8 s jN).1,bu (y8 s jN).2.1 (by decide)⟩,fun s jN=>(y8 s jN).2.2,m3,fun s jN=>⟨(z8 s jN).1,bu (z8 s jN).2 (by decide)⟩,w1,bu hws (by decide),fun w hw=>⟨(q8 w hw).1,(q8 w hw).2.1,(q8 w hw).2.2.1,bu (q8 w hw).2.2.2 (by decide)⟩⟩,fun s jN=>?_,z7,?_,n8⟩ fun a o e=>?_
  ·simp only[Bk.says,Qo,Sk]at jN
   rcases jN with(jN|jN)|⟨w,hw,rfl⟩
   ·exact(y8 s jN).2.1
   ·exact bu (z8 s jN).2 (by decide)
   ·exact bu (q8 w hw).2.2.2 (by decide)
  ·show((fD (ps++ms++ws.map (·.2)):Nat):Int)<=pieces
   rw[rK,rK]
   exact Pa y6 L1
  ·obtain⟨s1,s2,s3,s4⟩:=old5 a o e
   have t6:=k6 a o (by simpa using s2) s1
   exact z2 a o (by simp [s2,s3]) (q1 a o (by simp [s2,s3,s4]) t6)
end
theorem Q5 {n:Nat}:∀(l:List Sy),(∀ s∈l,aQ s<=4)->lU l<=l.length*15
 |[],_=>by simp [lU]
 |s::l,h=>by
  have h1:=FX s
  have h2:=h s (by simp)
  have h3:=Q5 (n:=n) l fun x hx=>h x (by simp [hx])
  have h4:2 ^ aQ s<=2 ^ 4:=f7 (by decide) h2
  rw[AM]
  simp only[a9]
  omega
theorem EL {names:List (List Nat)}{f:List Sy}{s:Sy}(hf:∀ x∈f,over names x)(hs:over names s):∀ x∈iG f s,over names x:=by
 unfold iG;split
 ·intro x hx
  rcases List.mem_append.mp hx with hx|hx
  ·exact hf x hx
  ·simp only[bw]at hx;subst hx;exact hs
 ·exact hf
theorem tN {names:List (List Nat)}:∀(s:Sy){f:List Sy},(∀ x∈f,over names x)->over names s->∀ x∈mW s f,over names x
 |.yes,_,hf,_=>hf
 |.no,_,hf,_=>hf
 |.eO _,_,hf,_=>hf
 |.one w s,_,hf,hs=>tN s (EL hf hs) hs
 |.two w s t,_,hf,hs=>tN t (tN s (EL hf hs) hs.1) hs.2
theorem EK {names:List (List Nat)}:∀(l:List Sy){f:List Sy},(∀ x∈f,over names x)->(∀ s∈l,over names s)->∀ x∈iL l f,over names x
 |[],_,hf,_=>hf
 |s::l,_,hf,hl=>EK l (tN s hf (hl s (by simp))) fun x hx=>hl x (by simp [hx])
section
variable {G:Prog}{k il ibo ipl imb ilm inm ic im dD is ipr ibk ich icp ist ie iw ipo iz irr iti io iri ima Qd iph inh ibp ip ih:Nat}{st:aA}{E:XK}{ns:List Int}
theorem P1 {b:Bk}{pieces fX:Int}(DR:Ks b pieces fX)(hp:pieces<=4):lU b.says<=200/\(∀ x∈b.says,aQ x<=60)/\(iL b.says []).length<=4/\∀ s∈iL b.says [],over b.names s/\aQ s<=8:=by
 have p1:=DR.ok.p1
 have m1:=DR.ok.m1
 have w2:=DR.ok.w2
 have hl:b.says.length<=11:=by simp [Bk.says];omega
 refine⟨?_,fun x hx=>by have:=DR.d4 x hx;omega,?_,fun s hs=>⟨EK b.says (by simp) (fun s hs=>(YA DR.ok s hs).1) s hs,G0 b.says (n:=8) (by simp) (fun x hx=>by have:=DR.d4 x hx;omega) s hs⟩⟩
 ·have:=Q5 (n:=0) b.says DR.d4;omega
 ·have:=HW b.says []
  have h2:=DR.cn
  simp at this;omega
end
noncomputable def qP:Fn:=⟨1,5,[.asg (.nm 1) (.lst [(.tup [])]),.iM (.nm 2) (some .range) [(.bi .len [(.v 0)])] [.asg (.nm 3) (.lst []),.iM (.nm 4) none [(.v 1)] [.ex (.dF .append (.v 3) [(.bin .add (.v 4) (.tup [(.c (.bl false))]))]),.ex (.dF .append (.v 3) [(.bin .add (.v 4) (.tup [(.c (.bl true))]))])],.asg (.nm 1) (.v 3)],.ret (.v 1)]⟩
noncomputable def CS:Fn:=⟨2,2,[.asg (.fl (W "Numbering") (W "met") (.v 0)) (.lst [(.v 1)]),.asg (.fl (W "Numbering") (W "numbers_met") (.v 0)) (.d1 (.v 1) (.c (.int 0)))]⟩
noncomputable def CO:Fn:=⟨2,2,[.iff (.din true (.v 1) (.fld (W "Numbering") (W "numbers_met") (.v 0))) [.asg (.dk (.fld (W "Numbering") (W "numbers_met") (.v 0)) (.v 1)) (.bi .len [(.fld (W "Numbering") (W "met") (.v 0))]),.ex (.dF .append (.fld (W "Numbering") (W "met") (.v 0)) [(.v 1)])] [],.ret (.dix (.fld (W "Numbering") (W "numbers_met") (.v 0)) (.v 1))]⟩
noncomputable def eZ:Nat->List (List Bool)
 |0=>[[]]
 |n+1=>(eZ n).flatMap fun r=>[r++[false],r++[true]]
theorem tZ:∀(n:Nat)(r:List Bool),r∈eZ n->r.length=n
 |0,r,h=>by simp [eZ]at h;subst h;rfl
 |n+1,r,h=>by
  simp only[eZ,zw,cu,cb,or_false]at h
  obtain⟨q,hq,h|h⟩:=h<;>(subst h;simp [tZ n q hq])
theorem JH:∀(n:Nat)(r:List Bool),r.length=n->r∈eZ n
 |0,r,h=>by simp at h;subst h;simp [eZ]
 |n+1,r,h=>by
  simp only[eZ,zw,cu,cb,or_false]
  have hr:r≠[]:=by intro z;rw[z]at h;cases h
  refine⟨r.dropLast,JH n _ (by simp [h]),?_⟩
  have:=List.dropLast_concat_getLast hr
  cases hb:r.getLast hr with
  |false=>rw[hb]at this;exact .inl this.symm
  |true=>rw[hb]at this;exact .inr this.symm
theorem lW:∀ n:Nat,(eZ n).length=2 ^ n
 |0=>rfl
 |n+1=>by
  have h:=lW n
  simp only[eZ]
  have:∀ l:List (List Bool),(l.flatMap fun r=>[r++[false],r++[true]]).length=2*l.length:=fun l=>by
   induction l with
   |nil=>rfl
   |cons a l ih=>simp only[zd,bg,ih,a9,bh];omega
  rw[this,h,zc];omega
inductive Z2 (N:Nat)(hd:Option D)(st:aA)(rest:List Nat)(σ:St)(aB:aA):Prop
 |mk (t q:Nat)(o2 o3 o4:Option D)(e0:t<=N)(e1:rest=(bb N).drop t)(e2:σ=[hd,some (.ref q),o2,o3,o4])(hq:st q=none)(x3:Ext st aB)(e5:aB q=some (.lst ((eZ t).map dE)))
inductive Av (t:Nat)(hd:Option D)(q x u:Nat)(cN:aA)(nR:List (List Bool))(σ:St)(dG:aA):Prop
 |mk (dn:List (List Bool))(o4:Option D)(f1:eZ t=dn++nR)(f2:σ=[hd,some (.ref q),some (.int (x:Nat)),some (.ref u),o4])(f3:cG [u] cN dG)(f4:dG u=some (.lst ((dn.flatMap fun r=>[r++[false],r++[true]]).map dE)))
theorem U7 (l:List (List Bool)):(l.flatMap fun r=>[r++[false],r++[true]]).length=2*l.length:=by
 induction l with
 |nil=>rfl
 |cons a l ih=>simp only[zd,bg,ih,a9,bh];omega
theorem LF {t:Nat}(h:t<=4):(eZ t).length<=16:=by
 rw[lW];exact f7 (n:=2) (by decide) h
theorem drop_cons {N t x:Nat}{rest:List Nat}(h:x::rest=(bb N).drop t):t<N/\rest=(bb N).drop (t+1):=by
 have ht:t<(bb N).length:=by
  by_cases z:t<(bb N).length
  ·exact z
  ·rw[lp (by omega)]at h;cases h
 rw[e8 ht]at h
 injection h with _ h
 exact⟨by simpa using ht,h⟩
theorem drop_nil {N t:Nat}(h:[]=(bb N).drop t):N<=t:=by
 by_cases z:t<(bb N).length
 ·rw[e8 z]at h;cases h
 ·simpa using z
theorem K4 {l dn r:List (List Bool)}{n:Nat}(e:l=dn++r)(h:l.length<=n):dn.length<=n:=by
 rw[e,bg]at h;omega
section
variable {G:Prog}{k i:Nat}{st:aA}{Q:VK}{E:XK}
theorem WM (h:G.fns i=some qP){ds:List D}(hd:ds.length<=4)(hQ:∀ p aB,st p=none->Ext st aB->aB p=some (.lst ((eZ ds.length).map dE))->Q (.ref p) aB):aJ G (k+1) i [.tup ds] st Q E:=by
 have hL:bD=16777216:=rfl
 rw[aX h]
 simp only[qP,start]
 refine⟨rfl,?_⟩
 walk_at"st"
 refine cB (by show 1<=bD;decide) fun p aC x1 hp hp1=>?_
 walk_at"st"
 refine⟨by unfold dO;omega,?_⟩
 rw[show((ds.length:Int)).toNat=ds.length by omega,hV]
 have p1:aC p=some (.lst ((eZ 0).map dE)):=hp1
 refine gG (fun j:Nat=>D.int (j:Nat)) (I:=Z2 ds.length (some (.tup ds)) st) (fun rest σ aB _ a ha=>?_) (fun x rest σ aB M I hM=>?_) (fun σ aB I=>?_) _ _ _ ⟨0,p,none,none,none,cx _,rfl,rfl,hp,x1,p1⟩
 ·cases ha
 ·obtain⟨t,q,o2,o3,o4,e0,e1,e2,hq,x3,e5⟩:=I
  subst e2
  obtain⟨ht,e4⟩:=drop_cons e1
  have iD:(eZ t).length<=16:=LF (by omega)
  clear e1
  walk_at"st"
  refine cB (by simp) fun u cN x4 hu hu4=>?_
  have qu:q≠u:=fun z=>by rw[<-z,e5]at hu;cases hu
  walk_at"st"
  rw[aG (x4 _ _ e5)]
  refine gG dE (I:=Av t (some (.tup ds)) q x u cN) (fun nR σ dG J=>?_) (fun y nR σ dG M2 J hM2=>?_) (fun σ dG J=>?_) _ _ _ ⟨[],o4,rfl,rfl,.refl,hu4⟩
  ·obtain⟨dn,o4,f1,f2,f3,f4⟩:=J
   intro a ha
   simp only[bw]at ha
   subst ha
   rw[x4 _ _ e5,f3 _ _ (by simpa using qu) (x4 _ _ e5)]
  ·obtain⟨dn,o4,f1,f2,f3,f4⟩:=J
   subst f2
   have hl:(dn.flatMap fun r=>[r++[false],r++[true]]).length<=40:=by have:=K4 f1 iD;rw[U7];omega
   have hyl:y.length=t:=tZ t y (by rw[f1];simp)
   simp only[dE]
   walk_at"st"
   rw[aG f4]
   refine⟨True.intro,by simp only[ab];omega,?_⟩
   rw[aG f4]
   refine⟨by simp only[ab];omega,?_⟩
   walk_at"st"
   rw[aG aV]
   refine⟨True.intro,by simp only[ab];omega,?_⟩
   rw[aG aV]
   refine⟨by simp only[ab,bg,a9,bh];omega,?_⟩
   simp only[aL]
   rw[YB]
   refine hM2 _ _ ⟨dn++[y],_,by simp [f1],rfl,fun a o na e=>by rw[aU (by simpa using na)];exact f3 a o na e,?_⟩
   rw[aV]
   simp [dE,xk]
  ·obtain⟨dn,o4,f1,f2,f3,f4⟩:=J
   subst f2
   rw[fh]at f1
   walk_at"st"
   simp only[aL]
   refine hM _ dG ⟨t+1,u,_,_,_,by omega,e4,rfl,?_,fun a o e=>f3 a o (fun z=>?_) (x4 _ _ (x3 _ _ e)),?_⟩
   ·cases hz:st u with
    |none=>rfl
    |some o=>rw[x3 _ _ hz]at hu;cases hu
   ·simp only[bw]at z
    rw[z]at e
    rw[x3 _ _ e]at hu;cases hu
   ·rw[f4,<-f1];rfl
 ·obtain⟨t,q,o2,o3,o4,e0,e1,e2,hq,x3,e5⟩:=I
  subst e2
  have ht:=drop_nil e1
  have et:t=ds.length:=by omega
  subst et
  walk_at"st"
  exact hQ q aB hq x3 e5
end
noncomputable def rY:Fn:=⟨1,5,[.asg (.nm 1) (.lst [(.tup [])]),.iM (.nm 2) (some .range) [(.v 0)] [.asg (.nm 3) (.lst []),.iM (.nm 4) none [(.v 1)] [.ex (.dF .extend (.v 3) [(.lst [(.bin .add (.v 4) (.tup [(.c (.bl false))])),(.bin .add (.v 4) (.tup [(.c (.bl true))]))])])],.asg (.nm 1) (.v 3)],.ret (.v 1)]⟩
noncomputable def kF:Fn:=⟨2,2,[.ret (.and_ (.isi (.v 0) [.int]) (.and_ (.not_ (.isi (.v 0) [.bool])) (.chain .le .lt (.c (.int 0)) (.v 0) (.v 1))))]⟩
noncomputable def vS (ir ist ipl:Nat):Fn:=⟨3,3,[.ret (.and_ (.call ir [(.v 2),(.c (.int 2)),(.c (.int 2))]) (.and_ (.call ist [(.ix (.v 2) (.c (.int 0))),(.bi .len [(.ix (.v 0) (.c (.int 1)))])]) (.call ipl [(.ix (.v 2) (.c (.int 1))),(.v 1)])))]⟩
noncomputable def pQ (ise ir iwy:Nat):Fn:=⟨3,4,[.asg (.nm 3) (.bi .len [(.call ise [(.ix (.v 0) (.c (.int 0)))])]),.ret (.and_ (.call ir [(.v 2),(.v 3),(.v 3)]) (.bi .all [(.comp 1 [0,1] [0] true none [(.v 2)] [] (.call iwy [(.v 1),(.v 2),(.v 0)]))]))]⟩
noncomputable def yC (ir isd:Nat)(gs:D):Fn:=⟨2,2,[.ret (.and_ (.call ir [(.v 1),(.c (.int 1)),(.c gs)]) (.bi .all [(.comp 1 [0,1] [0] true none [(.v 1)] [] (.call isd [(.v 1),(.bi .len [(.v 2)]),(.v 0)]))]))]⟩
noncomputable def rX (ich ima:Nat):Fn:=⟨2,2,[.ex (.call ich [(.v 0)]),.iff (.not_ (.call ima [(.v 0),(.v 1)])) [.rais 3 [(.c (.str (W "no machine for this book")))]] [],.ret (.v 1)]⟩
theorem xT {st:aA}(a b:List Bool):bJ st (dE a) (dE b)=decide (a=b):=by
 rw[UA _ _ (uK a)]
 simp only[dE,bT]
 induction a generalizing b with
 |nil=>cases b<;>simp [dI]
 |cons x a ih =>
 cases b with
 |nil=>simp [dI]
 |cons y b =>
  simp only[aq,dI,bT,ih,lu]
  by_cases h1:x=y<;>by_cases h2:a=b<;>simp [h1,h2]
theorem oF {st:aA}(a:List Bool):plainS st (dE a):=⟨nA _ (uK a),bu (CV a) (by decide)⟩
theorem J2 {st:aA}(l:List (List Bool)):cZ st (l.map dE):=⟨iX _ (CQ l).1,bu (CQ l).2 (by decide)⟩
noncomputable abbrev gJ:=List (List (List Bool×Nat))
noncomputable def dH (w:List Bool×Nat):D:=.tup [dE w.1,.int (w.2:Nat)]
noncomputable def bZ (s:List (List Bool×Nat)):D:=.tup (s.map dH)
noncomputable def dP (m:gJ):D:=.tup (m.map bZ)
structure wO (n g:Nat)(m:gJ):Prop where
 l1:1<=m.length
 l2:m.length<=64
 sl:∀ s∈m,s.length=2 ^ n
 wf:∀ s∈m,∀ w∈s,w.1.length=g
 wn:∀ s∈m,∀ w∈s,w.2<m.length
section
variable {G:Prog}{k i ir ist ipl ise iwy isd ich ibk kb ima:Nat}{st:aA}{Q:VK}{E:XK}{b:Bk}
theorem uG (h:G.fns i=some rY){n:Nat}(hd:n<=4)(hQ:∀ p aB,st p=none->Ext st aB->aB p=some (.lst ((eZ n).map dE))->Q (.ref p) aB):aJ G (k+1) i [.int (n:Nat)] st Q E:=by
 have hL:bD=16777216:=rfl
 rw[aX h]
 simp only[rY,start]
 refine⟨rfl,?_⟩
 walk_at"st"
 refine cB (by show 1<=bD;decide) fun p aC x1 hp hp1=>?_
 walk_at"st"
 refine⟨by unfold dO;omega,?_⟩
 rw[show((n:Int)).toNat=n by omega,hV]
 have p1:aC p=some (.lst ((eZ 0).map dE)):=hp1
 refine gG (fun j:Nat=>D.int (j:Nat)) (I:=Z2 n (some (.int (n:Nat))) st) (fun rest σ aB _ a ha=>?_) (fun x rest σ aB M I hM=>?_) (fun σ aB I=>?_) _ _ _ ⟨0,p,none,none,none,cx _,rfl,rfl,hp,x1,p1⟩
 ·cases ha
 ·obtain⟨t,q,o2,o3,o4,e0,e1,e2,hq,x3,e5⟩:=I
  subst e2
  obtain⟨ht,e4⟩:=drop_cons e1
  have iD:(eZ t).length<=16:=LF (by omega)
  clear e1
  walk_at"st"
  refine cB (by simp) fun u cN x4 hu hu4=>?_
  have qu:q≠u:=fun z=>by rw[<-z,e5]at hu;cases hu
  walk_at"st"
  rw[aG (x4 _ _ e5)]
  refine gG dE (I:=Av t (some (.int (n:Nat))) q x u cN) (fun nR σ dG J=>?_) (fun y nR σ dG M2 J hM2=>?_) (fun σ dG J=>?_) _ _ _ ⟨[],o4,rfl,rfl,.refl,hu4⟩
  ·obtain⟨dn,o4,f1,f2,f3,f4⟩:=J
   intro a ha
   simp only[bw]at ha
   subst ha
   rw[x4 _ _ e5,f3 _ _ (by simpa using qu) (x4 _ _ e5)]
  ·obtain⟨dn,o4,f1,f2,f3,f4⟩:=J
   subst f2
   have hl:(dn.flatMap fun r=>[r++[false],r++[true]]).length<=40:=by have:=K4 f1 iD;rw[U7];omega
   have hyl:y.length=t:=tZ t y (by rw[f1];simp)
   simp only[dE]
   walk_at"st"
   rw[aG f4]
   refine⟨True.intro,by simp only[ab];omega,by simp only[ab];omega,?_⟩
   refine cB (by show 2<=bD;decide) fun w gT x6 hw hw6=>?_
   have wu:w≠u:=fun z=>by rw[z,f4]at hw;cases hw
   rw[aG (x6 _ _ f4),K2,aG hw6]
   refine⟨by simp only[ab,a9,bh];omega,?_⟩
   simp only[aL]
   refine hM2 _ _ ⟨dn++[y],_,by simp [f1],rfl,fun a o na e=>by rw[aU (by simpa using na)];exact x6 _ _ (f3 a o na e),?_⟩
   rw[aV]
   simp [dE,xk]
  ·obtain⟨dn,o4,f1,f2,f3,f4⟩:=J
   subst f2
   rw[fh]at f1
   walk_at"st"
   simp only[aL]
   refine hM _ dG ⟨t+1,u,_,_,_,by omega,e4,rfl,?_,fun a o e=>f3 a o (fun z=>?_) (x4 _ _ (x3 _ _ e)),?_⟩
   ·cases hz:st u with
    |none=>rfl
    |some o=>rw[x3 _ _ hz]at hu;cases hu
   ·simp only[bw]at z
    rw[z]at e
    rw[x3 _ _ e]at hu;cases hu
   ·rw[f4,<-f1];rfl
 ·obtain⟨t,q,o2,o3,o4,e0,e1,e2,hq,x3,e5⟩:=I
  subst e2
  have ht:=drop_nil e1
  have et:t=n:=by omega
  subst et
  walk_at"st"
  exact hQ q aB hq x3 e5
theorem J3 (h:G.fns i=some kF){a N:Nat}(ha:a<N)(hQ:Q (.bl true) st):aJ G (k+1) i [.int (a:Nat),.int (N:Nat)] st Q E:=by
 rw[aX h]
 simp only[kF,start]
 refine⟨rfl,?_⟩
 walk_at"st"
 have h2:((a:Nat):Int)<((N:Nat):Int):=by omega
 rw[if_pos (by omega:(0:Int)<=((a:Nat):Int)),decide_eq_true h2]
 exact hQ
theorem O9 (h:G.fns iwy=some (vS ir ist ipl))(hr:G.fns ir=some fZ)(hs:G.fns ist=some jE)(hp:G.fns ipl=some kF)(hg:b.gs.length<=100){N:Nat}{w:List Bool×Nat}(h1:w.1.length=b.gs.length)(h2:w.2<N)
 (hQ:∀ aB,Ext st aB->Q (.bl true) aB):aJ G (k+2) iwy [b.d,.int (N:Nat),dH w] st Q E:=by
 rw[aX h]
 simp only[vS,start,dH,Bk.d]
 refine⟨rfl,?_⟩
 walk_at"st"
 refine nM hr (by simp only[a9,bh];omega) (by simp only[a9,bh];omega) ?_
 walk_at"ex"
 rw[ab]
 refine MP hs h1 hg fun aC x1=>?_
 walk_at"ex"
 exact J3 hp h2 (hQ _ x1)
theorem KA (h:G.fns isd=some (pQ ise ir iwy))(hse:G.fns ise=some qP)(hw:G.fns iwy=some (vS ir ist ipl))(hr:G.fns ir=some fZ)(hs:G.fns ist=some jE)(hp:G.fns ipl=some kF)(B:b.Ok){N:Nat}{s:List (List Bool×Nat)}(h0:s.length=2 ^ b.fs.length)(h1:∀ w∈s,w.1.length=b.gs.length)(h2:∀ w∈s,w.2<N)
 (hQ:∀ aB,Ext st aB->Q (.bl true) aB):aJ G (k+3) isd [b.d,.int (N:Nat),bZ s] st Q E:=by
 have hL:bD=16777216:=rfl
 have f2:=B.f2
 have g2:=B.g2
 have h16:s.length<=16:=by rw[h0];exact f7 (n:=2) (by decide) (by omega:b.fs.length<=4)
 rw[aX h]
 simp only[pQ,start,bZ]
 refine⟨rfl,?_⟩
 rw[show b.d=.tup [.tup (b.fs.map .str),.tup (b.gs.map .str),.tup (b.ps.map toD),.tup (b.ms.map toD),.tup (b.ws.map fun w=>.tup [.int w.1,toD w.2])]from rfl]
 walk_at"st"
 refine WM (k:=k+1) hse (by rw[ab];omega) fun p aC hp0 x1 hp1=>?_
 walk_at"ex"
 rw[cM hp1]
 walk_at"st"
 have el:(((eZ (b.fs.map D.str).length).map dE).length:Int)=(s.length:Int):=by rw[ab,lW,ab,h0]
 rw[el]
 refine nM hr (by rw[ab];omega) (by rw[ab];omega) ?_
 walk_at"ex"
 refine iU dH (fun _=>.bl true) s [] aC (fun bX y a ha=>by cases ha) (fun w hws bX K y1 hK=>?_) (by simp only[bh];omega) fun aF y2=>?_
 ·exact O9 hw hr hs hp (by omega) (h1 w hws) (h2 w hws) hK
 rw[b7]
 refine cB (by simp only[ab];omega) fun pp bK y3 hpp J1=>?_
 walk_at"ex"
 rw[aG J1,hU,aW]
 have e2:(s.map fun _=>true).all id=true:=by simp
 rw[e2]
 exact hQ bK (x1.trans (y2.trans y3))
theorem MZ (h:G.fns ima=some (yC ir isd (.int 64)))(hd:G.fns isd=some (pQ ise ir iwy))(hse:G.fns ise=some qP)(hw:G.fns iwy=some (vS ir ist ipl))(hr:G.fns ir=some fZ)(hs:G.fns ist=some jE)(hp:G.fns ipl=some kF)(B:b.Ok){m:gJ}(O:wO b.fs.length b.gs.length m)
  (hQ:∀ aB,Ext st aB->Q (.bl true) aB):aJ G (k+4) ima [b.d,dP m] st Q E:=by
 have hL:bD=16777216:=rfl
 have l1:=O.l1
 have l2:=O.l2
 rw[aX h]
 simp only[yC,start,dP]
 refine⟨rfl,?_⟩
 walk_at"st"
 refine nM hr (by rw[ab];omega) (by rw[ab];omega) ?_
 walk_at"ex"
 refine iU bZ (fun _=>.bl true) m [] st (fun bX y a ha=>by cases ha) (fun s jN bX K y1 hK=>?_) (by simp only[bh];omega) fun aF y2=>?_
 ·rw[ab]
  exact KA hd hse hw hr hs hp B (O.sl s jN) (O.wf s jN) (O.wn s jN) hK
 rw[b7]
 refine cB (by simp only[ab];omega) fun pp bK y3 hpp J1=>?_
 walk_at"ex"
 rw[aG J1,hU,aW]
 have e2:(m.map fun _=>true).all id=true:=by simp
 rw[e2]
 exact hQ bK (y2.trans y3)
theorem NL (h:G.fns i=some (rX ich ima))(hc:G.fns ich=some (nE ibk))(hb:FJ G ibk 13 b)(hm:G.fns ima=some (yC ir isd (.int 64)))(hd:G.fns isd=some (pQ ise ir iwy))(hse:G.fns ise=some qP)(hw:G.fns iwy=some (vS ir ist ipl))(hr:G.fns ir=some fZ)(hs:G.fns ist=some jE)(hp:G.fns ipl=some kF)(B:b.Ok){m:gJ}(O:wO b.fs.length b.gs.length m)
 (hQ:∀ aB,Ext st aB->Q (dP m) aB):aJ G (k+15) i [b.d,dP m] st Q E:=by
 rw[aX h]
 simp only[rX,start]
 refine⟨rfl,?_⟩
 walk_at"st"
 refine MK (k:=k) hc hb fun aC x1=>?_
 walk_at"ex"
 walk_at"st"
 refine MZ (k:=k+10) hm hd hse hw hr hs hp B O fun aF x2=>?_
 walk_at"ex"
 simp only[aL]
 walk_at"st"
 exact hQ aF (x1.trans x2)
end
theorem Ar {α:Type}{t:α->D}{xs:List α}{j:Nat}{x:α}(h:xs[j]? = some x):eM (xs.map t) (j:Int)=some (t x):=by
 have hl:j<xs.length:=by
  by_cases z:j<xs.length
  ·exact z
  ·rw[j3 (by omega)]at h;cases h
 rw[gD (by simpa using hl),be,h];rfl
noncomputable def tO (im is8:Nat):Fn:=⟨5,12,[.asg (.nm 5) (.bin .add (.c (.int 1)) (.call im [(.v 0),(.v 1),(.v 4)])),.asg (.nm 6) (.call is8 [(.v 3)]),.asg (.nm 7) (.lst []),.iM (.nm 8) (some .range) [(.v 5)] [.asg (.nm 9) (.lst []),.iM (.nm 10) (some .range) [(.bi .len [(.call is8 [(.v 2)])])] [.asg (.nm 11) (.call im [(.v 0),(.bin .add (.bin .add (.bin .add (.v 1) (.c (.int 1))) (.bin .mul (.c (.int 4)) (.v 8))) (.v 10)),(.bin .mul (.c (.int 4)) (.v 5))]),.ex (.dF .append (.v 9) [(.tup [(.ix (.v 6) (.bin .mod (.bin .mod (.v 11) (.c (.int 4))) (.bi .len [(.v 6)]))),(.bin .fdiv (.v 11) (.c (.int 4)))])])],.ex (.dF .append (.v 7) [(.bi .tuple [(.v 9)])])],.ret (.bi .tuple [(.v 7)])]⟩
theorem VX {g:Nat}{c:Int}(h0:0<=c)(h1:c<(((eZ g).map dE).length:Nat)):∃ f,eM ((eZ g).map dE) c=some (dE f)/\f.length=g:=by
 have hj:c.toNat<(eZ g).length:=by simp only[ab]at h1;omega
 refine⟨(eZ g)[c.toNat],?_,tZ g _ (gp hj)⟩
 have:=Ar (t:=dE) (aj hj)
 rwa [show((c.toNat:Nat):Int)=c by omega]at this
inductive Me (n g N:Nat)(F:Option D->Option D->Option D->Option D->St)(p:Nat)(bK:aA)(rest:List Nat)(σ:St)(aB:aA):Prop
 |mk (ms:gJ)(o8 o9 jA jO:Option D)(e0:rest.length+ms.length=N)(e1:σ=F o8 o9 jA jO)(e2:cG [p] bK aB)(e3:aB p=some (.lst (ms.map bZ)))(e4:∀ s∈ms,s.length=n/\∀ w∈s,w.1.length=g/\w.2<N)
inductive Mj (n g N:Nat)(F:Option D->Option D->St)(u:Nat)(dG:aA)(rest:List Nat)(σ:St)(gT:aA):Prop
 |mk (ws:List (List Bool×Nat))(jA jO:Option D)(f0:rest.length+ws.length=n)(f1:σ=F jA jO)(f2:cG [u] dG gT)(f3:gT u=some (.lst (ws.map dH)))(f4:∀ w∈ws,w.1.length=g/\w.2<N)
theorem Ow {v most:Int}(h0:0<=v)(h1:v<most)(h2:most<=60):∃ N:Nat,1+v=(N:Int)/\1<=N/\N<=60/\(N:Int)<=most:=⟨(1+v).toNat,by omega,by omega,by omega,by omega⟩
theorem Kr {N:Nat}(h:N<=60):dO (N:Int):=by unfold dO;omega
theorem Om {a:Int}{x y:Nat}(h:0<=a):0<=a+1+4*(x:Int)+(y:Int):=by omega
theorem Ei {N:Nat}(h:1<=N):(0:Int)<4*(N:Int):=by omega
theorem Oz {c:Int}{N:Nat}(h0:0<=c)(h1:c<4*(N:Int)):∃ k:Nat,c / 4=(k:Int)/\k<N:=⟨(c / 4).toNat,by omega,by omega⟩
theorem Ko:sR 4:=by unfold sR;omega
theorem Kq {a b N:Nat}(h:a+1+b=N)(h2:N<=60):b<bD:=by have hL:bD=16777216:=rfl;omega
theorem Kh {a b N:Nat}(h:a+1+b=N):a+(b+1)=N:=by omega
theorem Lg {b N:Nat}(h:b=N)(h2:N<=60):b<=bD:=by have hL:bD=16777216:=rfl;omega
theorem T3 {α:Type}(l:List α)(x:α):(l++[x]).length=l.length+1:=by simp
section
variable {G:Prog}{k i im ic is8:Nat}{st:aA}{Q:VK}{E:XK}{ns:List Int}
theorem KH (h:G.fns i=some (tO im is8))(hm:G.fns im=some (kS ic))(hc:G.fns ic=some mF)(h8:G.fns is8=some rY){at_ most:Int}{n g:Nat}(ha:0<=at_)(hmo:0<most)(hmo2:most<=60)(hn:n<=2)(hg:g<=2)
  (hQ:∀ m aB,Ext st aB->wO n g m->(m.length:Int)<=most->Q (dP m) aB):aJ G (k+3) i [.bL (ns.map .int),.int at_,.int (n:Nat),.int (g:Nat),.int most] st Q E:=by
 have hn16:2 ^ n<=16:=f7 (n:=2) (by decide) (by omega:n<=4)
 have hg16:0<2 ^ g:=Nat.pow_pos (by decide)
 have szn:=lW n
 generalize hN:2 ^ n=N at hn16 szn
 rw[aX h]
 simp only[tO,start]
 refine⟨rfl,?_⟩
 walk_at"st"
 refine AW hm hc ha hmo fun aC x1=>?_
 have v0:=fN (ns:=ns) (k:=at_) (many:=most) (by omega)
 have v1:=fQ (ns:=ns) (k:=at_) (many:=most) (by omega)
 generalize jD ns at_ most=v at v0 v1
 obtain⟨N1,hN1,n1,n60,nmo⟩:=Ow v0 v1 hmo2
 walk_at"ex"
 rw[hN1]
 clear hN1 v0 v1 hmo hmo2 v
 walk_at"st"
 refine uG (k:=k+1) h8 (by omega) fun q aF hq x2 hq2=>?_
 walk_at"st"
 refine cB (by simp) fun p bK x3 hp hp3=>?_
 walk_at"st"
 refine⟨Kr n60,?_⟩
 rw[show((N1:Nat):Int).toNat=N1 from rfl,hV]
 have q3:=x3 _ _ hq2
 have qp:q≠p:=fun z=>by rw[<-z]at hp;rw[hq2]at hp;cases hp
 refine gG (fun j:Nat=>D.int (j:Nat)) (I:=Me N g N1 (fun o8 o9 jA jO=>[some (.bL (ns.map .int)),some (.int at_),some (.int (n:Nat)),some (.int (g:Nat)),some (.int most),some (.int (N1:Nat)),some (.ref q),some (.ref p),o8,o9,jA,jO]) p bK) (fun rest σ aB _ a ha=>?_) (fun x rest σ aB M I hM=>?_) (fun σ aB I=>?_) _ _ _ ⟨[],none,none,none,none,by simp,rfl,.refl,hp3,by simp⟩
 ·cases ha
 ·obtain⟨ms,o8,o9,jA,jO,e0,e1,e2,e3,e4⟩:=I
  subst e1
  simp only[a9]at e0
  walk_at"st"
  refine cB (by simp) fun u cN x4 hu hu4=>?_
  have pu:p≠u:=fun z=>by rw[<-z]at hu;rw[e3]at hu;cases hu
  have qu:q≠u:=fun z=>by rw[<-z]at hu;rw[e2 _ _ (by simpa using qp) q3]at hu;cases hu
  walk_at"st"
  refine uG (k:=k+1) h8 (by omega) fun q' dG hq' x5 hq5=>?_
  walk_at"ex"
  rw[cM hq5]
  rw[ab,szn]
  refine⟨Kr (bu hn16 (by decide)),?_⟩
  rw[show((N:Nat):Int).toNat=N from rfl,hV]
  have u5:=x5 _ _ hu4
  refine gG (fun j:Nat=>D.int (j:Nat)) (I:=Mj N g N1 (fun jA jO=>[some (.bL (ns.map .int)),some (.int at_),some (.int (n:Nat)),some (.int (g:Nat)),some (.int most),some (.int (N1:Nat)),some (.ref q),some (.ref p),some (.int (x:Nat)),some (.ref u),jA,jO]) u dG) (fun nR σ gT _ a ha=>?_) (fun y nR σ gT M2 J hM2=>?_) (fun σ gT J=>?_) _ _ _ ⟨[],_,_,by simp,rfl,.refl,u5,by simp⟩
  ·cases ha
  ·obtain⟨ws,jA,jO,f0,f1,f2,f3,f4⟩:=J
   subst f1
   simp only[a9]at f0
   walk_at"st"
   refine⟨.inl Ko,.inl Ko,?_⟩
   refine AW hm hc (Om ha) (Ei n1) fun vB x7=>?_
   have c0:=fN (ns:=ns) (k:=at_+1+4*(x:Int)+(y:Int)) (many:=4*(N1:Int)) (Ei n1)
   have c1:=fQ (ns:=ns) (k:=at_+1+4*(x:Int)+(y:Int)) (many:=4*(N1:Int)) (Ei n1)
   generalize jD ns (at_+1+4*(x:Int)+(y:Int)) (4*(N1:Int))=c at c0 c1
   have u7:=x7 _ _ f3
   have q7:=x7 _ _ (f2 _ _ (by simpa using qu) (x5 _ _ (x4 _ _ (e2 _ _ (by simpa using qp) q3))))
   walk_at"st"
   rw[aG u7]
   refine⟨True.intro,by decide,?_⟩
   rw[cM q7]
   have hlen:(0:Int)<((((eZ g).map dE).length:Nat):Int):=by rw[ab,lW];exact Int.natCast_pos.mpr hg16
   refine⟨hlen,?_⟩
   obtain⟨fr,hfr,hfl⟩:=VX (g:=g) (ql (c % 4) (Int.ne_of_gt hlen)) (og (c % 4) hlen)
   rw[eS q7,hfr,aW]
   walk_at"ex"
   refine⟨by decide,?_⟩
   rw[aG u7]
   refine⟨by rw[ab];exact Kq f0 (bu hn16 (by decide)),?_⟩
   obtain⟨kk,hk1,hk2⟩:=Oz c0 c1
   rw[hk1]
   simp only[aL]
   refine hM2 _ _ ⟨ws++[(fr,kk)],_,_,by rw[T3];exact Kh f0,rfl,fun a o na e=>by rw[aU (by simpa using na)];exact x7 _ _ (f2 a o na e),?_,fun w hw=>?_⟩
   ·rw[aV,b9]
    rfl
   ·rcases List.mem_append.mp hw with hw|hw
    ·exact f4 w hw
    ·simp only[bw]at hw
     subst hw
     exact⟨hfl,hk2⟩
  ·obtain⟨ws,jA,jO,f0,f1,f2,f3,f4⟩:=J
   subst f1
   simp only[bh,qx]at f0
   have p6:=f2 _ _ (by simpa using pu) (x5 _ _ (x4 _ _ e3))
   walk_at"st"
   rw[aG p6]
   refine⟨True.intro,?_⟩
   rw[aG f3]
   refine⟨by rw[ab];exact Lg f0 (bu hn16 (by decide)),?_⟩
   rw[aG p6]
   refine⟨by rw[ab];exact Kq e0 n60,?_⟩
   simp only[aL]
   refine hM _ _ ⟨ms++[ws],_,_,_,_,by rw[T3];exact Kh e0,rfl,fun a o na e=>?_,?_,fun s hs=>?_⟩
   ·rw[aU (by simpa using na)]
    refine f2 a o (fun z=>?_) (x5 _ _ (x4 _ _ (e2 a o na e)))
    simp only[bw]at z
    rw[z]at e na
    rw[e2 u o na e]at hu;cases hu
   ·rw[aV,b9];rfl
   ·rcases List.mem_append.mp hs with hs|hs
    ·exact e4 s hs
    ·simp only[bw]at hs
     subst hs
     exact⟨f0,f4⟩
 ·obtain⟨ms,o8,o9,jA,jO,e0,e1,e2,e3,e4⟩:=I
  subst e1
  simp only[bh,qx]at e0
  walk_at"st"
  rw[aG e3]
  refine⟨by rw[ab];exact Lg e0 n60,?_⟩
  refine hQ ms aB (fun a o e=>e2 a o (fun z=>?_) (x3 _ _ (x2 _ _ (x1 _ _ e)))) ⟨e0▸n1,e0▸Nat.le_trans n60 (by decide),fun s hs=>(e4 s hs).1.trans hN.symm,fun s hs w hw=>((e4 s hs).2 w hw).1,fun s hs w hw=>e0▸((e4 s hs).2 w hw).2⟩ (e0▸nmo)
  simp only[bw]at z
  rw[z]at e
  rw[x2 _ _ (x1 _ _ e)]at hp;cases hp
end
end L3
end
section
namespace L3
noncomputable abbrev DV:=List (List (List Bool×Nat))
noncomputable def lk (l:List Nat)(s:List (List Bool×Nat)):List (List Bool×Nat):=s.map fun w=>(w.1,l.getD w.2 0)
noncomputable def jR (m:DV)(l:List Nat):List Nat:=(m.map (lk l)).map fun x=>(m.map (lk l)).idxOf x
noncomputable def lead (m:DV):Nat->List Nat
 |0=>ay m.length 0
 |t+1=>jR m (lead m t)
noncomputable def row (m:DV)(i:Nat):List (List Bool×Nat):=m.getD i []
section
variable {m:DV}
theorem V6 (l:List Nat):(jR m l).length=m.length:=by simp [jR]
theorem lB:∀ t,(lead m t).length=m.length
 |0=>by simp [lead]
 |t+1=>V6 _
theorem tE {l:List Nat}{i:Nat}(h:i<m.length):(m.map (lk l))[i]? = some (lk l (row m i)):=by
 rw[be,aj h]
 simp [row,dm,aj h]
theorem CL {l:List Nat}{i:Nat}(h:i<m.length):(jR m l).getD i 0=(m.map (lk l)).idxOf (lk l (row m i)):=by
 unfold jR
 rw[dm,be,tE h];rfl
theorem nV {α:Type}[BEq α] [LawfulBEq α]:∀{xs:List α}{i:Nat}{x:α},xs[i]? = some x->xs.idxOf x<=i
 |[],_,_,h=>by simp at h
 |y::r,0,x,h=>by simp at h;subst h;simp [lx]
 |y::r,i+1,x,h=>by
  rw[lx]
  have:=nV (xs:=r) (i:=i) (x:=x) (by simpa using h)
  cases e:y==x
  ·simp;omega
  ·simp
theorem A5 {α:Type}[BEq α] [LawfulBEq α]{xs:List α}{x:α}(h:x∈xs):xs[xs.idxOf x]? = some x:=by
 have hl:xs.idxOf x<xs.length:=List.idxOf_lt_length_iff.mpr h
 rw[aj hl,List.getElem_idxOf hl]
theorem pV {l:List Nat}{i:Nat}(h:i<m.length):(jR m l).getD i 0<=i/\lk l (row m ((jR m l).getD i 0))=lk l (row m i):=by
 rw[CL h]
 have hm:lk l (row m i)∈m.map (lk l):=bf (tE h)
 have h1:=nV (tE (m:=m) (l:=l) h)
 refine⟨h1,?_⟩
 have h2:=A5 hm
 rw[tE (by omega)]at h2
 exact cy h2
theorem W0 {l:List Nat}{i j:Nat}(h:i<m.length)(hj:j<m.length)(e:lk l (row m j)=lk l (row m i)):(jR m l).getD i 0<=j:=by
 rw[CL h,<-e]
 exact nV (tE hj)
theorem B4 {l:List Nat}{i j:Nat}(h:i<m.length)(hj:j<m.length):(jR m l).getD i 0=(jR m l).getD j 0↔lk l (row m i)=lk l (row m j):=by
 constructor
 ·intro e
  rw[<-(pV h).2,e,(pV hj).2]
 ·intro e
  rw[CL h,CL hj,e]
def zJ (m:DV):Prop:=∀ s∈m,∀ w∈s,w.2<m.length
theorem eQ {i:Nat}(h:i<m.length):row m i∈m:=by
 unfold row;rw[dm,aj h];exact gp h
theorem wW {l l':List Nat}(hm:zJ m)(h:∀ x y,x<m.length->y<m.length->l'.getD x 0=l'.getD y 0->l.getD x 0=l.getD y 0):∀{s s':List (List Bool×Nat)},(∀ w∈s,w.2<m.length)->(∀ w∈s',w.2<m.length)->lk l' s=lk l' s'->lk l s=lk l s'
 |[],[],_,_,_=>rfl
 |[],_::_,_,_,e=>by simp [lk]at e
 |_::_,[],_,_,e=>by simp [lk]at e
 |w::s,w'::s',h1,h2,e=>by
  simp only[lk,aq,lu,xx]at e ⊢
  refine⟨⟨e.1.1,h _ _ (h1 w (by simp)) (h2 w' (by simp)) e.1.2⟩,?_⟩
  exact wW hm h (fun x hx=>h1 x (by simp [hx])) (fun x hx=>h2 x (by simp [hx])) e.2
theorem zH (hm:zJ m):∀ t i j,i<m.length->j<m.length->(lead m (t+1)).getD i 0=(lead m (t+1)).getD j 0->(lead m t).getD i 0=(lead m t).getD j 0
 |0,i,j,hi,hj,_=>by simp [lead,dm,dw,hi,hj]
 |t+1,i,j,hi,hj,e=>by
  have ih:=zH hm t
  have e':=(B4 (l:=lead m (t+1)) hi hj).mp e
  exact(B4 (l:=lead m t) hi hj).mpr (wW hm ih (hm _ (eQ hi)) (hm _ (eQ hj)) e')
theorem PM (hm:zJ m)(t i:Nat)(hi:i<m.length):(lead m t).getD i 0<=(lead m (t+1)).getD i 0:=by
 cases t with
 |zero=>simp [lead,dm,dw,hi]
 |succ t =>
 obtain⟨h1,h2⟩:=pV (l:=lead m (t+1)) hi
 have hj:(jR m (lead m (t+1))).getD i 0<m.length:=by omega
 refine W0 hi hj ?_
 exact wW hm (zH hm t) (hm _ (eQ hj)) (hm _ (eQ hi)) h2
theorem Y7 (t i:Nat)(hi:i<m.length):(lead m t).getD i 0<=i:=by
 cases t with
 |zero=>simp [lead,dm,dw,hi]
 |succ t=>exact(pV hi).1
theorem OQ:∀{a b:List Nat},a.length=b.length->(∀ i,i<a.length->a.getD i 0<=b.getD i 0)->a≠b->a.sum<b.sum
 |[],[],_,_,h=>absurd rfl h
 |x::a,y::b,hl,h,hn=>by
  have h0:x<=y:=by have:=h 0 (by simp);simpa using this
  have hr:∀ i,i<a.length->a.getD i 0<=b.getD i 0:=fun i hi=>by have:=h (i+1) (by simp;omega);simpa using this
  have hl':a.length=b.length:=by simpa using hl
  by_cases e:a=b
  ·subst e
   have:x≠y:=fun z=>hn (by rw[z])
   simp;omega
  ·have:=OQ hl' hr e
   simp;omega
theorem sum_bound {n:Nat}:∀{a:List Nat},(∀ x∈a,x<=n)->a.sum<=a.length*n
 |[],_=>by simp
 |x::a,h=>by
  have:=sum_bound (a:=a) fun y hy=>h y (by simp [hy])
  have:=h x (by simp)
  simp only[List.sum_cons,a9,Sf];omega
theorem G2 (t:Nat):(lead m t).sum<=m.length*m.length:=by
 rw[<-lB (m:=m) t]
 have:∀ x∈lead m t,x<=(lead m t).length:=fun x hx=>by
  obtain⟨i,hi,e⟩:=qt hx
  have h:=Y7 (m:=m) t i (by rw[<-lB (m:=m) t];exact hi)
  rw[dm,aj hi]at h
  simp only[kn]at h
  omega
 exact sum_bound this
theorem N5 (hm:zJ m)(t:Nat)(h:lead m (t+1)≠lead m t):(lead m t).sum<(lead m (t+1)).sum :=
 OQ (by rw[lB,lB]) (fun i hi=>PM hm t i (by rw[<-lB (m:=m) t];exact hi)) fun z=>h z.symm
theorem CD {R:Nat->Nat->Prop}(hb:∀ i j,R i j->i<m.length/\j<m.length)(hR:∀ i j,R i j->(row m i).length=(row m j).length/\∀(k:Nat)(v w:List Bool×Nat),(row m i)[k]? = some v->(row m j)[k]? = some w->v.1=w.1/\R v.2 w.2):∀ t i j,R i j->(lead m t).getD i 0=(lead m t).getD j 0
 |0,i,j,r=>by
  obtain⟨hi,hj⟩:=hb i j r
  simp [lead,dm,dw,hi,hj]
 |t+1,i,j,r=>by
  obtain⟨hi,hj⟩:=hb i j r
  refine(B4 (l:=lead m t) hi hj).mpr ?_
  obtain⟨hl,h⟩:=hR i j r
  refine ze fun k=>?_
  simp only[lk,be]
  cases e:(row m i)[k]? with
  |none =>
   have:(row m j)[k]? = none:=by rw[List.getElem?_eq_none_iff]at e ⊢;omega
   rw[this]
  |some v =>
   have hk:k<(row m j).length:=by rw[<-hl];exact(List.getElem?_eq_some_iff.mp e).1
   rw[aj hk]
   obtain⟨q1,q2⟩:=h k v _ e (aj hk)
   simp only[Qp,zf,xx]
   exact⟨q1,CD hb hR t _ _ q2⟩
end
noncomputable def num (met:List Nat)(x:Nat):List Nat:=if x∈met then met else met++[x]
noncomputable def fY (met:List Nat):List (List Bool×Nat)->List (List Bool×Nat)
 |[]=>[]
 |w::r=>(w.1,(num met w.2).idxOf w.2)::fY (num met w.2) r
noncomputable def dM (met:List Nat)(s:List (List Bool×Nat)):List Nat:=s.foldl (fun M w=>num M w.2) met
noncomputable def aR (f:Nat->List (List Bool×Nat)):Nat->List Nat
 |0=>[0]
 |k+1=>dM (aR f k) (f ((aR f k).getD k 0))
theorem xV (met:List Nat)(x:Nat):x∈num met x:=by unfold num;split<;>simp_all
theorem ZA (met:List Nat)(x:Nat):met <+: num met x:=by
 unfold num;split
 ·exact mo _
 ·exact yj _ _
set_option tactic.hygienic true in
theorem QV {met:List Nat}(h:met.Nodup)(x:Nat):(num met x).Nodup:=by
 unfold num;split
 ·exact h
 ·rename_i hx
  rw[tu]
  exact⟨h,by simp,fun a ha b hb=>by simp at hb;subst hb;exact fun z=>hx (z▸ha)⟩
theorem X4 {P:Nat->Prop}{met:List Nat}{x:Nat}(h:∀ y∈met,P y)(hx:P x):∀ y∈num met x,P y:=by
 unfold num;split
 ·exact h
 ·intro y hy
  rcases List.mem_append.mp hy with hy|hy
  ·exact h y hy
  ·simp at hy;subst hy;exact hx
theorem lZ:∀(s:List (List Bool×Nat))(met:List Nat),met <+: dM met s
 |[],_=>mo _
 |w::r,met=>(ZA met w.2).trans (lZ r _)
theorem rA:∀(s:List (List Bool×Nat)){met:List Nat},met.Nodup->(dM met s).Nodup
 |[],_,h=>h
 |w::r,_,h=>rA r (QV h w.2)
theorem tK {P:Nat->Prop}:∀(s:List (List Bool×Nat)){met:List Nat},(∀ y∈met,P y)->(∀ w∈s,P w.2)->∀ y∈dM met s,P y
 |[],_,h,_=>h
 |w::r,_,h,hs=>tK r (X4 h (hs w (by simp))) fun v hv=>hs v (by simp [hv])
theorem BG:∀(s:List (List Bool×Nat))(met:List Nat),∀ w∈s,w.2∈dM met s
 |w::r,met,v,hv=>by
  rcases List.mem_cons.mp hv with rfl|hv
  ·exact(lZ r _).subset (xV _ _)
  ·exact BG r _ v hv
theorem W8 {a b:List Nat}(h:a <+: b){x:Nat}(hx:x∈a):b.idxOf x=a.idxOf x:=by
 obtain⟨t,rfl⟩:=h
 rw[zg,if_pos hx]
theorem E2:∀(s:List (List Bool×Nat))(met:List Nat){M:List Nat},dM met s <+: M->fY met s=s.map fun w=>(w.1,M.idxOf w.2)
 |[],_,_,_=>rfl
 |w::r,met,M,h=>by
  have ih:=E2 r (num met w.2) h
  have:num met w.2 <+: M:=(lZ r _).trans h
  rw[fY,ih,aq,W8 this (xV _ _)]
section
variable {f:Nat->List (List Bool×Nat)}
theorem G7 (k:Nat):aR f k <+: aR f (k+1):=lZ _ _
theorem pJ {j:Nat}:∀{k:Nat},j<=k->aR f j <+: aR f k
  | 0, h => by have:j=0:=by omega
               subst this;exact mo _
  |k+1,h=>by
    by_cases e:j=k+1
    ·subst e;exact mo _
    ·exact(pJ (k:=k) (by omega)).trans (G7 k)
theorem lX:∀ k,(aR f k).Nodup
 |0=>by simp [aR]
 |k+1=>rA _ (lX k)
theorem O4 (k:Nat):(aR f k)[0]? = some 0:=by
 obtain⟨t,e⟩:=pJ (f:=f) (cx k)
 rw[<-e];rfl
theorem AG {P:Nat->Prop}(h0:P 0)(hf:∀ x,P x->∀ w∈f x,P w.2):∀ k,k<=(aR f k).length->(∀ j<k,j<(aR f j).length)->∀ y∈aR f k,P y
 |0,_,_=>by simp [aR];exact h0
 |k+1,hk,hj=>by
  have hk':k<(aR f k).length:=hj k (by omega)
  have ih:=AG h0 hf k (by omega) fun j hj'=>hj j (by omega)
  refine tK _ ih fun w hw=>hf _ (ih _ ?_) w hw
  rw[dm,aj hk'];exact gp hk'
noncomputable def cE (f:Nat->List (List Bool×Nat))(n:Nat):DV:=(bb n).map fun k=>fY (aR f k) (f ((aR f k).getD k 0))
theorem dX (n:Nat):(cE f n).length=n:=by simp [cE]
theorem GG {j k:Nat}(h:j<=k)(hj:j<(aR f j).length):(aR f j).getD j 0=(aR f k).getD j 0:=by
 obtain⟨t,e⟩:=pJ (f:=f) h
 rw[<-e,dm,dm,c9 hj]
theorem uB {n k:Nat}(hk:k<n)(hj:∀ j<n,j<(aR f j).length):row (cE f n) k=(f ((aR f n).getD k 0)).map fun w=>(w.1,(aR f n).idxOf w.2):=by
 have e:row (cE f n) k=fY (aR f k) (f ((aR f k).getD k 0)):=by
  unfold row cE
  rw[dm,be,jm hk];rfl
 rw[e,E2 _ _ (M:=aR f n) (pJ (f:=f) (show k+1<=n by omega)),GG (me hk) (hj k hk)]
theorem AY {n k:Nat}(hk:k<n)(hj:∀ j<n,j<(aR f j).length):∀ w∈f ((aR f n).getD k 0),w.2∈aR f n:=fun w hw=>by
 rw[<-GG (me hk) (hj k hk)]at hw
 exact(pJ (f:=f) (show k+1<=n by omega)).subset (BG _ _ w hw)
theorem FZ:∀(s:List (List Bool×Nat))(met:List Nat),met.Nodup->dM (bb met.length) (fY met s)=bb (dM met s).length
 |[],_,_=>rfl
 |w::r,met,h=>by
  have ih:=FZ r (num met w.2) (QV h _)
  show dM (num (bb met.length) ((num met w.2).idxOf w.2)) (fY (num met w.2) r)=_
  have:num (bb met.length) ((num met w.2).idxOf w.2)=bb (num met w.2).length:=by
   unfold num
   by_cases hx:w.2∈met
   ·have hl:met.idxOf w.2<met.length:=List.idxOf_lt_length_iff.mpr hx
    rw[if_pos hx,if_pos (List.mem_range.mpr hl)]
   ·have:(met++[w.2]).idxOf w.2=met.length:=by rw[zg,if_neg hx];simp
    rw[if_neg hx,this,if_neg (by simp),bg,vp,qk]
  rw[this,ih]
  rfl
theorem rC {n:Nat}(hj:∀ j<n,j<(aR f j).length):∀ k≤n,aR (row (cE f n)) k=bb (aR f k).length
 |0,_=>rfl
 |k+1,hk=>by
  have ih:=rC hj k (by omega)
  have hk':=hj k (by omega)
  have e:row (cE f n) k=fY (aR f k) (f ((aR f k).getD k 0)):=by
   unfold row cE
   rw[dm,be,jm (by omega)];rfl
  have eg:(bb (aR f k).length).getD k 0=k:=by rw[dm,jm hk'];rfl
  show dM (aR (row (cE f n)) k) (row (cE f n) ((aR (row (cE f n)) k).getD k 0))=_
  rw[ih,eg,e,FZ _ _ (lX k)]
  rfl
theorem QZ {n:Nat}(hj:∀ j<n,j<(aR f j).length)(hn:(aR f n).length=n):cE (row (cE f n)) n=cE f n:=by
 have hs:=rC hj
 have hl:∀ j<n,j<(aR (row (cE f n)) j).length:=fun j h=>by rw[hs j (by omega),fw];exact hj j h
 refine ze fun k=>?_
 by_cases hk:k<n
 ·have e1:=uB (f:=row (cE f n)) hk hl
  have hr:∀ g:Nat->List (List Bool×Nat),(cE g n)[k]? = some (row (cE g n) k):=fun g=>by
   have:k<(cE g n).length:=by rw[dX];exact hk
   unfold row;rw[dm,aj this];rfl
  rw[hr,hr,e1,hs n (av _),hn]
  have eg:(bb n).getD k 0=k:=by rw[dm,jm hk];rfl
  rw[eg]
  congr 1
  conv=>rhs;rw[<-Ti (row (cE f n) k)]
  refine xn fun w hw=>?_
  have hw2:w.2<n:=by
   rw[uB hk hj]at hw
   obtain⟨v,hv,rfl⟩:=List.mem_map.mp hw
   have:=List.idxOf_lt_length_iff.mpr (AY hk hj v hv)
   rw[hn]at this;exact this
  have:(bb n).idxOf w.2=w.2:=by
   have h1:=nV (xs:=bb n) (i:=w.2) (x:=w.2) (jm hw2)
   have h2:=A5 (xs:=bb n) (List.mem_range.mpr hw2)
   rw[jm (by omega)]at h2
   exact cy h2
  rw[this];rfl
 ·rw[j3 (by rw[dX];omega),j3 (by rw[dX];omega)]
end
theorem kT:∀{N:Nat}{l:List Nat},l.Nodup->(∀ x∈l,x<N)->l.length<=N
 |0,[],_,_=>av _
 |0,x::_,_,h=>absurd (h x (by simp)) (by omega)
 |N+1,l,hn,h=>by
  by_cases hm:N∈l
  ·have h1:=kT (N:=N) (l:=l.erase N) (hn.erase N) fun x hx=>by
    have h2:=(List.Nodup.mem_erase_iff hn).mp hx
    have:=h x h2.2
    have:=h2.1
    omega
   rw[List.length_erase_of_mem hm]at h1
   omega
  ·have h1:=kT (N:=N) hn fun x hx=>by
    have:=h x hx
    have:x≠N:=fun z=>hm (z▸hx)
    omega
   omega
structure Rest (m:DV)(L:List Nat):Prop where
 inn:zJ m
 one:0<m.length
 ld:∃ T,L=lead m T
 fx:jR m L=L
structure Done (f:Nat->List (List Bool×Nat))(n:Nat):Prop where
 lt:∀ j<n,j<(aR f j).length
 le:(aR f n).length=n
section
variable {m:DV}{L:List Nat}{n:Nat}
theorem Rest.len (r:Rest m L):L.length=m.length:=by obtain⟨T,rfl⟩:=r.ld;exact lB T
theorem Rest.spec (r:Rest m L){i:Nat}(h:i<m.length):L.getD i 0<=i/\lk L (row m (L.getD i 0))=lk L (row m i):=by
 have:=pV (l:=L) h
 rw[r.fx]at this;exact this
theorem Rest.eq (r:Rest m L){i j:Nat}(h:i<m.length)(hj:j<m.length):L.getD i 0=L.getD j 0↔lk L (row m i)=lk L (row m j):=by
 have:=B4 (l:=L) h hj
 rw[r.fx]at this;exact this
theorem Rest.idem (r:Rest m L){i:Nat}(h:i<m.length):L.getD (L.getD i 0) 0=L.getD i 0:=by
 have:=r.spec h
 exact(r.eq (by omega) h).mpr this.2
theorem Rest.mem (r:Rest m L)(d:Done (fun x=>lk L (row m x)) n):∀ y∈aR (fun x=>lk L (row m x)) n,y<m.length/\L.getD y 0=y:=by
 refine AG (P:=fun y=>y<m.length/\L.getD y 0=y) ⟨r.one,?_⟩ (fun x hx w hw=>?_) n (by rw[d.le];exact av _) d.lt
 ·have:=(r.spec r.one).1;omega
 ·obtain⟨v,hv,rfl⟩:=List.mem_map.mp hw
  have hv2:=r.inn _ (eQ hx.1) v hv
  have:=(r.spec hv2).1
  exact⟨show L.getD v.2 0<_ by omega,r.idem hv2⟩
theorem Rest.size (r:Rest m L)(d:Done (fun x=>lk L (row m x)) n):n<=m.length:=by
 have:=kT (lX (f:=fun x=>lk L (row m x)) n) fun x hx=>(r.mem d x hx).1
 rw[d.le]at this;exact this
theorem Rest.pos (d:Done (fun x=>lk L (row m x)) n):0<n:=by
 have:=O4 (f:=fun x=>lk L (row m x)) n
 have h:=(List.getElem?_eq_some_iff.mp this).1
 rw[d.le]at h;exact h
theorem Rest.SG (r:Rest m L)(d:Done (fun x=>lk L (row m x)) n){x:Nat}(hx:x<m.length)(hM:L.getD x 0∈aR (fun x=>lk L (row m x)) n):
 row (cE (fun x=>lk L (row m x)) n) ((aR (fun x=>lk L (row m x)) n).idxOf (L.getD x 0))=(row m x).map fun v=>(v.1,(aR (fun x=>lk L (row m x)) n).idxOf (L.getD v.2 0)):=by
 have hk:(aR (fun x=>lk L (row m x)) n).idxOf (L.getD x 0)<n:=by have:=List.idxOf_lt_length_iff.mpr hM;rw[d.le]at this;exact this
 have eg:(aR (fun x=>lk L (row m x)) n).getD ((aR (fun x=>lk L (row m x)) n).idxOf (L.getD x 0)) 0=L.getD x 0:=by rw[dm,A5 hM];rfl
 rw[uB hk d.lt,eg]
 rw[(r.spec hx).2]
 unfold lk
 rw[mn];rfl
theorem Rest.ends (r:Rest m L)(d:Done (fun x=>lk L (row m x)) n){x:Nat}(hx:x<m.length)(hM:L.getD x 0∈aR (fun x=>lk L (row m x)) n):∀ v∈row m x,v.2<m.length/\L.getD v.2 0∈aR (fun x=>lk L (row m x)) n:=fun v hv=>by
 refine⟨r.inn _ (eQ hx) v hv,?_⟩
 have hk:(aR (fun x=>lk L (row m x)) n).idxOf (L.getD x 0)<n:=by have:=List.idxOf_lt_length_iff.mpr hM;rw[d.le]at this;exact this
 have eg:(aR (fun x=>lk L (row m x)) n).getD ((aR (fun x=>lk L (row m x)) n).idxOf (L.getD x 0)) 0=L.getD x 0:=by rw[dm,A5 hM];rfl
 have:=AY (f:=fun x=>lk L (row m x)) hk d.lt
 rw[eg]at this
 rw[(r.spec hx).2]at this
 exact this (v.1,L.getD v.2 0) (List.mem_map.mpr ⟨v,hv,rfl⟩)
theorem Rest.apart (r:Rest m L)(d:Done (fun x=>lk L (row m x)) n){R:Nat->Nat->Prop}(hb:∀ i j,R i j->i<n/\j<n)
  (hR:∀ i j,R i j->(row (cE (fun x=>lk L (row m x)) n) i).length=(row (cE (fun x=>lk L (row m x)) n) j).length/\∀(k:Nat)(v w:List Bool×Nat),(row (cE (fun x=>lk L (row m x)) n) i)[k]? = some v->(row (cE (fun x=>lk L (row m x)) n) j)[k]? = some w->v.1=w.1/\R v.2 w.2){i j:Nat}(hij:R i j):i=j:=by
 obtain⟨hi,hj⟩:=hb i j hij
 generalize hM:aR (fun x=>lk L (row m x)) n=M at *
 have nd:M.Nodup:=hM▸lX n
 have le:M.length=n:=hM▸d.le
 have mem:∀ y∈M,y<m.length/\L.getD y 0=y:=hM▸r.mem d
 have gi:∀{k},k<n->M.getD k 0∈M/\M.idxOf (M.getD k 0)=k:=fun{k} hk=>by
  have hk':k<M.length:=by omega
  have e:M.getD k 0=M[k]:=by rw[dm,aj hk'];rfl
  rw[e]
  exact⟨List.getElem_mem hk',nd.idxOf_getElem k hk'⟩
 have hS:=CD (m:=m) (R:=fun x y=>x<m.length/\y<m.length/\L.getD x 0∈M/\L.getD y 0∈M/\R (M.idxOf (L.getD x 0)) (M.idxOf (L.getD y 0))) (fun x y h=>⟨h.1,h.2.1⟩) fun x y ⟨hx,hy,mx,my,hr⟩=>by
  obtain⟨h1,h2⟩:=hR _ _ hr
  have rx:=r.SG d hx (by rw[hM];exact mx)
  have ry:=r.SG d hy (by rw[hM];exact my)
  rw[hM]at rx ry
  rw[rx,ry,ab,ab]at h1
  refine⟨h1,fun k v w hv hw=>?_⟩
  have:=h2 k (v.1,M.idxOf (L.getD v.2 0)) (w.1,M.idxOf (L.getD w.2 0)) (by rw[rx,be,hv];rfl) (by rw[ry,be,hw];rfl)
  have ev:=r.ends d hx (by rw[hM];exact mx) v (bf hv)
  have ew:=r.ends d hy (by rw[hM];exact my) w (bf hw)
  rw[hM]at ev ew
  exact⟨this.1,ev.1,ew.1,ev.2,ew.2,this.2⟩
 obtain⟨T,eT⟩:=r.ld
 obtain⟨ci,ei⟩:=gi hi
 obtain⟨cj,ej⟩:=gi hj
 obtain⟨bi,li⟩:=mem _ ci
 obtain⟨bj,lj⟩:=mem _ cj
 have:=hS T (M.getD i 0) (M.getD j 0) ⟨bi,bj,by rw[li];exact ci,by rw[lj];exact cj,by rw[li,lj,ei,ej];exact hij⟩
 rw[<-eT,li,lj]at this
 rw[<-ei,<-ej,this]
theorem Rest.self (r:Rest m L)(d:Done (fun x=>lk L (row m x)) n){L':List Nat}(r':Rest (cE (fun x=>lk L (row m x)) n) L'):(fun x=>lk L' (row (cE (fun x=>lk L (row m x)) n) x))=row (cE (fun x=>lk L (row m x)) n):=by
 have hl:(cE (fun x=>lk L (row m x)) n).length=n:=dX n
 have id:∀ i<n,L'.getD i 0=i:=fun i hi=>by
  have s:=(r'.spec (i:=i) (by omega)).1
  refine r.apart d (R:=fun i j=>i<n/\j<n/\L'.getD i 0=L'.getD j 0) (fun _ _ h=>⟨h.1,h.2.1⟩) (fun x y ⟨hx,hy,e⟩=>?_) ⟨show L'.getD i 0<n by omega,hi,r'.idem (by omega)⟩
  have e:=(r'.eq (by omega) (by omega)).mp e
  refine⟨by have:=congrArg v7 e;simpa [lk]using this,fun k v w hv hw=>?_⟩
  have lkk:∀ s:List (List Bool×Nat),(lk L' s)[k]? = (s[k]?).map fun w=>(w.1,L'.getD w.2 0):=fun s=>by unfold lk;rw[be]
  have q:(lk L' (row (cE (fun x=>lk L (row m x)) n) x))[k]? = (lk L' (row (cE (fun x=>lk L (row m x)) n) y))[k]?:=by rw[e]
  rw[lkk,lkk,hv,hw]at q
  simp only[Qp,zf,xx]at q
  exact⟨q.1,by have:=r'.inn _ (eQ (by omega)) v (bf hv);omega,by have:=r'.inn _ (eQ (by omega)) w (bf hw);omega,q.2⟩
 funext x
 by_cases hx:x<n
 ·unfold lk
  conv=>rhs;rw[<-Ti (row _ x)]
  refine xn fun w hw=>?_
  have:=r'.inn _ (eQ (by omega)) w hw
  rw[id w.2 (by omega)];rfl
 ·have:row (cE (fun x=>lk L (row m x)) n) x=[]:=by
   show(cE (fun x=>lk L (row m x)) n).getD x []=[]
   rw[dm,j3 (by omega)];rfl
  rw[this];rfl
end
end L3
end
section
namespace L3
open PySem
noncomputable def N0:Fn:=⟨2,2,[.ret (.bi .tuple [(.comp 2 [1] [0,1] false none [(.v 0)] [] (.tup [(.v 0),(.ix (.v 2) (.v 1))]))])]⟩
noncomputable def FY (iww:Nat):Fn:=⟨1,4,[.asg (.nm 1) (.comp 1 [] [0] true none [(.v 0)] [] (.c (.int 0))),.whl (.c (.bl true)) [.asg (.nm 2) (.comp 1 [1] [0] true none [(.v 0)] [] (.call iww [(.v 0),(.v 1)])),.asg (.nm 3) (.comp 1 [2] [0] true none [(.v 2)] [] (.dF .index (.v 1) [(.v 0)])),.iff (.cmp .eq (.v 3) (.v 1)) [.ret (.v 1)] [],.asg (.nm 1) (.v 3)]]⟩
theorem Y0 {st:aA}(a b:List Bool×Nat):bJ st (dH a) (dH b)=decide (a=b):=by
 simp only[dH,bJ,gA,xT,nz]
 rw[dy]
 simp only[ar,decide_eq_true_eq,beq_iff_eq,Prod.ext_iff]
 exact⟨fun h=>⟨h.1,by omega⟩,fun h=>⟨h.1,by omega⟩⟩
theorem JY {α:Type}[DecidableEq α]{st:aA}{t:α->D}(ht:∀ a b,bJ st (t a) (t b)=decide (a=b)):∀ xs ys:List α,gA st (xs.map t) (ys.map t)=decide (xs=ys)
 |[],[]=>by simp [gA]
 |[],_::_=>by simp [gA]
 |_::_,[]=>by simp [gA]
 |x::xs,y::ys=>by
  simp only[aq,gA,ht,JY ht xs ys]
  rw[dy];simp
theorem YG {st:aA}(a b:List (List Bool×Nat)):bJ st (bZ a) (bZ b)=decide (a=b):=by
 simp only[bZ,bJ];exact JY Y0 a b
theorem EC {α:Type}[BEq α] [LawfulBEq α]{st:aA}{t:α->D}(ht:∀ a b,bJ st (t a) (t b)=(a==b)){x:α}:∀{xs:List α},x∈xs->findD st (t x) (xs.map t)=some (xs.idxOf x)
 |[],h=>by cases h
 |y::r,h=>by
  simp only[aq,findD,ht]
  cases e:y==x with
  |true=>simp [lx,e]
  |false =>
   have ne:y≠x:=beq_eq_false_iff_ne.mp e
   rw[if_neg (by simp),EC ht (by simpa [jn ne]using h)]
   rw[lx,e];rfl
theorem UE {st:aA}(a b:List (List Bool×Nat)):bJ st (bZ a) (bZ b)=(a==b):=by
 rw[YG,dy,decide_eq_true_eq,beq_iff_eq]
theorem LK (s:List (List Bool×Nat)):bI (s.map dH)=true/\cC (s.map dH)<=2:=by
 induction s with
 |nil=>exact⟨rfl,cx _⟩
 |cons x r ih =>
 have p:=uK x.1
 have d:=CV x.1
 exact⟨by simp only[aq,bI,dH,bH,p,ih.1,fq],by have:=ih.2;simp only[aq,cC,dH,dJ];omega⟩
theorem KY (m:gJ):bI (m.map bZ)=true/\cC (m.map bZ)<=3:=by
 induction m with
 |nil=>exact⟨rfl,cx _⟩
 |cons xs r ih =>
 have:=LK xs
 exact⟨by simp only[aq,bI,bZ,bH,this.1,ih.1,fq],by have:=this.2;have:=ih.2;simp only[aq,cC,bZ,dJ];omega⟩
theorem BC {st aC:aA}{p:Nat}(x:Ext st aC)(h:aC p=none):st p=none:=by
 cases e:st p with
 |none=>rfl
 |some o=>rw[x _ _ e]at h;cases h
noncomputable def bF (x:Nat):D:=.int (x:Nat)
theorem AL:∀ a b:List Nat,dI (a.map bF) (b.map bF)=decide (a=b)
 |[],[]=>by simp [dI]
 |[],_::_=>by simp [dI]
 |_::_,[]=>by simp [dI]
 |x::xs,y::ys=>by
  simp only[aq,dI,AL xs ys,bF,bT]
  rw[dy]
  simp only[ar,beq_iff_eq,decide_eq_true_eq,lu]
  exact⟨fun h=>⟨by omega,h.2⟩,fun h=>⟨by omega,h.2⟩⟩
theorem pH {st:aA}{p:Nat}{l:List Nat}(h:st p=some (.lst (l.map bF))):plainS st (.ref p):=by
 refine⟨?_,cx _⟩
 have:∀ l:List Nat,bI (l.map bF)=true/\cC (l.map bF)=0:=fun l=>by
  induction l with
  |nil=>exact⟨rfl,rfl⟩
  |cons x r ih=>exact⟨by simp only[aq,bI,bF,bH,ih.1,fq],by simp only[aq,cC,bF,dJ,ih.2];rfl⟩
 simp only[gK,h,UO,(this l).1,(this l).2];rfl
theorem HP {l:List Nat}{x:Nat}(h:x<l.length):eM (l.map bF) (x:Nat)=some (bF (l.getD x 0)):=by
 rw[gD (by simpa using h),be,aj h,dm,aj h];rfl
section
variable {G:Prog}{k i iww:Nat}{st:aA}{Q:VK}{E:XK}
theorem U1 (h:G.fns i=some N0){s:List (List Bool×Nat)}{L:List Nat}{l:Nat}(hl:st l=some (.lst (L.map bF)))(hs:s.length<=1000)(hb:∀ w∈s,w.2<L.length)(hQ:∀ aB,Ext st aB->Q (bZ (lk L s)) aB):aJ G (k+1) i [bZ s,.ref l] st Q E:=by
 have hL:bD=16777216:=rfl
 rw[aX h]
 simp only[N0,start,bZ]
 refine⟨rfl,?_⟩
 walk_at"st"
 refine iU dH (fun w=>dH (w.1,L.getD w.2 0)) s [] st (fun aB x a ha=>by cases ha) (fun w hw aB K x1 hK=>?_) (by simp only[bh];omega) fun aC x1=>?_
 ·simp only[dH]
  walk_at"ex"
  rw[eS (x1 _ _ hl),HP (hb w hw),aW]
  exact hK aB .refl
 rw[b7]
 refine cB (by simp only[ab];omega) fun p aF x2 hp kM=>?_
 walk_at"ex"
 rw[aG kM]
 try simp only[dN]
 refine⟨by rw[ab];omega,?_⟩
 have:=hQ _ (x1.trans x2)
 unfold bZ lk at this
 rw[mn]at this
 exact this
theorem ZD (h:G.fns i=some (FY iww))(hw:G.fns iww=some N0){m:gJ}(hI:zJ m)(h1:0<m.length)(h2:m.length<=1000)(h3:∀ s∈m,s.length<=1000)
  (hQ:∀ L p aB,Rest m L->st p=none->Ext st aB->aB p=some (.lst (L.map bF))->Q (.ref p) aB):aJ G (k+2) i [dP m] st Q E:=by
 have hL:bD=16777216:=rfl
 rw[aX h]
 simp only[FY,start,dP]
 refine⟨rfl,?_⟩
 walk_at"st"
 refine iU bZ (fun _=>bF 0) m [] st (fun aB x a ha=>by cases ha) (fun w hw aB K x1 hK=>?_) (by simp only[bh];omega) fun aC x1=>?_
 ·walk_at"ex"
  exact hK aB .refl
 rw[b7]
 refine cB (by simp only[ab];omega) fun p aF x2 hp kM=>?_
 have e0:(m.map fun _=>bF 0)=(lead m 0).map bF:=by
  simp only[lead,yg];exact List.map_const' ..
 rw[e0]at kM
 walk_at"ex"
 have hp0:st p=none:=BC x1 hp
 refine eU ?_
 refine mQ (gM G (av _)) (I:=fun mm σ aB=>∃ t q o2 o3,mm+(lead m t).sum=m.length*m.length+1/\σ=[some (.tup (m.map bZ)),some (.ref q),o2,o3]/\Ext st aB/\st q=none/\aB q=some (.lst ((lead m t).map bF))) ?_ (m:=m.length*m.length+1-(lead m 0).sum) ⟨0,p,none,none,by have:=G2 (m:=m) 0;omega,rfl,x1.trans x2,hp0,kM⟩
 rintro mm σ cN ⟨t,q,o2,o3,e1,e3,x4,hq0,q4⟩
 subst e3
 have ll:=lB (m:=m) t
 walk_at"ex"
 walk_at"st"
 refine iU bZ (fun s=>bZ (lk (lead m t) s)) m [] cN (fun aB x a ha=>by cases ha) (fun s hs aB K y1 hK=>?_) (by simp only[bh];omega) fun dG x5=>?_
 ·walk_at"ex"
  exact U1 (k:=k) hw (y1 _ _ q4) (h3 s hs) (fun w hw'=>by rw[ll];exact hI s hs w hw') fun gT y6=>hK gT y6
 rw[b7]
 refine cB (by simp only[ab];omega) fun u gT x6 hu hu6=>?_
 have eu:(m.map fun s=>bZ (lk (lead m t) s))=(m.map (lk (lead m t))).map bZ:=by rw[mn];rfl
 rw[eu]at hu6
 walk_at"ex"
 walk_at"st"
 rw[aG hu6]
 have Lj:=KY (m.map (lk (lead m t)))
 refine iU bZ (fun s=>bF ((m.map (lk (lead m t))).idxOf s)) (m.map (lk (lead m t))) [] gT (fun aB x a ha=>by simp only[bw]at ha;subst ha;rw[hu6,x _ _ hu6]) (fun s hs aB K y1 hK=>?_) (by simp only[bh,ab];omega) fun vB x7=>?_
 ·walk_at"ex"
  rw[QK,DU,aG (y1 _ _ hu6),S8,DU,aG (y1 _ _ hu6)]
  refine⟨True.intro,?_⟩
  rw[EC UE hs,aW]
  have ps:plainS aB (bZ s):=by
   have:=LK s
   refine⟨nA _ (by simp only[bZ,bH];exact this.1),?_⟩
   simp only[bZ,dJ]
   exact bu (zx this.2) (by decide)
  exact⟨ps,⟨iX _ Lj.1,bu Lj.2 (by decide)⟩,hK aB .refl⟩
 rw[b7]
 refine cB (by simp only[ab];omega) fun v iP x8 hv hv8=>?_
 have ev:((m.map (lk (lead m t))).map fun s=>bF ((m.map (lk (lead m t))).idxOf s))=(lead m (t+1)).map bF:=by
  show _=(jR m (lead m t)).map bF
  unfold jR;rw[mn (g:=bF)];rfl
 rw[ev]at hv8
 walk_at"ex"
 have x48:Ext cN iP:=((x5.trans x6).trans x7).trans x8
 have q8:=x48 _ _ q4
 walk_at"st"
 refine⟨pH hv8,pH q8,?_⟩
 have ee:bJ iP (.ref v) (.ref q)=decide (lead m (t+1)=lead m t):=by
  simp only[bJ,hv8,q8,B9];exact AL _ _
 rw[ee]
 by_cases hf:lead m (t+1)=lead m t
 ·simp only[hf,decide_true]
  walk_at"ex"
  try simp only[if_true]
  walk_at"st"
  exact hQ (lead m t) q _ ⟨hI,h1,⟨t,rfl⟩,hf⟩ hq0 (x4.trans x48) q8
 ·simp only[hf,decide_false]
  walk_at"ex"
  try simp only[az,if_false,aL]
  walk_at"st"
  simp only[aL]
  have s1:=N5 hI t hf
  have s2:=G2 (m:=m) (t+1)
  have hv0:st v=none:=BC (x4.trans ((x5.trans x6).trans x7)) hv
  exact⟨m.length*m.length+1-(lead m (t+1)).sum,by omega,t+1,v,_,_,by omega,rfl,x4.trans x48,hv0,hv8⟩
end
noncomputable def FR (ini ino:Nat):Fn:=⟨2,5,[.asg (.nm 2) (.mk (W "Numbering") ini [(.v 0)]),.asg (.nm 3) (.lst []),.whl (.cmp .lt (.bi .len [(.v 3)]) (.bi .len [(.fld (W "Numbering") (W "met") (.v 2))])) [.asg (.nm 4) (.ix (.fld (W "Numbering") (W "met") (.v 2)) (.bi .len [(.v 3)])),.ex (.dF .append (.v 3) [(.bi .tuple [(.comp 2 [2] [0,1] false none [(.cv 1 [(.v 4)])] [] (.tup [(.v 0),(.mcl (W "Numbering") (W "number_of") ino (.v 2) [(.v 1)])]))])])],.ret (.bi .tuple [(.v 3)])]⟩
theorem UD {st aB:aA}{a:Nat}(x:Ext st aB):Ext (del st a) (del aB a):=fun b o e=>by
 by_cases z:b=a
 ·rw[z]at e;unfold del at e;rw[if_pos rfl]at e;cases e
 ·rw[CI z]at e ⊢;exact x _ _ e
theorem WV {st aB:aA}{a:Nat}{o:MO}(h:st a=some o)(x:Ext (del st a) aB):Ext st (put aB a o):=fun b o' e=>by
 by_cases z:b=a
 ·subst z;rw[h]at e;cases e;exact aV
 ·rw[aU z];exact x _ _ (by rw[CI z];exact e)
noncomputable def GJ (l d:Nat):List (List Nat×D):=[(W "met", .ref l),(W "numbers_met", .ref d)]
theorem xW {l d:Nat}:iS (GJ l d) (W "met")=some (.ref l):=by simp only[GJ,iS];rw[if_pos fz]
theorem DE {l d:Nat}:iS (GJ l d) (W "numbers_met")=some (.ref d):=by simp only[GJ,iS];rw[if_neg (by decide +kernel),if_pos fz]
theorem Cj {l d:Nat}{f:List Nat}(h1:W "met" ≠ f)(h2:W "numbers_met" ≠ f):iS (GJ l d) f=none:=by simp only[GJ,iS];rw[if_neg h1,if_neg h2]
structure vX (st:aA)(n l d:Nat)(met:List Nat):Prop where
 ins:st n=some (.ins (W "Numbering") (GJ l d))
 dic:st d=some (.tab (met.map bF) (IP met.length))
 met:st l=some (.lst (met.map bF))
theorem qX (x:Nat):keyed (bF x):=fz
theorem DN (x:Nat)(l:List Nat):(l.map bF).all (kK (bF x))=true:=by
 induction l with
 |nil=>rfl
 |cons y r ih=>exact ih
theorem K3 (a b:Nat):bT (bF a) (bF b)=decide (a=b):=by
 simp only[bF,bT]
 rw[dy,beq_iff_eq,decide_eq_true_eq];omega
theorem AH (x:Nat):∀ met:List Nat,((met.map bF).any fun k=>bT k (bF x))=decide (x∈met)
 |[]=>by simp
 |y::r=>by
  rw[aq,iq,AH x r,K3,dy]
  simp only[jh,decide_eq_true_eq,cu]
  exact⟨fun h=>h.imp Eq.symm id,fun h=>h.imp Eq.symm id⟩
theorem GV {x:Nat}:∀{met:List Nat}{vs:List D}{d:D},x∈met->vs.length=met.length->vs[met.idxOf x]? = some d->pE (met.map bF) vs (bF x)=some d
 |[],_,_,h,_,_=>by cases h
 |y::r,[],_,_,h,_=>by simp at h
 |y::r,v::vs,d,h,hl,hv=>by
  simp only[aq,pE,K3]
  by_cases e:y=x
  ·subst e
   simp [lx]at hv
   simp [hv]
  ·rw[if_neg (by simpa using e)]
   rw[lx,beq_eq_false_iff_ne.mpr e]at hv
   exact GV (by simpa [jn e]using h) (by simpa using hl) (by simpa using hv)
theorem zF:∀(s:List (List Bool×Nat))(met:List Nat)(w:List Bool×Nat),fY met (s++[w])=fY met s++[(w.1,(num (dM met s) w.2).idxOf w.2)]
 |[],_,_=>rfl
 |v::r,met,w=>by
  rw[kq,fY,zF r,fY,kq];rfl
theorem zG (s:List (List Bool×Nat))(met:List Nat)(w:List Bool×Nat):dM met (s++[w])=num (dM met s) w.2:=by
 unfold dM;rw[zh];rfl
theorem N8 (f:Nat->List (List Bool×Nat))(k:Nat):cE f (k+1)=cE f k++[fY (aR f k) (f ((aR f k).getD k 0))]:=by
 unfold cE;rw[qk,b9];rfl
theorem pI:∀(s:List (List Bool×Nat))(met:List Nat),(fY met s).length=s.length
 |[],_=>rfl
 |v::r,met=>by rw[fY,a9,pI r,a9]
section
variable {G:Prog}{k i ini ino:Nat}{st:aA}{Q:VK}{E:XK}
theorem T8 (h:G.fns i=some CS){n:Nat}{x:Nat}(hn:st n=some (.ins (W "Numbering") []))(hQ:∀ aB l d,st l=none->st d=none->cG [n] st aB->vX aB n l d [x]->Q .non aB):aJ G (k+1) i [.ref n,bF x] st Q E:=by
 rw[aX h]
 simp only[CS,start]
 refine⟨rfl,?_⟩
 walk_at"st"
 refine cB (by show 1<=bD;decide) fun l aC x1 hl hl1=>?_
 walk_at"ex"
 rw[U3 (x1 _ _ hn) (by simp),zZ rfl]
 have nl:l≠n:=fun z=>by rw[z,hn]at hl;cases hl
 walk_at"st"
 rw[Di]
 intro d hd
 have dn:d≠n:=fun z=>by rw[z,aV]at hd;cases hd
 have dl:d≠l:=fun z=>by rw[z,aU nl,hl1]at hd;cases hd
 walk_at"ex"
 rw[FT aV (qX x) rfl rfl (by decide)]
 rw[U3 (fs:=[(W "met", .ref l)]) (by rw[aU dn.symm,aU dn.symm,aV]) (by simp),zZ (by simp only[iS];rw[if_neg (by decide +kernel)])]
 simp only[aL]
 have hd0:st d=none:=by
  cases hz:st d with
  |none=>rfl
  |some o=>rw[aU dn,x1 _ _ hz]at hd;cases hd
 refine hQ _ l d hl hd0 (fun a o na e=>?_) ⟨by rw[aV];rfl,by rw[aU dn,aV];rfl,by rw[aU nl,aU dl.symm,aU dl.symm,aU nl];exact hl1⟩
 have an:a≠n:=by simpa using na
 have ad:a≠d:=fun z=>by rw[z,hd0]at e;cases e
 rw[aU an,aU ad,aU ad,aU an]
 exact x1 _ _ e
theorem T5 (h:G.fns i=some CO){n l d x:Nat}{met:List Nat}(N:vX st n l d met)(hlen:met.length<=1000)(hQ:∀ aB,cG [l,d] st aB->vX aB n l d (num met x)->Q (bF ((num met x).idxOf x)) aB):aJ G (k+1) i [.ref n,bF x] st Q E:=by
 have hL:bD=16777216:=rfl
 have nl:n≠l:=fun z=>by have:=N.ins;rw[z,N.met]at this;cases this
 have nd:n≠d:=fun z=>by have:=N.ins;rw[z,N.dic]at this;cases this
 have ld:l≠d:=fun z=>by have:=N.met;rw[z,N.dic]at this;cases this
 rw[aX h]
 simp only[CO,start]
 refine⟨rfl,?_⟩
 have fin:∀ aC,cG [l,d] st aC->vX aC n l d (num met x)->cO (aJ G k) G.sub [.ret (.dix (.fld (W "Numbering") (W "numbers_met") (.v 0)) (.v 1))] ⟨fun _ aB=>Q .non aB,Q,fun _ _=>False,fun _ _=>False,fun c _ aB=>E c aB⟩ [some (.ref n),some (bF x)] aC:=fun aC k1 N1=>by
  walk_at"st"
  rw[qE N1.ins DE]
  walk_at"ex"
  rw[ZW N1.dic (qX x) (DN x _) (GV (xV met x) (YX _) (De (List.idxOf_lt_length_of_mem (xV met x))))]
  exact hQ aC k1 N1
 walk_at"st"
 rw[qE N.ins DE,PX N.dic (qX x) (DN x _),AH]
 by_cases hc:x∈met
 ·have e:num met x=met:=by unfold num;rw[if_pos hc]
  simp only[hc,decide_true]
  walk_at"ex"
  (try simp only[if_true,ju,az,if_false,aL])
  exact fin st .refl (by rw[e];exact N)
 ·have e:num met x=met++[x]:=by unfold num;rw[if_neg hc]
  simp only[hc,decide_false]
  walk_at"ex"
  (try simp only[ox,if_true])
  walk_at"st"
  rw[qE N.ins xW]
  walk_at"ex"
  rw[cM N.met,qE N.ins DE]
  walk_at"ex"
  rw[FT N.dic (qX x) (DN x _) (by rw[AH];exact decide_eq_false hc) (by simp only[ab];omega)]
  walk_at"st"
  have m1:(put st d (.tab (met.map bF++[bF x]) (IP met.length++[.int ((met.map bF).length:Nat)]))) l=some (.lst (met.map bF)):=by rw[aU ld];exact N.met
  rw[qE (by rw[aU nd];exact N.ins) xW,CB,aG m1]
  refine⟨True.intro,?_⟩
  walk_at"ex"
  rw[aG m1]
  refine⟨by simp only[ab];omega,?_⟩
  simp only[aL]
  refine fin _ (fun a o na e=>?_) ⟨by rw[aU nl,aU nd];exact N.ins,by rw[aU ld.symm,aV,e];simp [IP,qk],by rw[aV,e];simp⟩
  simp only[cu,cb,or_false,not_or]at na
  rw[aU na.1,aU na.2];exact e
end
inductive Ou (N:Nat)(F:Nat->List (List Bool×Nat))(S:Option D->St)(st:aA)(n l d u:Nat)(mm:Nat)(σ:St)(aB:aA):Prop
 |mk (kk:Nat)(o4:Option D)(e0:mm+kk=N+1)(lt:∀ j<kk,j<(aR F j).length)(le:kk<=(aR F kk).length)(e1:σ=S o4)(x:Ext st aB)(nu:vX aB n l d (aR F kk))(u':aB u=some (.lst ((cE F kk).map bZ)))
inductive Pf (s:List (List Bool×Nat))(met:List Nat)(gT:aA)(n l d:Nat)(rest:List (List Bool×Nat))(acc:List D)(aB:aA):Prop
 |mk (done:List (List Bool×Nat))(e0:s=done++rest)(e1:acc=(fY met done).map dH)(x:cG [l,d] gT aB)(nu:vX aB n l d (dM met done))
section
variable {G:Prog}{k i ini ino:Nat}{st:aA}{Q:VK}{E:XK}
theorem WT (h:G.fns i=some (FR ini ino))(hni:G.fns ini=some CS)(hno:G.fns ino=some CO){cl f:Nat}{cs:List D}(hc:st cl=some (.fn f cs))(F:Nat->List (List Bool×Nat)){N:Nat}(hN:N<=900)(h0:0<N)(hF:∀ x<N,(F x).length<=100/\∀ w∈F x,w.2<N)
  (hf:∀ x (aB:aA)(K:VK)(E':XK),x<N->Ext (del st cl) aB->(∀ bX,Ext aB bX->K (bZ (F x)) bX)->aJ G (k+2) f (cs++[bF x]) aB K E')
  (hQ:∀ n aB,Ext st aB->Done F n->Q (dP (cE F n)) aB):aJ G (k+3) i [bF 0,.ref cl] st Q E:=by
 have hL:bD=16777216:=rfl
 rw[aX h]
 simp only[FR,start]
 refine⟨rfl,?_⟩
 walk_at"st"
 intro n hn
 refine T8 (k:=k+1) hni aV fun aC l d hl hd k1 N1=>⟨rfl,?_⟩
 have x1:Ext st aC:=fun a o e=>k1 a o (by intro z;simp only[bw]at z;rw[z,hn]at e;cases e) (sV hn e)
 walk_at"ex"
 walk_at"st"
 refine cB (by simp) fun u aF x2 hu hu2=>?_
 have N2:vX aF n l d [0]:=⟨x2 _ _ N1.ins,x2 _ _ N1.dic,x2 _ _ N1.met⟩
 have un:u≠n:=fun z=>by rw[z,N1.ins]at hu;cases hu
 have ul:u≠l:=fun z=>by rw[z,N1.met]at hu;cases hu
 have ud:u≠d:=fun z=>by rw[z,N1.dic]at hu;cases hu
 have hl0:st l=none:=by
  cases e:st l with
  |none=>rfl
  |some o=>rw[sV hn e]at hl;cases hl
 have hd0:st d=none:=by
  cases e:st d with
  |none=>rfl
  |some o=>rw[sV hn e]at hd;cases hd
 have lY:st u=none:=BC x1 hu
 walk_at"ex"
 refine eU ?_
 have all:∀ kk,kk<=(aR F kk).length->(∀ j<kk,j<(aR F j).length)->∀ y∈aR F kk,y<N:=fun kk a b=>AG (P:=fun y=>y<N) h0 (fun x hx w hw=>(hF x hx).2 w hw) kk a b
 refine mQ (gM G (av _)) (I:=Ou N F (fun o4=>[some (bF 0),some (.ref cl),some (.ref n),some (.ref u),o4]) st n l d u) ?_ (m:=N+1) ⟨0,none,rfl,fun j hj=>absurd hj (by omega),cx _,rfl,x1.trans x2,N2,hu2⟩
 rintro mm σ cN ⟨kk,o4,e0,lt,le,e1,x4,N4,u4⟩
 subst e1
 have al:=all kk le lt
 have lN:=kT (lX (f:=F) kk) al
 walk_at"ex"
 rw[cM u4,qE N4.ins xW]
 walk_at"ex"
 rw[cM N4.met]
 simp only[ab,dX]
 walk_at"ex"
 by_cases hk:kk<(aR F kk).length
 rotate_left
 ·have e2:¬((kk:Nat):Int)<(((aR F kk).length:Nat):Int):=by omega
  simp only[e2,decide_false,az,if_false]
  try walk_at"ex"
  walk_at"st"
  rw[aG u4]
  try simp only[dN]
  refine⟨by rw[ab,dX];omega,?_⟩
  exact hQ kk _ x4 ⟨lt,by omega⟩
 have e2:((kk:Nat):Int)<(((aR F kk).length:Nat):Int):=by omega
 simp only[e2,decide_true,if_true]
 try walk_at"ex"
 walk_at"st"
 rw[qE N4.ins xW]
 walk_at"ex"
 rw[cM u4,ab,dX]
 rw[eS N4.met,HP hk,aW]
 have hx:(aR F kk).getD kk 0<N:=al _ (by rw[dm,aj hk];exact gp hk)
 have enr:cE F (kk+1)=cE F kk++[fY (aR F kk) (F ((aR F kk).getD kk 0))]:=N8 F kk
 have emr:aR F (kk+1)=dM (aR F kk) (F ((aR F kk).getD kk 0)):=rfl
 generalize (aR F kk).getD kk 0=x at hx enr emr
 obtain⟨fl,fb⟩:=hF x hx
 walk_at"ex"
 walk_at"st"
 rw[aG u4]
 refine⟨True.intro,?_⟩
 rw[UW (x4 _ _ hc),UW (x4 _ _ hc)]
 refine⟨True.intro,?_⟩
 refine hf x _ _ _ hx (UD x4) fun st6' x6'=>?_
 have x6:=WV (x4 _ _ hc) x6'
 generalize put st6' cl (.fn f cs)=gT at x6
 have N6:vX gT n l d (aR F kk):=⟨x6 _ _ N4.ins,x6 _ _ N4.dic,x6 _ _ N4.met⟩
 simp only[bZ]
 walk_at"ex"
 have sub:∀ done rest,F x=done++rest->∀ y∈dM (aR F kk) done,y<N:=fun done rest e=>tK done al fun w hw=>fb w (by rw[e];simp [hw])
 refine H0 dH (I:=Pf (F x) (aR F kk) gT n l d) (fun r acc aB J=>?_) (fun w r acc aB K J hK=>?_) (fun acc aB J=>?_) _ _ _ ⟨[],rfl,rfl,fun _ _ _ e=>e,N6⟩
 ·obtain⟨done,f0,f1,f2,f3⟩:=J
  refine⟨fun a ha=>(nomatch ha),?_⟩
  have:=congrArg v7 f0
  rw[f1,ab,pI]
  simp only[bg]at this
  omega
 ·obtain⟨done,f0,f1,f2,f3⟩:=J
  simp only[dH]
  walk_at"ex"
  rw[Ff f3.ins (Cj (by decide +kernel) (by decide +kernel))]
  refine⟨True.intro,?_⟩
  have lD:=kT (rA done (lX (f:=F) kk)) (sub done _ f0)
  refine T5 (k:=k+1) hno f3 (by omega) fun vB k7 N7=>?_
  walk_at"ex"
  refine hK _ vB ⟨done++[w],by rw[f0];simp,?_,fun a o na e=>k7 a o na (f2 a o na e),by rw[zG];exact N7⟩
  rw[zF,b9,f1];rfl
 ·obtain⟨done,f0,f1,f2,f3⟩:=J
  rw[fh]at f0
  subst f0
  subst f1
  refine cB (by rw[ab,pI];omega) fun v iP x8 hv hv8=>?_
  walk_at"ex"
  rw[aG hv8]
  try simp only[dN]
  refine⟨by rw[ab,pI];omega,?_⟩
  have u8:iP u=some (.lst ((cE F kk).map bZ)):=x8 _ _ (f2 _ _ (by simp [ul,ud]) (x6 _ _ u4))
  walk_at"ex"
  rw[aG u8]
  refine⟨by rw[ab,dX];omega,?_⟩
  simp only[aL]
  have lt':∀ j<kk+1,j<(aR F j).length:=fun j hj=>by
   by_cases z:j=kk
   ·subst z;exact hk
   ·exact lt j (by omega)
  have le':kk+1<=(aR F (kk+1)).length:=by
   have:=(G7 (f:=F) kk).length_le
   omega
  refine⟨N-kk,by omega,kk+1,_,by omega,lt',le',rfl,fun a o e=>?_,⟨?_,?_,?_⟩,?_⟩
  ·have au:a≠u:=fun z=>by rw[z,lY]at e;cases e
   have al':a≠l:=fun z=>by rw[z,hl0]at e;cases e
   have ad:a≠d:=fun z=>by rw[z,hd0]at e;cases e
   rw[aU au]
   exact x8 _ _ (f2 _ _ (by simp [al',ad]) (x6 _ _ (x4 _ _ e)))
  ·rw[aU un.symm];exact x8 _ _ f3.ins
  ·rw[aU ud.symm,emr];exact x8 _ _ f3.dic
  ·rw[aU ul.symm,emr];exact x8 _ _ f3.met
  ·rw[aV,enr,b9];rfl
end
noncomputable def JP (ile ifr ila:Nat)(κ:CK):Fn:=⟨1,2,[.asg (.nm 1) (.call ile [(.v 0)]),.ret (.callL ifr [(.c (.int 0))] ila [1,0] κ)]⟩
noncomputable def TB (iww:Nat):Fn:=⟨3,3,[.ret (.call iww [(.ix (.v 1) (.v 2)),(.v 0)])]⟩
noncomputable def xZ (ilm icm:Nat):Fn:=⟨2,2,[.ret (.call ilm [(.call icm [(.v 0),(.v 1)])])]⟩
inductive GZ (m a:gJ):Prop
 |mk (L:List Nat)(n:Nat)(r:Rest m L)(d:Done (fun x=>lk L (row m x)) n)(e:a=cE (fun x=>lk L (row m x)) n)
theorem O6 {n g:Nat}{m:gJ}(O:wO n g m):zJ m:=fun s hs w hw=>O.wn s hs w hw
theorem RQ {f:Nat->List (List Bool×Nat)}{n:Nat}{s:List (List Bool×Nat)}(hs:s∈cE f n):∃ k,k<n/\s=row (cE f n) k:=by
 obtain⟨k,hk,e⟩:=qt hs
 have hk':k<n:=by rw[dX]at hk;exact hk
 refine⟨k,hk',?_⟩
 unfold row
 rw[dm,aj hk,e];rfl
theorem OX {n g:Nat}{m a:gJ}(O:wO n g m)(l:GZ m a):wO n g a:=by
 obtain⟨L,n',r,d,rfl⟩:=l
 have sz:=r.size d
 have l2:=O.l2
 have key:∀ s∈cE (fun x=>lk L (row m x)) n',s.length=2 ^ n/\∀ w∈s,w.1.length=g/\w.2<n':=fun s hs=>by
  obtain⟨k,hk,rfl⟩:=RQ hs
  have hk':k<(aR (fun x=>lk L (row m x)) n').length:=by rw[d.le];exact hk
  have hx:=r.mem d ((aR (fun x=>lk L (row m x)) n').getD k 0) (by rw[dm,aj hk'];exact gp hk')
  have mm:=AY (f:=fun x=>lk L (row m x)) hk d.lt
  rw[uB hk d.lt]
  generalize (aR (fun x=>lk L (row m x)) n').getD k 0=x at hx mm
  have rm:=eQ hx.1
  refine⟨by rw[ab];simp only[lk,ab];exact O.sl _ rm,fun w hw=>?_⟩
  obtain⟨v,hv,rfl⟩:=List.mem_map.mp hw
  have h2:=List.idxOf_lt_length_iff.mpr (mm v hv)
  rw[d.le]at h2
  obtain⟨y,hy,rfl⟩:=List.mem_map.mp hv
  exact⟨O.wf _ rm y hy,h2⟩
 refine⟨by rw[dX];exact Rest.pos d,by rw[dX];omega,fun s hs=>(key s hs).1,fun s hs w hw=>((key s hs).2 w hw).1,fun s hs w hw=>by rw[dX];exact((key s hs).2 w hw).2⟩
theorem UH {n g:Nat}{m a a':gJ}(O:wO n g m)(l:GZ m a)(l':GZ a a'):a'=a:=by
 obtain⟨L,n1,r,d,rfl⟩:=l
 obtain⟨L',n2,r',d',rfl⟩:=l'
 have e:=r.self d r'
 have d2:Done (row (cE (fun x=>lk L (row m x)) n1)) n2:=by rw[<-e];exact d'
 have en:n2=n1:=by
  have s1:=rC (f:=fun x=>lk L (row m x)) (n:=n1) d.lt
  have q:∀ j≤n1,(aR (row (cE (fun x=>lk L (row m x)) n1)) j).length=(aR (fun x=>lk L (row m x)) j).length:=fun j hj=>by rw[s1 j hj,fw]
  rcases Nat.lt_trichotomy n2 n1 with h|h|h
  ·have h1:=d.lt n2 h
   have h2:=d2.le
   rw[q n2 (by omega)]at h2
   omega
  ·exact h
  ·have h1:=d2.lt n1 h
   rw[q n1 (av _),d.le]at h1
   omega
 subst en
 rw[e]
 exact QZ d.lt d.le
section
variable {G:Prog}{k i ile ifr ila iww ini ino ilm icm ich ima ibk ir isd ise iwy ist ipl:Nat}{κ:CK}{st:aA}{Q:VK}{E:XK}{b:Bk}
structure LM (G:Prog)(ilm ile ifr ila iww ini ino:Nat)(κ:CK):Prop where
 lm:G.fns ilm=some (JP ile ifr ila κ)
 le:G.fns ile=some (FY iww)
 fr:G.fns ifr=some (FR ini ino)
 la:G.fns ila=some (TB iww)
 ww:G.fns iww=some N0
 ni:G.fns ini=some CS
 no:G.fns ino=some CO
theorem R8 (F:LM G ilm ile ifr ila iww ini ino κ)(hκ:∃ P,st P=some (.cod κ)){m:gJ}(hI:zJ m)(h1:0<m.length)(h2:m.length<=900)(h3:∀ s∈m,s.length<=100)
  (hQ:∀ a aB,Ext st aB->GZ m a->Q (dP a) aB):aJ G (k+4) ilm [dP m] st Q E:=by
 have hL:bD=16777216:=rfl
 obtain⟨Pκ,hκ⟩:=hκ
 rw[aX F.lm]
 simp only[JP,start]
 refine⟨rfl,?_⟩
 walk_at"st"
 refine ZD (k:=k+1) F.le F.ww hI h1 (by omega) (fun s hs=>bu (h3 s hs) (by decide)) fun L p aC R hp x1 hp1=>?_
 walk_at"ex"
 walk_at"st"
 refine⟨⟨Pκ,x1 _ _ hκ⟩,?_⟩
 intro a ha
 have pa:p≠a:=fun z=>by rw[z,ha]at hp1;cases hp1
 have ll:=R.len
 refine WT (k:=k) F.fr F.ni F.no (f:=ila) (cs:=[.ref p,dP m]) aV (fun x=>lk L (row m x)) (N:=m.length) h2 h1 (fun x hx=>?_) (fun x aB K E' hx x' hK=>?_) fun n aF x2 d=>?_
 ·have rm:=eQ hx
  refine⟨by simp only[lk,ab];exact h3 _ rm,fun w hw=>?_⟩
  obtain⟨v,hv,rfl⟩:=List.mem_map.mp hw
  have h5:=hI _ rm v hv
  have:=(R.spec h5).1
  show L.getD v.2 0<_
  omega
 ·rw[aX F.la]
  simp only[TB,start]
  refine⟨rfl,?_⟩
  have hp':aB p=some (.lst (L.map bF)):=x' _ _ (by rw[CI pa,aU pa];exact hp1)
  simp only[dP]
  walk_at"st"
  have e1:eM (m.map bZ) ((x:Nat):Int)=some (bZ (row m x)):=by
   rw[gD (by simpa using hx),be,aj hx]
   unfold row
   rw[dm,aj hx];rfl
  simp only[bF]
  walk_at"ex"
  rw[e1,aW]
  walk_at"ex"
  exact U1 (k:=k) F.ww hp' (bu (h3 _ (eQ hx)) (by decide)) (fun w hw=>by rw[ll];exact hI _ (eQ hx) w hw) fun bX x''=>hK bX x''
 ·refine hQ _ _ (fun b o e=>?_) ⟨L,n,R,d,rfl⟩
  have ne:b≠a:=fun z=>by rw[z]at e;rw[x1 _ _ e]at ha;cases ha
  rw[CI ne]
  exact x2 _ _ (sV ha (x1 _ _ e))
theorem D3 (h:G.fns i=some (xZ ilm icm))(F:LM G ilm ile ifr ila iww ini ino κ)(hκ:∃ P,st P=some (.cod κ))(hcm:G.fns icm=some (rX ich ima))(hc:G.fns ich=some (nE ibk))(hb:FJ G ibk 13 b)(hm:G.fns ima=some (yC ir isd (.int 64)))(hd:G.fns isd=some (pQ ise ir iwy))(hse:G.fns ise=some qP)(hw:G.fns iwy=some (vS ir ist ipl))(hr:G.fns ir=some fZ)(hs:G.fns ist=some jE)(hp:G.fns ipl=some kF)(B:b.Ok){m:gJ}(O:wO b.fs.length b.gs.length m)
 (hQ:∀ a aB,Ext st aB->GZ m a->Q (dP a) aB):aJ G (k+16) i [b.d,dP m] st Q E:=by
 obtain⟨Pκ,hκ⟩:=hκ
 rw[aX h]
 simp only[xZ,start]
 refine⟨rfl,?_⟩
 have f2:=B.f2
 have p4:2 ^ b.fs.length<=4:=f7 (n:=2) (by decide) (by omega:b.fs.length<=2)
 walk_at"st"
 refine NL (k:=k) hcm hc hb hm hd hse hw hr hs hp B O fun aC x1=>?_
 walk_at"ex"
 exact R8 (k:=k+11) F ⟨Pκ,x1 _ _ hκ⟩ (O6 O) O.l1 (by have:=O.l2;omega) (fun s hs=>by have:=O.sl s hs;omega) fun a aF x2 l=>hQ a aF (x1.trans x2) l
end
noncomputable def vT:Fn:=⟨1,1,[.ret (.and_ (.isi (.v 0) [.int]) (.not_ (.isi (.v 0) [.bool])))]⟩
noncomputable def NQ (is8 iw:Nat):Fn:=⟨3,5,[.iff (.or_ (.not_ (.isi (.v 0) [.tuple])) (.not_ (.chain .le .le (.c (.int 1)) (.bi .len [(.v 0)]) (.c (.int 64))))) [.ret (.c (.bl false))] [],.iM (.nm 3) none [(.v 0)] [.iff (.or_ (.not_ (.isi (.v 3) [.tuple])) (.cmp .ne (.bi .len [(.v 3)]) (.bi .len [(.call is8 [(.v 1)])]))) [.ret (.c (.bl false))] [],.iM (.nm 4) none [(.v 3)] [.iff (.or_ (.not_ (.isi (.v 4) [.tuple])) (.or_ (.cmp .ne (.bi .len [(.v 4)]) (.c (.int 2))) (.cmp .gE (.ix (.v 4) (.c (.int 0))) (.call is8 [(.v 2)])))) [.ret (.c (.bl false))] [],.iff (.or_ (.not_ (.call iw [(.ix (.v 4) (.c (.int 1)))])) (.or_ (.cmp .lt (.ix (.v 4) (.c (.int 1))) (.c (.int 0))) (.cmp .ge (.ix (.v 4) (.c (.int 1))) (.bi .len [(.v 0)])))) [.ret (.c (.bl false))] []]],.ret (.c (.bl true))]⟩
inductive ZO {α:Type}(F:Option D->Option D->St)(m:List α)(st:aA)(rest:List α)(σ:St)(aB:aA):Prop
 |mk (o3 o4:Option D)(e:σ=F o3 o4)(x:Ext st aB)(s:∀ y∈rest,y∈m)
theorem RJ {st:aA}{g:Nat}{f:List Bool}(h:f.length=g):(((eZ g).map dE).any fun d=>bJ st d (dE f))=true:=by
 rw[List.any_eq_true]
 exact⟨dE f,List.mem_map.mpr ⟨f,JH g f h,rfl⟩,by rw[xT];exact decide_eq_true rfl⟩
section
variable {G:Prog}{k i is8 iw:Nat}{st:aA}{Q:VK}{E:XK}
theorem TR (h:G.fns i=some vT){n:Int}(hQ:Q (.bl true) st):aJ G (k+1) i [.int n] st Q E:=by
 rw[aX h]
 simp only[vT,start]
 refine⟨rfl,?_⟩
 walk_at"st"
 exact hQ
theorem Dp (h:G.fns i=some (NQ is8 iw))(h8:G.fns is8=some rY)(hw:G.fns iw=some vT){n g:Nat}(hn:n<=4)(hg:g<=4){m:gJ}(O:wO n g m)
  (hQ:∀ aB,Ext st aB->Q (.bl true) aB):aJ G (k+2) i [dP m,.int (n:Nat),.int (g:Nat)] st Q E:=by
 have hL:bD=16777216:=rfl
 have l1:=O.l1
 have l2:=O.l2
 rw[aX h]
 simp only[NQ,start,dP]
 refine⟨rfl,?_⟩
 walk_at"st"
 rw[ab]
 have a1:(1:Int)<=(m.length:Int):=by omega
 have a2:(m.length:Int)<=64:=by omega
 simp only[a1,a2,decide_true,if_true,ju,az,if_false,aL]
 walk_at"st"
 refine gG bZ (I:=ZO (fun o3 o4=>[some (.tup (m.map bZ)),some (.int (n:Nat)),some (.int (g:Nat)),o3,o4]) m st) (fun rest σ aB _ a ha=>(nomatch ha)) (fun s rest σ aB M I hM=>?_) (fun σ aB I=>?_) _ _ _ ⟨none,none,rfl,fun _ _ e=>e,fun y hy=>hy⟩
 ·obtain⟨o3,o4,e1,x1,e3⟩:=I
  subst e1
  have sm:=e3 s (by simp)
  have sl:=O.sl s sm
  simp only[bZ]
  walk_at"st"
  refine uG (k:=k) h8 hn fun q aF hq x2 hq2=>?_
  walk_at"ex"
  rw[cM hq2]
  have e5:((((eZ n).map dE).length:Nat):Int)=(s.length:Int):=by rw[ab,lW,sl]
  rw[ab,e5]
  simp only[B5,LP,true_and,beq_self_eq_true,ju,az,if_false,aL]
  try walk_at"ex"
  walk_at"st"
  refine gG dH (I:=ZO (fun o3 o4=>[some (.tup (m.map bZ)),some (.int (n:Nat)),some (.int (g:Nat)),some (.tup (s.map dH)),o4]) s aF) (fun rest σ aB _ a ha=>(nomatch ha)) (fun w nR σ bK M2 J hM2=>?_) (fun σ bK J=>?_) _ _ _ ⟨none,o4,rfl,fun _ _ e=>e,fun y hy=>hy⟩
  ·obtain⟨_,o4,f1,y1,f3⟩:=J
   subst f1
   have wm:=f3 w (by simp)
   have wf:=O.wf s sm w wm
   have wn:=O.wn s sm w wm
   simp only[dH]
   walk_at"st"
   have t2:(!((((0+1+1:Nat):Int))==2))=false:=by decide
   simp only[t2,az,if_false]
   refine uG (k:=k) h8 hg fun q' cN hq' x4 hq4=>?_
   walk_at"ex"
   rw[nQ,cM hq4]
   refine⟨oF _,J2 _,?_⟩
   rw[RJ wf]
   walk_at"ex"
   simp only[aL]
   walk_at"st"
   refine TR (k:=k) hw ?_
   walk_at"ex"
   rw[ab]
   have b1:¬((w.2:Nat):Int)<0:=by omega
   have b2:¬((m.length:Nat):Int)<=((w.2:Nat):Int):=by omega
   simp only[b1,b2,decide_false,az,if_false,aL]
   try walk_at"ex"
   exact hM2 _ _ ⟨none,_,rfl,y1.trans x4,fun y hy=>f3 y (by simp [hy])⟩
  ·obtain⟨_,o4,f1,y1,f3⟩:=J
   subst f1
   try simp only[aL]
   exact hM _ _ ⟨_,_,rfl,x1.trans (x2.trans y1),fun y hy=>e3 y (by simp [hy])⟩
 ·obtain⟨o3,o4,e1,x1,e3⟩:=I
  subst e1
  walk_at"st"
  exact hQ _ x1
end
noncomputable def FL:Fn:=⟨2,6,[.asg (.nm 2) (.lst [(.tup [(.c (.int 0)),(.c (.int 0))])]),.asg (.nm 3) (.c (.int 0)),.whl (.cmp .lt (.v 3) (.bi .len [(.v 2)])) [.iM (.tp [4,5]) (some .zip) [(.ix (.v 0) (.ix (.ix (.v 2) (.v 3)) (.c (.int 0)))),(.ix (.v 1) (.ix (.ix (.v 2) (.v 3)) (.c (.int 1))))] [.iff (.cmp .ne (.ix (.v 4) (.c (.int 0))) (.ix (.v 5) (.c (.int 0)))) [.ret (.c (.bl false))] [],.iff (.cmp .gE (.tup [(.ix (.v 4) (.c (.int 1))),(.ix (.v 5) (.c (.int 1)))]) (.v 2)) [.ex (.dF .append (.v 2) [(.tup [(.ix (.v 4) (.c (.int 1))),(.ix (.v 5) (.c (.int 1)))])])] []],.asg (.nm 3) (.bin .add (.v 3) (.c (.int 1)))],.ret (.c (.bl true))]⟩
noncomputable def iO (a b:Nat):D:=.tup [bF a,bF b]
theorem Bx {st:aA}(a b c d:Nat):bJ st (iO a b) (iO c d)=decide (a=c/\b=d):=by
 simp only[iO,bF,bJ,gA,nz]
 rw[dy]
 simp only[ar,beq_iff_eq,decide_eq_true_eq]
 omega
theorem Bb (a b c d:Nat):bT (iO a b) (iO c d)=decide (a=c/\b=d):=by
 simp only[iO,bF,bT,dI,nz]
 rw[dy]
 simp only[ar,beq_iff_eq,decide_eq_true_eq]
 omega
theorem UK {st:aA}(a b:Nat):plainS st (iO a b):=⟨rfl,show 0+1<=lE by decide⟩
theorem AN {α:Type}(f g:α->Nat):∀ l:List α,bI (l.map fun x=>iO (f x) (g x))=true/\cC (l.map fun x=>iO (f x) (g x))<=1
 |[]=>⟨rfl,cx _⟩
 |x::r=>by
  have h:=AN f g r
  simp only[aq,bI,cC,ar]
  exact⟨⟨rfl,h.1⟩,Nat.max_le.mpr ⟨Nat.le_refl 1,h.2⟩⟩
theorem Q8 {α:Type}{st:aA}(f g:α->Nat)(l:List α):cZ st (l.map fun x=>iO (f x) (g x)) :=
 ⟨iX _ (AN f g l).1,bu (AN f g l).2 (by decide)⟩
theorem GU (φ:Nat->Nat):∀ s:List (List Bool×Nat),zip2 (s.map dH) ((s.map fun v=>(v.1,φ v.2)).map dH)=s.map fun v=>.tup [dH v,dH (v.1,φ v.2)]
 |[]=>rfl
 |v::r=>by simp only[aq,zip2,GU φ r]
theorem Ey {st:aA}(φ:Nat->Nat)(x:Nat)(rs:List Nat):((rs.map fun x=>iO x (φ x)).any fun d=>bJ st d (iO x (φ x)))=decide (x∈rs):=by
 induction rs with
 |nil=>rfl
 |cons y r ih =>
 rw[aq,iq,ih,Bx,dy]
 simp only[jh,decide_eq_true_eq,cu]
 exact⟨fun h=>h.imp (fun z=>z.1.symm) id,fun h=>h.imp (fun z=>by subst z;exact⟨rfl,rfl⟩) id⟩
theorem vU {m:gJ}{x:Nat}(h:x<m.length):eM (m.map bZ) (x:Nat)=some (bZ (row m x)):=by
 rw[gD (by simpa using h),be,aj h]
 unfold row
 rw[dm,aj h];rfl
theorem Gr {φ:Nat->Nat}{l:List Nat}{x:Nat}(h:x<l.length):eM (l.map fun x=>iO x (φ x)) (x:Nat)=some (iO (l.getD x 0) (φ (l.getD x 0))):=by
 rw[gD (by simpa using h),be,aj h,dm,aj h];rfl
inductive Qa (N:Nat)(P:Nat->Prop)(φ:Nat->Nat)(F:Nat->Option D->Option D->St)(p:Nat)(st:aA)(mm:Nat)(σ:St)(aB:aA):Prop
 |mk (rs:List Nat)(a:Nat)(o4 o5:Option D)(e0:mm+a=N+1)(le:a<=rs.length)(nd:rs.Nodup)(al:∀ x∈rs,P x)(e1:σ=F a o4 o5)(x:Ext st aB)(e3:aB p=some (.lst (rs.map fun x=>iO x (φ x))))
inductive Pw (P:Nat->Prop)(φ:Nat->Nat)(F:Option D->Option D->St)(p:Nat)(st:aA)(s:List (List Bool×Nat))(L:Nat)(rest:List (List Bool×Nat))(σ:St)(aB:aA):Prop
 |mk (rs:List Nat)(o4 o5:Option D)(sub:∀ v∈rest,v∈s)(le:L<=rs.length)(nd:rs.Nodup)(al:∀ x∈rs,P x)(e1:σ=F o4 o5)(x:Ext st aB)(e3:aB p=some (.lst (rs.map fun x=>iO x (φ x))))
section
variable {G:Prog}{k i:Nat}{st:aA}{Q:VK}{E:XK}
theorem X8 (h:G.fns i=some FL){m a:gJ}(P:Nat->Prop)(φ:Nat->Nat)(h0:P 0)(hφ:φ 0=0)(hm:m.length<=1000)(hP:∀ x,P x->x<m.length/\φ x<a.length/\row a (φ x)=(row m x).map (fun v=>(v.1,φ v.2))/\∀ v∈row m x,P v.2)
  (hQ:∀ aB,Ext st aB->Q (.bl true) aB):aJ G (k+1) i [dP m,dP a] st Q E:=by
 have hL:bD=16777216:=rfl
 rw[aX h]
 simp only[FL,start,dP]
 refine⟨rfl,?_⟩
 walk_at"st"
 refine cB (by show 1<=bD;decide) fun p aC x1 hp hp1=>?_
 walk_at"ex"
 have p1:aC p=some (.lst ([0].map fun x=>iO x (φ x))):=by rw[hp1,aq,mi,hφ];rfl
 walk_at"st"
 refine eU ?_
 refine mQ (gM G (av _)) (I:=Qa m.length P φ (fun a' o4 o5=>[some (.tup (m.map bZ)),some (.tup (a.map bZ)),some (.ref p),some (.int (a':Nat)),o4,o5]) p st) ?_ (m:=m.length+1) ⟨[0],0,none,none,rfl,cx _,by simp,by simpa using h0,rfl,x1,p1⟩
 rintro mm σ cN ⟨rs,a',o4,o5,e0,le,nd,al,e1,x4,e3⟩
 subst e1
 have lN:=kT nd fun x hx=>(hP x (al x hx)).1
 walk_at"ex"
 rw[cM e3,ab]
 walk_at"ex"
 by_cases hk:a'<rs.length
 rotate_left
 ·have e2:¬((a':Nat):Int)<((rs.length:Nat):Int):=by omega
  simp only[e2,decide_false,az,if_false]
  try walk_at"ex"
  walk_at"st"
  exact hQ _ x4
 have e2:((a':Nat):Int)<((rs.length:Nat):Int):=by omega
 simp only[e2,decide_true,if_true]
 try walk_at"ex"
 walk_at"st"
 have hx:=al (rs.getD a' 0) (by rw[dm,aj hk];exact gp hk)
 have pa:=Gr (φ:=φ) hk
 generalize rs.getD a' 0=x at hx pa
 rw[eS e3,pa,aW]
 obtain⟨xm,xa,xr,xe⟩:=hP x hx
 simp only[iO,bF]
 walk_at"ex"
 rw[vU xm,aW,eS e3,pa,aW]
 simp only[iO,bF]
 walk_at"ex"
 rw[vU xa,aW,xr]
 simp only[bZ]
 walk_at"ex"
 rw[GU]
 refine gG (fun v=>.tup [dH v,dH (v.1,φ v.2)]) (I:=Pw P φ (fun o4 o5=>[some (.tup (m.map bZ)),some (.tup (a.map bZ)),some (.ref p),some (.int (a':Nat)),o4,o5]) p st (row m x) rs.length) (fun rest σ aB _ a ha=>(nomatch ha)) (fun v rest σ dG M J hM=>?_) (fun σ dG J=>?_) _ _ _ ⟨rs,o4,o5,fun _ h=>h,av _,nd,al,rfl,x4,e3⟩
 ·obtain⟨rs',o4,o5,sub,le',nd',al',f1,x5,f3⟩:=J
  subst f1
  have vm:=sub v (by simp)
  have vP:=xe v vm
  have lN':=kT nd' fun x hx=>(hP x (al' x hx)).1
  simp only[dH]
  walk_at"ex"
  walk_at"st"
  refine⟨oF _,oF _,?_⟩
  rw[xT,decide_eq_true rfl]
  walk_at"ex"
  simp only[aL]
  walk_at"st"
  have pp:(D.tup [D.int (v.2:Nat),D.int (φ v.2:Nat)])=iO v.2 (φ v.2):=rfl
  rw[pp,nQ,cM f3]
  refine⟨UK _ _,Q8 (fun x=>x) φ _,?_⟩
  rw[Ey φ]
  by_cases hv:v.2∈rs'
  ·simp only[hv,decide_true]
   walk_at"ex"
   simp only[aL]
   exact hM _ _ ⟨rs',_,_,fun v h=>sub v (by simp [h]),le',nd',al',rfl,x5,f3⟩
  ·simp only[hv,decide_false]
   walk_at"ex"
   walk_at"st"
   rw[aG f3]
   refine⟨True.intro,?_⟩
   rw[aG f3]
   refine⟨by rw[ab];omega,?_⟩
   simp only[aL]
   refine hM _ _ ⟨rs'++[v.2],_,_,fun v h=>sub v (by simp [h]),by rw[T3];omega,?_,fun x hx=>?_,rfl,fun b o e=>?_,?_⟩
   ·exact List.nodup_append.mpr ⟨nd',by simp,fun a ha b hb z=>by simp only[bw]at hb;subst hb;subst z;exact hv ha⟩
   ·rcases List.mem_append.mp hx with hx|hx
    ·exact al' x hx
    ·simp only[bw]at hx;subst hx;exact vP
   ·have bp:b≠p:=fun z=>by rw[z,hp]at e;cases e
    rw[aU bp];exact x5 _ _ e
   ·rw[aV,b9];rfl
 ·obtain⟨rs',o4,o5,sub,le',nd',al',f1,x5,f3⟩:=J
  subst f1
  walk_at"st"
  simp only[aL]
  exact⟨mm-1,by omega,rs',a'+1,o4,o5,by omega,by omega,nd',al',rfl,x5,f3⟩
end
noncomputable def vZ:Fn:=⟨3,10,[.asg (.nm 3) (.lst [(.tup [(.v 1),(.v 2)])]),.asg (.nm 4) (.d1 (.tup [(.v 1),(.v 2)]) (.c (.bl true))),.asg (.nm 5) (.c (.int 0)),.whl (.cmp .lt (.v 5) (.bi .len [(.v 3)])) [.asg (.tp [6,7]) (.ix (.v 3) (.v 5)),.iM (.tp [8,9]) (some .zip) [(.ix (.v 0) (.v 6)),(.ix (.v 0) (.v 7))] [.iff (.cmp .ne (.ix (.v 8) (.c (.int 0))) (.ix (.v 9) (.c (.int 0)))) [.ret (.c (.bl true))] [],.iff (.din true (.tup [(.ix (.v 8) (.c (.int 1))),(.ix (.v 9) (.c (.int 1)))]) (.v 4)) [.asg (.dk (.v 4) (.tup [(.ix (.v 8) (.c (.int 1))),(.ix (.v 9) (.c (.int 1)))])) (.c (.bl true)),.ex (.dF .append (.v 3) [(.tup [(.ix (.v 8) (.c (.int 1))),(.ix (.v 9) (.c (.int 1)))])])] []],.asg (.nm 5) (.bin .add (.v 5) (.c (.int 1)))],.ret (.c (.bl false))]⟩
noncomputable def uW (z:Nat×Nat):D:=iO z.1 z.2
noncomputable def ZR (z:(List Bool×Nat)×(List Bool×Nat)):D:=.tup [dH z.1,dH z.2]
theorem KZ:∀ s s':List (List Bool×Nat),zip2 (s.map dH) (s'.map dH)=(s.zip s').map ZR
 |[],_=>by simp [zip2]
 |_::_,[]=>by simp [zip2]
 |v::r,w::r'=>by simp only[aq,zip2,KZ r r',j0];rfl
theorem LC (x:Nat×Nat)(rs:List (Nat×Nat)):((rs.map uW).any fun d=>bT d (iO x.1 x.2))=decide (x∈rs):=by
 induction rs with
 |nil=>rfl
 |cons y r ih =>
 rw[aq,iq,ih,uW,Bb,dy]
 simp only[jh,decide_eq_true_eq,cu]
 exact⟨fun h=>h.imp (fun z=>Su z.1.symm z.2.symm) id,fun h=>h.imp (fun z=>by subst z;exact⟨rfl,rfl⟩) id⟩
theorem AX (a b:Nat):keyed (iO a b):=⟨[(a:Int),(b:Int)],rfl⟩
theorem Q6 (a b:Nat)(l:List (Nat×Nat)):(l.map uW).all (kK (iO a b))=true:=by
 induction l with
 |nil=>rfl
 |cons y r ih=>exact ih
theorem LV {n:Nat}{l:List (Nat×Nat)}(h:l.Nodup)(hb:∀ z∈l,z.1<n/\z.2<n):l.length<=n*n:=by
 have nd:(l.map fun z=>z.1*n+z.2).Nodup:=by
  refine List.nodup_iff_pairwise_ne.mpr (List.pairwise_map.mpr (List.Pairwise.imp_of_mem (fun{a b} ha hc ne e=>ne ?_) (List.nodup_iff_pairwise_ne.mp h)))
  have h1:=hb a ha
  have h2:=hb b hc
  have hn:0<n:=by omega
  have e1:a.1=b.1:=by
   have q1:(a.1*n+a.2) / n=a.1:=by rw[yu,Qq hn,zy h1.2];rfl
   have q2:(b.1*n+b.2) / n=b.1:=by rw[yu,Qq hn,zy h2.2];rfl
   rw[<-q1,<-q2,e]
  rw[e1]at e
  exact Su e1 (xi e)
 have:=kT (N:=n*n) nd fun x hx=>by
  obtain⟨z,hz,rfl⟩:=List.mem_map.mp hx
  have:=hb z hz
  calc z.1*n+z.2<z.1*n+n:=by omega
   _=(z.1+1)*n:=by rw[Nat.add_mul,Nat.one_mul]
   _<=n*n:=Nat.mul_le_mul_right _ this.1
 rwa [ab]at this
theorem Cd {l:List (Nat×Nat)}{x:Nat}(h:x<l.length):eM (l.map uW) (x:Nat)=some (uW (l[x])):=by
 rw[gD (by simpa using h),be,aj h];rfl
def Seen (a:gJ)(ps:List (Nat×Nat))(z:Nat×Nat):Prop:=∀ q∈(row a z.1).zip (row a z.2),q.1.1=q.2.1/\(q.1.2,q.2.2)∈ps
inductive Ox (a:gJ)(N:Nat)(z0:Nat×Nat)(F:Nat->Option D->Option D->Option D->Option D->St)(p d:Nat)(st:aA)(mm:Nat)(σ:St)(aB:aA):Prop
 |mk (ps:List (Nat×Nat))(j:Nat)(o6 o7 o8 o9:Option D)(e0:mm+j=N+1)(le:j<=ps.length)(z:z0∈ps)(nd:ps.Nodup)(al:∀ x∈ps,x.1<a.length/\x.2<a.length)(se:∀ i (h:i<ps.length),i<j->Seen a ps (ps[i]))(e1:σ=F j o6 o7 o8 o9)(x:Ext st aB)(e3:aB p=some (.lst (ps.map uW)))(vs:List D)(e4:aB d=some (.tab (ps.map uW) vs))
inductive Oo (a:gJ)(ps0:List (Nat×Nat))(s:List ((List Bool×Nat)×(List Bool×Nat)))(F:Option D->Option D->St)(p d:Nat)(st:aA)(rest:List ((List Bool×Nat)×(List Bool×Nat)))(σ:St)(aB:aA):Prop
 |mk (ps:List (Nat×Nat))(done:List ((List Bool×Nat)×(List Bool×Nat)))(o8 o9:Option D)(f0:s=done++rest)(pre:ps0 <+: ps)(nd:ps.Nodup)(al:∀ x∈ps,x.1<a.length/\x.2<a.length)(se:∀ q∈done,q.1.1=q.2.1/\(q.1.2,q.2.2)∈ps)(e1:σ=F o8 o9)(x:Ext st aB)(e3:aB p=some (.lst (ps.map uW)))(vs:List D)(e4:aB d=some (.tab (ps.map uW) vs))
section
variable {G:Prog}{k i:Nat}{st:aA}{Q:VK}{E:XK}
theorem R4 (h:G.fns i=some vZ){a:gJ}(h2:a.length<=64)(hI:zJ a){x y:Nat}(hx:x<a.length)(hy:y<a.length)(hap:∀ R:Nat->Nat->Prop,(∀ i j,R i j->i<a.length/\j<a.length)->(∀ i j,R i j->∀ q∈(row a i).zip (row a j),q.1.1=q.2.1/\R q.1.2 q.2.2)->¬R x y)
  (hQ:∀ aB,Ext st aB->Q (.bl true) aB):aJ G (k+1) i [dP a,bF x,bF y] st Q E:=by
 have hL:bD=16777216:=rfl
 rw[aX h]
 simp only[vZ,start,dP]
 refine⟨rfl,?_⟩
 walk_at"st"
 refine cB (by show 1<=bD;decide) fun p aC x1 hp hp1=>?_
 walk_at"ex"
 walk_at"st"
 rw[Di]
 intro d hd
 walk_at"ex"
 have pr:D.tup [bF x,bF y]=iO x y:=rfl
 rw[pr]at hp1 ⊢
 rw[FT aV (AX x y) rfl rfl (by decide)]
 walk_at"ex"
 have dp:p≠d:=fun z=>by rw[z,hd]at hp1;cases hp1
 have hd0:=BC x1 hd
 have nn:a.length*a.length<=4096:=we h2 h2
 walk_at"st"
 refine eU ?_
 refine mQ (gM G (av _)) (I:=Ox a (a.length*a.length) (x,y) (fun j o6 o7 o8 o9=>[some (.tup (a.map bZ)),some (bF x),some (bF y),some (.ref p),some (.ref d),some (.int (j:Nat)),o6,o7,o8,o9]) p d st) ?_ (m:=a.length*a.length+1) ⟨[(x,y)],0,none,none,none,none,rfl,cx _,by simp,by simp,by simpa using⟨hx,hy⟩,fun i _ h=>absurd h (by omega),rfl,fun b o e=>?_,?_,_,aV⟩
 rotate_left
 ·have bd:b≠d:=fun z=>by rw[z,hd0]at e;cases e
  rw[aU bd,aU bd];exact x1 _ _ e
 ·rw[aU dp,aU dp,hp1];rfl
 rintro mm σ cN ⟨ps,j,o6,o7,o8,o9,e0,le,z,nd,al,se,e1,x4,e3,vs,e4⟩
 subst e1
 have lN:=LV nd al
 walk_at"ex"
 rw[cM e3,ab]
 walk_at"ex"
 by_cases hk:j<ps.length
 rotate_left
 ·exact absurd z (hap (fun i j=>(i,j)∈ps) (fun i j h=>al _ h) fun i' j' hij q hq=>by
   obtain⟨t,ht,e⟩:=qt hij
   have:=se t ht (by omega)
   rw[e]at this
   exact this q hq)
 have e2:((j:Nat):Int)<((ps.length:Nat):Int):=by omega
 simp only[e2,decide_true,if_true]
 try walk_at"ex"
 walk_at"st"
 rw[eS e3,Cd hk,aW]
 have zb:=al _ (gp hk)
 have sj:∀ ps',ps <+: ps'->Seen a ps' ps[j]->∀ i (h:i<ps'.length),i<j+1->Seen a ps' (ps'[i]):=fun ps' pre sn i hi h=>by
  obtain⟨r,rfl⟩:=pre
  have hi':i<ps.length:=by omega
  rw[List.getElem_append_left hi']
  by_cases ij:i=j
  ·subst ij;exact sn
  ·have:=se i hi' (by omega)
   exact fun q hq=>⟨(this q hq).1,l9 _ (this q hq).2⟩
 generalize ps[j]=zz at zb sj
 simp only[uW,iO,bF]
 walk_at"ex"
 try walk_at"st"
 try walk_at"ex"
 rw[vU zb.1,aW,vU zb.2,aW]
 simp only[bZ]
 walk_at"ex"
 rw[KZ]
 refine gG ZR (I:=Oo a ps ((row a zz.1).zip (row a zz.2)) (fun o8 o9=>[some (.tup (a.map bZ)),some (bF x),some (bF y),some (.ref p),some (.ref d),some (.int (j:Nat)),some (bF zz.1),some (bF zz.2),o8,o9]) p d st) (fun rest σ aB _ a ha=>(nomatch ha)) (fun q rest σ dG M J hM=>?_) (fun σ dG J=>?_) _ _ _ ⟨ps,[],o8,o9,rfl,mo _,nd,al,by simp,rfl,x4,e3,vs,e4⟩
 ·obtain⟨ps',done,o8,o9,f0,pre,nd',al',se',f1,x5,f3,vs',f4⟩:=J
  subst f1
  have qm:q∈(row a zz.1).zip (row a zz.2):=by rw[f0];simp
  have q1:=hI _ (eQ zb.1) q.1 (j7 qm).1
  have q2:=hI _ (eQ zb.2) q.2 (j7 qm).2
  have lN':=LV nd' al'
  obtain⟨v,w⟩:=q
  simp only[ZR,dH]
  walk_at"ex"
  walk_at"st"
  refine⟨oF _,oF _,?_⟩
  rw[xT]
  by_cases hvw:v.1=w.1
  rotate_left
  ·simp only[hvw,decide_false]
   walk_at"ex"
   walk_at"st"
   exact hQ _ x5
  simp only[hvw,decide_true]
  walk_at"ex"
  simp only[aL]
  walk_at"st"
  have pp:(D.tup [D.int (v.2:Nat),D.int (w.2:Nat)])=iO v.2 w.2:=rfl
  rw[pp,PX f4 (AX _ _) (Q6 _ _ _),LC (v.2,w.2)]
  by_cases hv:(v.2,w.2)∈ps'
  ·simp only[hv,decide_true]
   walk_at"ex"
   simp only[aL]
   refine hM _ _ ⟨ps',done++[(v,w)],_,_,by rw[f0];simp,pre,nd',al',fun q hq=>?_,rfl,x5,f3,vs',f4⟩
   rcases List.mem_append.mp hq with hq|hq
   ·exact se' q hq
   ·simp only[bw]at hq;subst hq;exact⟨hvw,hv⟩
  ·simp only[hv,decide_false]
   walk_at"ex"
   walk_at"st"
   rw[pp,FT f4 (AX _ _) (Q6 _ _ _) (by rw[LC (v.2,w.2)];exact decide_eq_false hv) (by rw[ab];omega)]
   walk_at"st"
   have f3':put dG d (.tab (ps'.map uW++[iO v.2 w.2]) (vs'++[.bl true])) p=some (.lst (ps'.map uW)):=by rw[aU dp];exact f3
   rw[aG f3']
   refine⟨True.intro,?_⟩
   rw[aG f3']
   refine⟨by rw[ab];omega,?_⟩
   simp only[aL]
   refine hM _ _ ⟨ps'++[(v.2,w.2)],done++[(v,w)],_,_,by rw[f0];simp,pre.trans (yj _ _),?_,fun x hx=>?_,fun q hq=>?_,rfl,fun b o e=>?_,?_,vs'++[.bl true],?_⟩
   ·exact List.nodup_append.mpr ⟨nd',by simp,fun a ha b hb z=>by simp only[bw]at hb;subst hb;subst z;exact hv ha⟩
   ·rcases List.mem_append.mp hx with hx|hx
    ·exact al' x hx
    ·simp only[bw]at hx;subst hx;exact⟨q1,q2⟩
   ·rcases List.mem_append.mp hq with hq|hq
    ·exact⟨(se' q hq).1,l9 _ (se' q hq).2⟩
    ·simp only[bw]at hq;subst hq;exact⟨hvw,by simp⟩
   ·have bp:b≠p:=fun z=>by rw[z,hp]at e;cases e
    have bd:b≠d:=fun z=>by rw[z,hd0]at e;cases e
    rw[aU bp,aU bd];exact x5 _ _ e
   ·rw[aV,b9];rfl
   ·rw[aU dp.symm,aV,b9];rfl
 ·obtain⟨ps',done,o8,o9,f0,pre,nd',al',se',f1,x5,f3,vs',f4⟩:=J
  subst f1
  rw[fh]at f0
  walk_at"st"
  simp only[aL]
  have pl:=pre.length_le
  exact⟨mm-1,by omega,ps',j+1,_,_,o8,o9,by omega,by omega,pre.subset z,nd',al',sj ps' pre (fun q hq=>se' q (by rw[<-f0];exact hq)),rfl,x5,f3,vs',f4⟩
end
noncomputable def tL (iap:Nat):Fn:=⟨1,7,[.asg (.nm 1) (.lst [(.c (.int 0))]),.iM (.nm 2) (some .range) [(.bi .len [(.v 0)])] [.iff (.cmp .ge (.v 2) (.bi .len [(.v 1)])) [.ret (.c (.bl false))] [],.iM (.tp [3,4]) none [(.ix (.v 0) (.ix (.v 1) (.v 2)))] [.iff (.cmp .gE (.v 4) (.v 1)) [.ex (.dF .append (.v 1) [(.v 4)])] []]],.iff (.cmp .ne (.v 1) (.bit .list .range [(.bi .len [(.v 0)])])) [.ret (.c (.bl false))] [],.iM (.nm 5) (some .range) [(.bi .len [(.v 0)])] [.iM (.nm 6) (some .range) [(.v 5)] [.iff (.not_ (.call iap [(.v 0),(.v 5),(.v 6)])) [.ret (.c (.bl false))] []]],.ret (.c (.bl true))]⟩
inductive Po (f:Nat->List (List Bool×Nat))(N:Nat)(F:Option D->Option D->Option D->St)(p:Nat)(st:aA)(rest:List Nat)(σ:St)(aB:aA):Prop
 |mk (t:Nat)(o2 o3 o4:Option D)(le:t<=N)(e0:rest=(bb N).drop t)(e1:σ=F o2 o3 o4)(x:Ext st aB)(e3:aB p=some (.lst ((aR f t).map bF)))
inductive Py (s:List (List Bool×Nat))(met:List Nat)(F:Option D->Option D->St)(p:Nat)(st:aA)(rest:List (List Bool×Nat))(σ:St)(aB:aA):Prop
 |mk (done:List (List Bool×Nat))(o3 o4:Option D)(e0:s=done++rest)(e1:σ=F o3 o4)(x:Ext st aB)(e3:aB p=some (.lst ((dM met done).map bF)))
inductive Kt (F:Option D->Option D->St)(N:Nat)(st:aA)(rest:List Nat)(σ:St)(aB:aA):Prop
 |mk (o5 o6:Option D)(s:∀ y∈rest,y<N)(e1:σ=F o5 o6)(x:Ext st aB)
theorem LA {st:aA}(x:Nat):∀ met:List Nat,((met.map bF).any fun k=>bJ st k (bF x))=decide (x∈met)
 |[]=>by simp
 |y::r=>by
  rw[aq,iq,LA x r,dy]
  simp only[bF,bJ,jh,decide_eq_true_eq,beq_iff_eq,cu]
  exact⟨fun h=>h.imp (fun z=>by omega) id,fun h=>h.imp (fun z=>by omega) id⟩
theorem tV:∀ l:List Nat,bI (l.map bF)=true/\cC (l.map bF)<=0
 |[]=>⟨rfl,av _⟩
 |x::r=>by
  have h:=tV r
  simp only[aq,bI,cC,ar]
  exact⟨⟨rfl,h.1⟩,Nat.max_le.mpr ⟨Nat.le_refl 0,h.2⟩⟩
theorem IQ {st:aA}(l:List Nat):cZ st (l.map bF):=⟨iX _ (tV l).1,bu (tV l).2 (by decide)⟩
theorem NU {N t x:Nat}{rest:List Nat}(h:x::rest=(bb N).drop t):x=t:=by
 have ht:t<(bb N).length:=by have:=(drop_cons h).1;simpa using this
 rw[e8 ht]at h
 injection h with h _
 rw[h,List.getElem_range]
section
variable {G:Prog}{k i iap:Nat}{st:aA}{Q:VK}{E:XK}
theorem NP (h:G.fns i=some (tL iap))(ha:G.fns iap=some vZ){a:gJ}(h1:0<a.length)(h2:a.length<=64)(hI:zJ a)(h3:∀ s∈a,s.length<=100)(hm:∀ j<a.length,j<(aR (row a) j).length)(he:aR (row a) a.length=bb a.length)
  (hap:∀ x y,x<a.length->y<a.length->x≠y->∀ R:Nat->Nat->Prop,(∀ i j,R i j->i<a.length/\j<a.length)->(∀ i j,R i j->∀ q∈(row a i).zip (row a j),q.1.1=q.2.1/\R q.1.2 q.2.2)->¬R x y)
  (hQ:∀ aB,Ext st aB->Q (.bl true) aB):aJ G (k+2) i [dP a] st Q E:=by
 have hL:bD=16777216:=rfl
 rw[aX h]
 simp only[tL,start,dP]
 refine⟨rfl,?_⟩
 have all:∀ kk≤a.length,∀ y∈aR (row a) kk,y<a.length:=fun kk hk y hy=>by
  have:=(pJ (f:=row a) hk).subset hy
  rw[he]at this
  exact List.mem_range.mp this
 walk_at"st"
 refine cB (by show 1<=bD;decide) fun p aC x1 hp hp1=>?_
 walk_at"ex"
 walk_at"st"
 rw[ab]
 refine⟨by unfold dO;omega,?_⟩
 rw[show((a.length:Nat):Int).toNat=a.length from rfl,hV]
 refine gG (fun j:Nat=>D.int (j:Nat)) (I:=Po (row a) a.length (fun o2 o3 o4=>[some (.tup (a.map bZ)),some (.ref p),o2,o3,o4,none,none]) p st) (fun rest σ aB _ a ha=>(nomatch ha)) (fun x rest σ cN M I hM=>?_) (fun σ cN I=>?_) _ _ _ ⟨0,none,none,none,cx _,rfl,rfl,x1,hp1⟩
 ·obtain⟨t,o2,o3,o4,le,e0,e1,x4,e3⟩:=I
  subst e1
  obtain⟨ht,e4⟩:=drop_cons e0
  have hxt:=NU e0
  subst hxt
  have eB:=hm x ht
  have al:=all x le
  have lN:=kT (lX (f:=row a) x) al
  walk_at"st"
  rw[cM e3,ab]
  have e2:¬(((aR (row a) x).length:Nat):Int)<=((x:Nat):Int):=by omega
  simp only[e2,decide_false,az,if_false,aL]
  walk_at"ex"
  walk_at"st"
  rw[eS e3,HP eB,aW]
  have hy:(aR (row a) x).getD x 0<a.length:=al _ (by rw[dm,aj eB];exact gp eB)
  have emr:aR (row a) (x+1)=dM (aR (row a) x) (row a ((aR (row a) x).getD x 0)):=rfl
  generalize (aR (row a) x).getD x 0=y at hy emr
  have al2:=all (x+1) (by omega)
  rw[emr]at al2
  simp only[bF]
  walk_at"ex"
  rw[vU hy,aW]
  simp only[bZ]
  walk_at"ex"
  refine gG dH (I:=Py (row a y) (aR (row a) x) (fun o3 o4=>[some (.tup (a.map bZ)),some (.ref p),some (.int (x:Nat)),o3,o4,none,none]) p st) (fun rest σ aB _ a ha=>(nomatch ha)) (fun w nR σ dG M2 J hM2=>?_) (fun σ dG J=>?_) _ _ _ ⟨[],o3,o4,rfl,rfl,x4,e3⟩
  ·obtain⟨done,o3,o4,f0,f1,x5,f3⟩:=J
   subst f1
   have hpre:dM (aR (row a) x) done <+: dM (aR (row a) x) (row a y):=by
    rw[f0];unfold dM;rw[zh];exact lZ _ _
   have lD:=kT (rA done (lX (f:=row a) x)) fun z hz=>al2 z (hpre.subset hz)
   simp only[dH]
   walk_at"ex"
   walk_at"st"
   rw[nQ,cM f3]
   have nw:D.int (w.2:Nat)=bF w.2:=rfl
   rw[nw]
   refine⟨⟨rfl,cx _⟩,IQ _,?_⟩
   rw[LA]
   have ms:=zG done (aR (row a) x) w
   unfold num at ms
   by_cases hw:w.2∈dM (aR (row a) x) done
   ·rw[if_pos hw]at ms
    simp only[hw,decide_true]
    walk_at"ex"
    simp only[aL]
    exact hM2 _ _ ⟨done++[w],_,_,by rw[f0];simp,rfl,x5,by rw[ms];exact f3⟩
   ·rw[if_neg hw]at ms
    simp only[hw,decide_false]
    walk_at"ex"
    walk_at"st"
    rw[aG f3]
    refine⟨True.intro,?_⟩
    rw[aG f3]
    refine⟨by rw[ab];omega,?_⟩
    simp only[aL]
    refine hM2 _ _ ⟨done++[w],_,_,by rw[f0];simp,rfl,fun b o e=>?_,by rw[aV,ms,b9];rfl⟩
    have bp:b≠p:=fun z=>by rw[z,hp]at e;cases e
    rw[aU bp];exact x5 _ _ e
  ·obtain⟨done,o3,o4,f0,f1,x5,f3⟩:=J
   subst f1
   rw[fh]at f0
   subst f0
   try simp only[aL]
   exact hM _ _ ⟨x+1,_,_,_,by omega,e4,rfl,x5,by rw[emr];exact f3⟩
 ·obtain⟨t,o2,o3,o4,le,e0,e1,x4,e3⟩:=I
  subst e1
  have et:t=a.length:=by have:=drop_nil e0;omega
  subst et
  rw[he]at e3
  walk_at"st"
  rw[ab]
  refine⟨by unfold dO;omega,?_⟩
  rw[show((a.length:Nat):Int).toNat=a.length from rfl,hV]
  refine cB (by rw[ab,fw];omega) fun u dG x5 hu hu5=>?_
  walk_at"ex"
  have q5:dG p=some (.lst ((bb a.length).map bF)):=x5 _ _ e3
  refine⟨pH q5,pH (l:=bb a.length) hu5,?_⟩
  have ee:bJ dG (.ref p) (.ref u)=true:=by
   simp only[bJ,q5,hu5,B9]
   exact(AL (bb a.length) (bb a.length)).trans (decide_eq_true rfl)
  rw[ee]
  walk_at"ex"
  simp only[aL]
  walk_at"st"
  rw[ab]
  refine⟨by unfold dO;omega,?_⟩
  rw[show((a.length:Nat):Int).toNat=a.length from rfl,hV]
  refine gG (fun j:Nat=>D.int (j:Nat)) (I:=Kt (fun o5 o6=>[some (.tup (a.map bZ)),some (.ref p),o2,o3,o4,o5,o6]) a.length st) (fun rest σ aB _ a ha=>(nomatch ha)) (fun x rest σ gT M I hM=>?_) (fun σ gT I=>?_) _ _ _ ⟨none,none,fun y hy=>List.mem_range.mp hy,rfl,x4.trans x5⟩
  ·obtain⟨o5,o6,sb,e1,x6⟩:=I
   subst e1
   have hx:=sb x (by simp)
   walk_at"st"
   refine⟨by unfold dO;omega,?_⟩
   rw[show((x:Nat):Int).toNat=x from rfl,hV]
   refine gG (fun j:Nat=>D.int (j:Nat)) (I:=Kt (fun _ o6=>[some (.tup (a.map bZ)),some (.ref p),o2,o3,o4,some (.int (x:Nat)),o6]) x st) (fun rest σ aB _ a ha=>(nomatch ha)) (fun y nR σ vB M2 J hM2=>?_) (fun σ vB J=>?_) _ _ _ ⟨none,o6,fun y hy=>List.mem_range.mp hy,rfl,x6⟩
   ·obtain⟨o5',o6',sb2,f1,x7⟩:=J
    subst f1
    have hy:=sb2 y (by simp)
    walk_at"st"
    refine R4 (k:=k) ha h2 hI hx (by omega) (hap x y hx (by omega) (by omega)) fun iP x8=>?_
    walk_at"ex"
    simp only[aL]
    exact hM2 _ _ ⟨none,_,fun z hz=>sb2 z (by simp [hz]),rfl,x7.trans x8⟩
   ·obtain⟨o5',o6',sb2,f1,x7⟩:=J
    subst f1
    try simp only[aL]
    exact hM _ _ ⟨_,_,fun z hz=>sb z (by simp [hz]),rfl,x7⟩
  ·obtain⟨o5,o6,sb,e1,x6⟩:=I
   subst e1
   walk_at"st"
   exact hQ _ x6
end
noncomputable def IS (ibo ilm ile iim isa ils:Nat):Fn:=⟨1,4,[.asg (.nm 1) (.call ibo [(.v 0),(.c (.int 40)),(.c (.int 1)),(.c (.int 0))]),.asg (.nm 2) (.call ilm [(.v 0),(.c (.int 0)),(.bi .len [(.ix (.v 1) (.c (.int 0)))]),(.bi .len [(.ix (.v 1) (.c (.int 1)))]),(.c (.int 8))]),.asg (.nm 3) (.call ile [(.v 1),(.v 2)]),.iff (.or_ (.not_ (.call iim [(.v 3),(.bi .len [(.ix (.v 1) (.c (.int 0)))]),(.bi .len [(.ix (.v 1) (.c (.int 1)))])])) (.not_ (.call isa [(.v 2),(.v 3)]))) [.ret (.c (.bl false))] [],.ret (.and_ (.call ils [(.v 3)]) (.cmp .eq (.call ile [(.v 1),(.v 3)]) (.v 3)))]⟩
theorem WR (m:gJ):bH (dP m)=true/\dJ (dP m)<=4:=by
 have:=KY m
 simp only[dP,bH,dJ]
 exact⟨this.1,zx this.2⟩
theorem WO {α β:Type}{s:List α}{s':List β}{k:Nat}{v:α}{w:β}(hv:s[k]? = some v)(hw:s'[k]? = some w):(v,w)∈s.zip s' :=
 bf (List.getElem?_zip_eq_some.mpr ⟨hv,hw⟩)
section
variable {G:Prog}{n g:Nat}{m a:gJ}
theorem UL (O:wO n g m)(l:GZ m a):∃(P:Nat->Prop)(φ:Nat->Nat),P 0/\φ 0=0/\∀ x,P x->x<m.length/\φ x<a.length/\row a (φ x)=(row m x).map (fun v=>(v.1,φ v.2))/\∀ v∈row m x,P v.2:=by
 obtain⟨L,n',r,d,rfl⟩:=l
 have M0:=O4 (f:=fun x=>lk L (row m x)) n'
 have L0:L.getD 0 0=0:=by have:=(r.spec r.one).1;omega
 refine⟨fun x=>x<m.length/\L.getD x 0∈aR (fun x=>lk L (row m x)) n',fun x=>(aR (fun x=>lk L (row m x)) n').idxOf (L.getD x 0),⟨r.one,by rw[L0];exact bf M0⟩,?_,fun x hx=>?_⟩
 ·show List.idxOf (L.getD 0 0) _=0
  rw[L0];have:=nV M0;omega
 ·refine⟨hx.1,?_,r.SG d hx.1 hx.2,r.ends d hx.1 hx.2⟩
  have h:=List.idxOf_lt_length_iff.mpr hx.2
  rw[d.le]at h
  rw[dX];exact h
theorem O8 (O:wO n g m)(l:GZ m a):(∀ j<a.length,j<(aR (row a) j).length)/\aR (row a) a.length=bb a.length /\
  ∀ x y,x<a.length->y<a.length->x≠y->∀ R:Nat->Nat->Prop,(∀ i j,R i j->i<a.length/\j<a.length)->(∀ i j,R i j->∀ q∈(row a i).zip (row a j),q.1.1=q.2.1/\R q.1.2 q.2.2)->¬R x y:=by
 have Oa:=OX O l
 obtain⟨L,n',r,d,rfl⟩:=l
 have s1:=rC (f:=fun x=>lk L (row m x)) (n:=n') d.lt
 have sl:=Oa.sl
 rw[dX]
 refine⟨fun j hj=>?_,?_,fun x y hx hy ne R hb hR hxy=>ne ?_⟩
 ·rw[s1 j (by omega),fw];exact d.lt j hj
 ·rw[s1 n' (av _),d.le]
 ·refine r.apart d hb (fun i j hij=>⟨?_,fun k v w hv hw=>hR i j hij (v,w) (WO hv hw)⟩) hxy
  have:=hb i j hij
  rw[sl _ (eQ (by rw[dX];exact this.1)),sl _ (eQ (by rw[dX];exact this.2))]
end
section
variable {G:Prog}{ila ibo ilm ils iim isa inm dD is ipr im ic is8 iwh iap iles ile ilea ifr ilam iww ini ino icm ich ima ibk ir isd ise iwy ist ipl:Nat}{κ:CK}
theorem Hb (hl:G.fns ila=some (IS ibo ilm ile iim isa ils))(hbo:G.fns ibo=some (yI inm dD is ipr))(kL:G.fns inm=some (vD dD))(hpr:G.fns ipr=some (xX is dD))(hs:G.fns is=some (lI dD is))(hn:G.fns dD=some (pD im))(hm:G.fns im=some (kS ic))(hc:G.fns ic=some mF)(hlm:G.fns ilm=some (tO im is8))(h8:G.fns is8=some rY)
 (hle:G.fns ile=some (xZ iles icm))(F:LM G iles ilea ifr ilam iww ini ino κ)(hcm:G.fns icm=some (rX ich ima))(hch:G.fns ich=some (nE ibk))(hb:∀ b:Bk,b.Ok->lU b.says<bD->(∀ x∈b.says,aQ x<=60)->(iL b.says []).length<=4->FJ G ibk 13 b)
 (hma:G.fns ima=some (yC ir isd (.int 64)))(hd:G.fns isd=some (pQ ise ir iwy))(hse:G.fns ise=some qP)(hw:G.fns iwy=some (vS ir ist ipl))(hr:G.fns ir=some fZ)(eV:G.fns ist=some jE)(hp:G.fns ipl=some kF)
 (hi:G.fns iim=some (NQ is8 iwh))(hwh:G.fns iwh=some vT)(hsa:G.fns isa=some FL)(hls:G.fns ils=some (tL iap))(hap:G.fns iap=some vZ)
 (ns:List Int){st:aA}{Q:VK}{E:XK}(hκ:∃ P,st P=some (.cod κ))(hQ:∀ aB,Q (.bl true) aB):aJ G (16+1) ila [.bL (ns.map .int)] st Q E:=by
 obtain⟨Pκ,hκ⟩:=hκ
 rw[aX hl]
 simp only[IS,start]
 refine⟨rfl,?_⟩
 walk_at"st"
 refine XO (k:=9) hbo kL hpr hs hn hm hc (by decide) (by decide) (by decide) (by decide) fun b aC DR x1=>?_
 obtain⟨F1,F2,F3,F4⟩:=P1 DR (by decide)
 have hL:bD=16777216:=rfl
 have hB:=hb b DR.ok (by omega) F2 F3
 have f2:=DR.ok.f2
 have g2:=DR.ok.g2
 have p4:2 ^ b.fs.length<=4:=f7 (n:=2) (by decide) (by omega:b.fs.length<=2)
 have hd0:b.d=.tup [.tup (b.fs.map .str),.tup (b.gs.map .str),.tup (b.ps.map toD),.tup (b.ms.map toD),.tup (b.ws.map fun w=>.tup [.int w.1,toD w.2])]:=rfl
 walk_at"ex"
 rw[hd0]
 walk_at"st"
 rw[ab,ab]
 refine KH (k:=13) hlm hm hc h8 (by decide) (by decide) (by decide) f2 g2 fun m aF x2 O lm=>?_
 rw[<-hd0]
 walk_at"ex"
 walk_at"st"
 refine D3 (k:=0) hle F ⟨Pκ,x2 _ _ (x1 _ _ hκ)⟩ hcm hch hB hma hd hse hw hr eV hp DR.ok O fun a bK x3 l=>?_
 have Oa:=OX O l
 walk_at"ex"
 rw[hd0]
 walk_at"st"
 rw[ab,ab]
 refine Dp (k:=14) hi h8 hwh (by omega) (by omega) Oa fun cN x4=>?_
 rw[<-hd0]
 walk_at"ex"
 obtain⟨P,φ,P0,φ0,hP⟩:=UL O l
 refine X8 (k:=15) hsa P φ P0 φ0 (by have:=O.l2;omega) hP fun dG x5=>?_
 walk_at"ex"
 simp only[aL]
 walk_at"st"
 obtain⟨q1,q2,q3⟩:=O8 O l
 refine NP (k:=14) hls hap Oa.l1 Oa.l2 (O6 Oa) (fun s hs=>by have:=Oa.sl s hs;omega) q1 q2 q3 fun gT x6=>?_
 walk_at"ex"
 refine D3 (k:=0) hle F ⟨Pκ,x6 _ _ (x5 _ _ (x4 _ _ (x3 _ _ (x2 _ _ (x1 _ _ hκ)))))⟩ hcm hch hB hma hd hse hw hr eV hp DR.ok Oa fun a' vB x7 l'=>?_
 rw[UH O l l']
 walk_at"ex"
 have pm:=WR a
 have ps:∀ st,plainS st (dP a):=fun st=>⟨nA _ pm.1,bu pm.2 (by decide)⟩
 refine⟨ps _,ps _,?_⟩
 rw[UA _ _ pm.1,K0 _ pm.1]
 exact hQ vB
end
end L3
end
end
namespace L3
open PySem PySem.Spec PyProof.Rows L2
noncomputable def g_LETTERS:D:=(.str (W "abcdefghijklmnopqrstuvwxyz"))
noncomputable def g_LONGEST_NAME:D:=(.int 8)
noncomputable def g_NO_NAMES:D:=(.tup [(.str (W "yes")),(.str (W "no")),(.str (W "not")),(.str (W "and")),(.str (W "or")),(.str (W "then")),(.str (W "same")),(.str (W "before")),(.str (W "once")),(.str (W "sofar")),(.str (W "since")),(.str (W "foe")),(.str (W "friend")),(.str (W "promise")),(.str (W "must")),(.str (W "wish"))])
noncomputable def g_DEEPEST:D:=(.int 8)
noncomputable def g_SAYINGS_WITHIN:D:=(.cY [(.str (W "yes")),(.str (W "no")),(.str (W "not")),(.str (W "before")),(.str (W "once")),(.str (W "sofar")),(.str (W "and")),(.str (W "or")),(.str (W "then")),(.str (W "same")),(.str (W "since"))] [(.int 0),(.int 0),(.int 1),(.int 1),(.int 1),(.int 1),(.int 2),(.int 2),(.int 2),(.int 2),(.int 2)])
noncomputable def g_PAST_WORDS:D:=(.tup [(.str (W "before")),(.str (W "once")),(.str (W "sofar")),(.str (W "since"))])
noncomputable def g_MOST_LAMPS:D:=(.int 2)
noncomputable def g_MOST_PROMISES:D:=(.int 3)
noncomputable def g_MOST_MUSTS:D:=(.int 3)
noncomputable def g_MOST_WISHES:D:=(.int 5)
noncomputable def g_HIGHEST_PRICE:D:=(.int 99)
noncomputable def g_MOST_PIECES:D:=(.int 4)
noncomputable def g_MOST_STANDS:D:=(.int 64)
noncomputable abbrev vG:Nat:=0
noncomputable abbrev rJ:Nat:=1
noncomputable abbrev jZ:Nat:=2
noncomputable abbrev lC:Nat:=3
noncomputable abbrev zD:Nat:=4
noncomputable abbrev iJ:Nat:=5
noncomputable abbrev zK:Nat:=6
noncomputable abbrev oU:Nat:=7
noncomputable abbrev oO:Nat:=8
noncomputable abbrev sN:Nat:=9
noncomputable abbrev CN:Nat:=10
noncomputable abbrev EU:Nat:=11
noncomputable abbrev wA:Nat:=12
noncomputable abbrev xF:Nat:=13
noncomputable abbrev wB:Nat:=14
noncomputable abbrev E3:Nat:=15
noncomputable abbrev vE:Nat:=16
noncomputable abbrev uR:Nat:=17
noncomputable abbrev mM:Nat:=18
noncomputable abbrev lT:Nat:=19
noncomputable abbrev BU:Nat:=20
noncomputable abbrev IA:Nat:=21
noncomputable abbrev BN:Nat:=22
noncomputable abbrev vF:Nat:=23
noncomputable abbrev pB:Nat:=24
noncomputable abbrev rS:Nat:=25
noncomputable abbrev kU:Nat:=26
noncomputable abbrev wK:Nat:=27
noncomputable abbrev qK:Nat:=28
noncomputable abbrev IC:Nat:=29
noncomputable abbrev sJ:Nat:=30
noncomputable abbrev pO:Nat:=31
noncomputable abbrev kQ:Nat:=32
noncomputable abbrev wF:Nat:=33
noncomputable abbrev kX:Nat:=34
noncomputable abbrev sM:Nat:=35
noncomputable abbrev zQ:Nat:=36
noncomputable abbrev mL:Nat:=37
noncomputable abbrev sS:Nat:=38
noncomputable abbrev xA:Nat:=39
noncomputable abbrev pC:Nat:=40
noncomputable abbrev pM:Nat:=41
noncomputable abbrev qR:Nat:=42
noncomputable abbrev zA:Nat:=43
noncomputable abbrev UQ:Nat:=44
noncomputable abbrev kJ:Nat:=45
noncomputable def dR:CK:=⟨242,148,27,W "least_machine.<locals>.<lambda>"⟩
noncomputable def FG:Fn:=gZ g_NO_NAMES g_LETTERS g_LONGEST_NAME
noncomputable def zT:Fn:=nU jZ g_DEEPEST
noncomputable def oK:Fn:=kW vG jZ g_SAYINGS_WITHIN
noncomputable def qA:Fn:=lR
noncomputable def zO:Fn:=⟨1,4,[.asg (.nm 1) (.lst []),.asg (.nm 2) (.bit .list .rev [(.v 0)]),.whl (.v 2) [.asg (.nm 3) (.dF .pop (.v 2) []),.iff (.and_ (.cmp .in_ (.ix (.v 3) (.c (.int 0))) (.c g_PAST_WORDS)) (.cmp .gE (.v 3) (.v 1))) [.ex (.dF .append (.v 1) [(.v 3)])] [],.ex (.dF .extend (.v 2) [(.bit .list .rev [(.call lC [(.v 3)])])])],.ret (.v 1)]⟩
noncomputable def HY:Fn:=fZ
noncomputable def zY:Fn:=A7 iJ vG g_MOST_LAMPS
noncomputable def uO:Fn:=sY iJ rJ
noncomputable def uV:Fn:=qV lC oO
noncomputable def rW:Fn:=xS oU oO g_MOST_PROMISES
noncomputable def CC:Fn:=nG g_HIGHEST_PRICE
noncomputable def E6:Fn:=tD iJ CN rJ
noncomputable def wH:Fn:=tJ iJ EU g_MOST_WISHES
noncomputable def xI:Fn:=B1
noncomputable def FC:Fn:=xY iJ zK sN oU wA zD xF g_MOST_MUSTS g_MOST_PIECES
noncomputable def EM:Fn:=nE wB
noncomputable def vR:Fn:=jE
noncomputable def uQ:Fn:=qP
noncomputable def mC:Fn:=CS
noncomputable def lK:Fn:=CO
noncomputable def B6:Fn:=kF
noncomputable def HF:Fn:=vS iJ vE BU
noncomputable def B7:Fn:=pQ uR iJ IA
noncomputable def xM:Fn:=yC iJ BN g_MOST_STANDS
noncomputable def pA:Fn:=rX E3 vF
noncomputable def rR:Fn:=FR mM lT
noncomputable def uP:Fn:=N0
noncomputable def vK:Fn:=FY kU
noncomputable def qL:Fn:=JP wK rS kJ dR
noncomputable def GL:Fn:=xZ qK pB
noncomputable def sG:Fn:=⟨2,2,[.iff (.cmp .lt (.v 1) (.bi .len [(.v 0)])) [.ret (.ix (.v 0) (.v 1))] [],.iff (.cmp .eq (.v 0) (.lst [])) [.ret (.c (.int 0))] [],.ret (.bin .add (.bin .mul (.ix (.v 0) (.bin .mod (.v 1) (.bi .len [(.v 0)]))) (.c (.int 31))) (.v 1))]⟩
noncomputable def vM:Fn:=⟨3,4,[.asg (.nm 3) (.bin .mod (.bin .mul (.bin .add (.bin .add (.call sJ [(.v 0),(.v 1)]) (.bin .mul (.c (.int 7919)) (.v 1))) (.c (.int 1))) (.c (.int 48271))) (.c (.int 2147483647))),.ret (.bin .mod (.bin .mod (.bin .add (.bin .add (.bin .mul (.v 3) (.v 3)) (.bin .mul (.c (.int 7)) (.v 3))) (.v 1)) (.c (.int 2147483629))) (.v 2))]⟩
noncomputable def zU:Fn:=pD pO
noncomputable def xJ:Fn:=vD kQ
noncomputable def uU:Fn:=lI kQ kX
noncomputable def rZ:Fn:=xX kX kQ
noncomputable def zB:Fn:=yI wF kQ kX sM
noncomputable def qT:Fn:=rY
noncomputable def sU:Fn:=tO pO mL
noncomputable def wG:Fn:=vT
noncomputable def oX:Fn:=NQ mL xA
noncomputable def pT:Fn:=vZ
noncomputable def qS:Fn:=tL pM
noncomputable def zS:Fn:=FL
noncomputable def UR:Fn:=IS zQ sS IC pC zA qR
noncomputable def qJ:Fn:=TB kU
noncomputable def Lm:Nat->Option Fn
 |0=>some FG
 |1=>some zT
 |2=>some oK
 |3=>some qA
 |4=>some zO
 |5=>some HY
 |6=>some zY
 |7=>some uO
 |8=>some uV
 |9=>some rW
 |10=>some CC
 |11=>some E6
 |12=>some wH
 |13=>some xI
 |14=>some FC
 |15=>some EM
 |16=>some vR
 |17=>some uQ
 |18=>some mC
 |19=>some lK
 |20=>some B6
 |21=>some HF
 |22=>some B7
 |23=>some xM
 |24=>some pA
 |25=>some rR
 |26=>some uP
 |27=>some vK
 |28=>some qL
 |29=>some GL
 |30=>some sG
 |31=>some vM
 |32=>some zU
 |33=>some xJ
 |34=>some uU
 |35=>some rZ
 |36=>some zB
 |37=>some qT
 |38=>some sU
 |39=>some wG
 |40=>some oX
 |41=>some pT
 |42=>some qS
 |43=>some zS
 |44=>some UR
 |45=>some qJ
 |_=>none
noncomputable def Nn:Nat->Nat->Bool
 |0,0=>true
 |1,1=>true
 |1,0=>true
 |2,2=>true
 |2,1=>true
 |2,0=>true
 |3,3=>true
 |3,1=>true
 |3,0=>true
 |_,_=>false
noncomputable def G:Prog:=⟨Lm,Nn⟩
noncomputable def cI:Nat->Stmt
 |0=>bd 11
 |1=>bd 12
 |2=>bd 13
 |3=>bd 14
 |4=>bd 15
 |5=>bd 23
 |6=>bd 24
 |7=>bd 25
 |8=>bd 26
 |9=>bd 27
 |10=>bd 28
 |11=>bd 29
 |12=>bd 30
 |13=>bd 31
 |14=>bd 32
 |15=>bd 33
 |16=>bd 35
 |17=>bd 37
 |18=>P6 (bd 38) 0
 |19=>P6 (bd 38) 1
 |20=>bd 41
 |21=>bd 42
 |22=>bd 43
 |23=>bd 44
 |24=>bd 45
 |25=>bd 46
 |26=>bd 47
 |27=>bd 48
 |28=>bd 49
 |29=>bd 50
 |30=>bd 52
 |31=>bd 53
 |32=>bd 54
 |33=>bd 55
 |34=>bd 56
 |35=>bd 57
 |36=>bd 58
 |37=>bd 59
 |38=>bd 60
 |39=>bd 61
 |40=>bd 62
 |41=>bd 63
 |42=>bd 64
 |43=>bd 65
 |44=>bd 66
 |_=>.Pass ⟨0,0,0,0⟩
def oY:Nat->Str
 |0 =>"is_name"
 |1 =>"is_saying"
 |2 =>"is_saying_within"
 |3 =>"sayings_within"
 |4 =>"pieces_in"
 |5 =>"is_row"
 |6 =>"are_lamps"
 |7 =>"are_sayings"
 |8 =>"stands_bare"
 |9 =>"are_promises"
 |10 =>"is_price"
 |11 =>"is_wish"
 |12 =>"are_wishes"
 |13 =>"sayings_of"
 |14 =>"is_book"
 |15 =>"checked"
 |16 =>"is_setting"
 |17 =>"settings_of"
 |18 =>"__init__"
 |19 =>"number_of"
 |20 =>"is_place"
 |21 =>"is_way"
 |22 =>"is_stand"
 |23 =>"is_machine"
 |24 =>"checked_machine"
 |25 =>"machine_from"
 |26 =>"ways_within"
 |27 =>"leaders_of"
 |28 =>"least_machine"
 |29 =>"lesser"
 |30 =>"_law_cell_at"
 |31 =>"_law_mixed"
 |32 =>"_law_next"
 |33 =>"_law_names"
 |34 =>"_law_saying"
 |35 =>"_law_promise"
 |36 =>"_law_book"
 |37 =>"_law_settings"
 |38 =>"_law_machine"
 |39 =>"_law_whole"
 |40 =>"_law_is_machine"
 |41 =>"_law_are_apart"
 |42 =>"_law_is_least"
 |43 =>"_law_same"
 |44 =>"law"
 |_ =>""
def fT:Nat->Str
 |0 =>"is_name"
 |1 =>"is_saying"
 |2 =>"is_saying_within"
 |3 =>"sayings_within"
 |4 =>"pieces_in"
 |5 =>"is_row"
 |6 =>"are_lamps"
 |7 =>"are_sayings"
 |8 =>"stands_bare"
 |9 =>"are_promises"
 |10 =>"is_price"
 |11 =>"is_wish"
 |12 =>"are_wishes"
 |13 =>"sayings_of"
 |14 =>"is_book"
 |15 =>"checked"
 |16 =>"is_setting"
 |17 =>"settings_of"
 |18 =>"Numbering.__init__"
 |19 =>"Numbering.number_of"
 |20 =>"is_place"
 |21 =>"is_way"
 |22 =>"is_stand"
 |23 =>"is_machine"
 |24 =>"checked_machine"
 |25 =>"machine_from"
 |26 =>"ways_within"
 |27 =>"leaders_of"
 |28 =>"least_machine"
 |29 =>"lesser"
 |30 =>"_law_cell_at"
 |31 =>"_law_mixed"
 |32 =>"_law_next"
 |33 =>"_law_names"
 |34 =>"_law_saying"
 |35 =>"_law_promise"
 |36 =>"_law_book"
 |37 =>"_law_settings"
 |38 =>"_law_machine"
 |39 =>"_law_whole"
 |40 =>"_law_is_machine"
 |41 =>"_law_are_apart"
 |42 =>"_law_is_least"
 |43 =>"_law_same"
 |44 =>"law"
 |_ =>""
def mN:Nat->At
 |0=>.top
 |1=>.top
 |2=>.top
 |3=>.top
 |4=>.top
 |5=>.top
 |6=>.top
 |7=>.top
 |8=>.top
 |9=>.top
 |10=>.top
 |11=>.top
 |12=>.top
 |13=>.top
 |14=>.top
 |15=>.top
 |16=>.top
 |17=>.top
 |18=>(.init (W "Numbering"))
 |19=>(.dF (W "Numbering"))
 |20=>.top
 |21=>.top
 |22=>.top
 |23=>.top
 |24=>.top
 |25=>.top
 |26=>.top
 |27=>.top
 |28=>.top
 |29=>.top
 |30=>.top
 |31=>.top
 |32=>.top
 |33=>.top
 |34=>.top
 |35=>.top
 |36=>.top
 |37=>.top
 |38=>.top
 |39=>.top
 |40=>.top
 |41=>.top
 |42=>.top
 |43=>.top
 |44=>.top
 |_=>.top
def mJ:Nat->List Str
 |0=>["thing"]
 |1=>["names","thing"]
 |2=>["names","thing","deepest"]
 |3=>["saying"]
 |4=>["sayings"]
 |5=>["thing","fewest","most"]
 |6=>["foe","friend"]
 |7=>["names","things","most"]
 |8=>["names","saying"]
 |9=>["names","friend","things"]
 |10=>["thing"]
 |11=>["names","thing"]
 |12=>["names","things"]
 |13=>["promises","musts","wishes"]
 |14=>["thing"]
 |15=>["book"]
 |16=>["thing","lamps"]
 |17=>["lamps"]
 |18=>["self","first"]
 |19=>["self","thing"]
 |20=>["thing","places"]
 |21=>["book","stands","thing"]
 |22=>["book","stands","thing"]
 |23=>["book","thing"]
 |24=>["book","machine"]
 |25=>["first","ways_of"]
 |26=>["ways","leaders"]
 |27=>["machine"]
 |28=>["machine"]
 |29=>["book","machine"]
 |30=>["_law_script","_law_k"]
 |31=>["_law_script","_law_k","_law_many"]
 |32=>["_law_script","_law_m","_law_many"]
 |33=>["_law_script","_law_m"]
 |34=>["_law_script","_law_m","_law_names_here","_law_deep","_law_left"]
 |35=>["_law_script","_law_m","_law_foe","_law_names_here","_law_left"]
 |36=>["_law_script","_law_at","_law_pieces","_law_musts"]
 |37=>["_law_many"]
 |38=>["_law_script","_law_at","_law_foe","_law_friend","_law_most"]
 |39=>["_law_found"]
 |40=>["_law_thing","_law_foe","_law_friend"]
 |41=>["_law_machine_here","_law_one","_law_other"]
 |42=>["_law_machine_here"]
 |43=>["_law_one","_law_other"]
 |44=>["_law_script"]
 |_=>[]
noncomputable def OM:Nat->Option Addr
 |28=>some 242
 |_=>none
structure Zt (K:aa)(mg:Str->Option af):Prop where
 b_isinstance:mg "isinstance" = none
 b_str:mg "str" = none
 b_len:mg "len" = none
 b_all:mg "all" = none
 b_tuple:mg "tuple" = none
 b_list:mg "list" = none
 b_reversed:mg "reversed" = none
 b_set:mg "set" = none
 b_any:mg "any" = none
 b_int:mg "int" = none
 b_bool:mg "bool" = none
 b_range:mg "range" = none
 b_zip:mg "zip" = none
 g_NO_NAMES:GC K mg "NO_NAMES" g_NO_NAMES
 g_LONGEST_NAME:GC K mg "LONGEST_NAME" g_LONGEST_NAME
 g_LETTERS:GC K mg "LETTERS" g_LETTERS
 g_DEEPEST:GC K mg "DEEPEST" g_DEEPEST
 g_SAYINGS_WITHIN:GC K mg "SAYINGS_WITHIN" g_SAYINGS_WITHIN
 g_PAST_WORDS:GC K mg "PAST_WORDS" g_PAST_WORDS
 g_MOST_LAMPS:GC K mg "MOST_LAMPS" g_MOST_LAMPS
 g_MOST_PROMISES:GC K mg "MOST_PROMISES" g_MOST_PROMISES
 g_HIGHEST_PRICE:GC K mg "HIGHEST_PRICE" g_HIGHEST_PRICE
 g_MOST_WISHES:GC K mg "MOST_WISHES" g_MOST_WISHES
 g_MOST_MUSTS:GC K mg "MOST_MUSTS" g_MOST_MUSTS
 g_MOST_PIECES:GC K mg "MOST_PIECES" g_MOST_PIECES
 g_MOST_STANDS:GC K mg "MOST_STANDS" g_MOST_STANDS
 c_Numbering:yJ K (W "Numbering")
 a_Numbering_met:IY K (W "Numbering") (W "met")
 a_Numbering_numbers_met:IY K (W "Numbering") (W "numbers_met")
section
variable {P:br}{w:dg}{K:aa}{mg:Str->Option af}{base:Heap}
theorem xP {k:Nat}(T:CZ K mg 45 oY fT mJ cI mN)(IH:∀ i,i<45->fJ P w K mg base dB (2*k) (T.a i) (T.fd i) (mJ i) (fO K (aJ G k) i)){X:Cx}(e1:X.prog=P)(e2:X.w=w)(e3:X.K=K)(e4:X.mg=mg)(e5:X.base=base)(hr:cR (2*k+1) X.A)(i:Nat)(h:l6 i 45=true)(ha:mN i=.top):mE X (aJ G k) (oY i) i:=by
 subst e1 e2 e3 e4 e5
 have h:i<45:=Nat.ble_eq.mp h
 have q:=T.mg i h
 rw[ha]at q
 exact⟨2*k,T.a i,T.fd i,mJ i,IH i h,hr.mono (by omega),q,(T.fn i h).kp,T.bi i h⟩
theorem yD {k:Nat}(T:CZ K mg 45 oY fT mJ cI mN)(IH:∀ i,i<45->fJ P w K mg base dB (2*k) (T.a i) (T.fd i) (mJ i) (fO K (aJ G k) i)){X:Cx}(e1:X.prog=P)(e2:X.w=w)(e3:X.K=K)(e4:X.mg=mg)(e5:X.base=base)(hr:cR (2*k+1) X.A)(i:Nat)(c:List Nat)(h:l6 i 45=true)(ha:mN i=.dF c):nX X (aJ G k) c (oY i) i:=by
 subst e1 e2 e3 e4 e5
 have h:i<45:=Nat.ble_eq.mp h
 have q:=T.mg i h
 rw[ha]at q
 obtain⟨C0,q1,q2,q3⟩:=q
 exact⟨2*k,T.a i,T.fd i,mJ i,C0,IH i h,hr.mono (by omega),T.bi i h,q1,q2,q3⟩
theorem DS {k:Nat}(T:CZ K mg 45 oY fT mJ cI mN)(IH:∀ i,i<45->fJ P w K mg base dB (2*k) (T.a i) (T.fd i) (mJ i) (fO K (aJ G k) i)){X:Cx}(e1:X.prog=P)(e2:X.w=w)(e3:X.K=K)(e4:X.mg=mg)(e5:X.base=base)(hr:cR (2*k+1) X.A)(i:Nat)(c:List Nat)(h:l6 i 45=true)(ha:mN i=.init c){n:Str}(hn:n=⟨c.toArray⟩:=by kernel_rfl):wM X (aJ G k) c n i:=by
 subst e1 e2 e3 e4 e5
 have h:i<45:=Nat.ble_eq.mp h
 have q:=T.mg i h
 rw[ha]at q
 obtain⟨C0,q1,q2,q3⟩:=q
 exact⟨2*k,T.a i,T.fd i,mJ i,C0,IH i h,hr,T.bi i h,q1,by rw[hn];exact q2,q3⟩
noncomputable abbrev TT (K:aa)(mg:Str->Option af):=CZ K mg 45 oY fT mJ cI mN
abbrev IT (P:br)(w:dg)(base:Heap)(T:TT K mg)(k:Nat):Prop:=∀ i,i<45->fJ P w K mg base dB (2*k) (T.a i) (T.fd i) (mJ i) (fO K (aJ G k) i)
abbrev OT (P:br)(w:dg)(base:Heap)(T:TT K mg)(k i:Nat):Prop:=fJ P w K mg base dB (2*k+1+1) (T.a i) (T.fd i) (mJ i) (fO K (aJ G (k+1)) i)
theorem eD (i:Nat){k:Nat}{fn:Fn}{N:List Str}(T:TT K mg)(IH:IT P w base T k)(hi:l6 i 45=true)(S:lJ N (mJ i) (aI (cI i)))(hG:G.fns i=some fn)(hp:fn.np=(mJ i).length)(hl:fn.nl=N.length)
 (hb:∀(bE:af)(A:cp)(outer:List Env)(s:ah)(H:Hp)(E:L2.XK)(hr:cR (2*k+1) (A.deeper (mz (fT i) (aI (cI i)) s.heap.objs.size (T.a i) bE)))(m:bO (aJ G k) (aJ G k))(u:(A.deeper (mz (fT i) (aI (cI i)) s.heap.objs.size (T.a i) bE)).units+180<wo)
 (c:∀ j,l6 j 45=true->mN j=.top->mE (eY dB P w K mg base N (fT i) (aI (cI i)) (T.a i) bE A outer s H E).iA (aJ G k) (oY j) j)(cm:∀ j c,l6 j 45=true->mN j=.dF c->nX (eY dB P w K mg base N (fT i) (aI (cI i)) (T.a i) bE A outer s H E).iA (aJ G k) c (oY j) j)(ck:∀ j c,l6 j 45=true->mN j=.init c->∀{n:Str}(hn:n=⟨c.toArray⟩:=by kernel_rfl),wM (eY dB P w K mg base N (fT i) (aI (cI i)) (T.a i) bE A outer s H E).iA (aJ G k) c n j)(nd:N.Nodup),
 sA (eY dB P w K mg base N (fT i) (aI (cI i)) (T.a i) bE A outer s H E).iA (aJ G k) G.sub (fG (cI i)) fn.body):OT P w base T k i :=
 PZ (fn:=fn) (T.fn i (Nat.ble_eq.mp hi)) S hG hp hl fun bE A outer s H E hr=>hb bE A outer s H E hr (gM G (av k)) (FQ hr) (xP (X:=(eY dB P w K mg base N (fT i) (aI (cI i)) (T.a i) bE A outer s H E).iA) T IH rfl rfl rfl rfl rfl hr) (yD (X:=(eY dB P w K mg base N (fT i) (aI (cI i)) (T.a i) bE A outer s H E).iA) T IH rfl rfl rfl rfl rfl hr) (@DS P w K mg base k T IH (eY dB P w K mg base N (fT i) (aI (cI i)) (T.a i) bE A outer s H E).iA rfl rfl rfl rfl rfl hr) S.nd
abbrev Aw (P:br)(w:dg)(K:aa)(mg:Str->Option af)(base:Heap)(k:Nat):Prop:=∀ f Tx,LT f=some Tx->nK P w K mg base (2*k) (aJ G k) f
theorem Nq (i:Nat){k:Nat}{fn:Fn}{N:List Str}(T:TT K mg)(IH:IT P w base T k)(IL:Aw P w K mg base k)(hi:l6 i 45=true)(S:lJ N (mJ i) (aI (cI i)))(hG:G.fns i=some fn)(hp:fn.np=(mJ i).length)(hl:fn.nl=N.length)
 (hb:∀(bE:af)(A:cp)(outer:List Env)(s:ah)(H:Hp)(E:L2.XK)(hr:cR (2*k+1) (A.deeper (mz (fT i) (aI (cI i)) s.heap.objs.size (T.a i) bE)))(m:bO (aJ G k) (aJ G k))(u:(A.deeper (mz (fT i) (aI (cI i)) s.heap.objs.size (T.a i) bE)).units+180<wo)
 (c:∀ j,l6 j 45=true->mN j=.top->mE (eY dB P w K mg base N (fT i) (aI (cI i)) (T.a i) bE A outer s H E).iA (aJ G k) (oY j) j)(cm:∀ j c,l6 j 45=true->mN j=.dF c->nX (eY dB P w K mg base N (fT i) (aI (cI i)) (T.a i) bE A outer s H E).iA (aJ G k) c (oY j) j)(ck:∀ j c,l6 j 45=true->mN j=.init c->∀{n:Str}(hn:n=⟨c.toArray⟩:=by kernel_rfl),wM (eY dB P w K mg base N (fT i) (aI (cI i)) (T.a i) bE A outer s H E).iA (aJ G k) c n j)(nd:N.Nodup)(L:OZ (eY dB P w K mg base N (fT i) (aI (cI i)) (T.a i) bE A outer s H E).iA (aJ G k)),
 sA (eY dB P w K mg base N (fT i) (aI (cI i)) (T.a i) bE A outer s H E).iA (aJ G k) G.sub (fG (cI i)) fn.body):OT P w base T k i :=
 PZ (fn:=fn) (T.fn i (Nat.ble_eq.mp hi)) S hG hp hl fun bE A outer s H E hr=>hb bE A outer s H E hr (gM G (av k)) (FQ hr) (xP (X:=(eY dB P w K mg base N (fT i) (aI (cI i)) (T.a i) bE A outer s H E).iA) T IH rfl rfl rfl rfl rfl hr) (yD (X:=(eY dB P w K mg base N (fT i) (aI (cI i)) (T.a i) bE A outer s H E).iA) T IH rfl rfl rfl rfl rfl hr) (@DS P w K mg base k T IH (eY dB P w K mg base N (fT i) (aI (cI i)) (T.a i) bE A outer s H E).iA rfl rfl rfl rfl rfl hr) S.nd ⟨2*k,IL,hr.mono (by omega)⟩
theorem Of (i:Nat){k:Nat}{fn:Fn}{N:List Str}(T:TT K mg)(IH:IT P w base T k){cc:Addr}(hcd:(T.fd i).code=.ref cc)(hi:l6 i 45=true)(S:lJ N (mJ i) (aI (cI i)))(hG:G.fns i=some fn)(hp:fn.np=(mJ i).length)(hl:fn.nl=N.length)
 (hb:∀(A:cp)(outer:List Env)(s:ah)(H:Hp)(E:L2.XK)(hr:cR (2*k+1) (A.deeper (mz (fT i) (aI (cI i)) s.heap.objs.size (T.a i) (.ref cc))))(m:bO (aJ G k) (aJ G k))(u:(A.deeper (mz (fT i) (aI (cI i)) s.heap.objs.size (T.a i) (.ref cc))).units+180<wo)
 (c:∀ j,l6 j 45=true->mN j=.top->mE (eY dB P w K mg base N (fT i) (aI (cI i)) (T.a i) (.ref cc) A outer s H E).iA (aJ G k) (oY j) j)(cm:∀ j c,l6 j 45=true->mN j=.dF c->nX (eY dB P w K mg base N (fT i) (aI (cI i)) (T.a i) (.ref cc) A outer s H E).iA (aJ G k) c (oY j) j)(ck:∀ j c,l6 j 45=true->mN j=.init c->∀{n:Str}(hn:n=⟨c.toArray⟩:=by kernel_rfl),wM (eY dB P w K mg base N (fT i) (aI (cI i)) (T.a i) (.ref cc) A outer s H E).iA (aJ G k) c n j)(nd:N.Nodup),
 sA (eY dB P w K mg base N (fT i) (aI (cI i)) (T.a i) (.ref cc) A outer s H E).iA (aJ G k) G.sub (fG (cI i)) fn.body):OT P w base T k i :=
 Bw (fn:=fn) (T.fn i (Nat.ble_eq.mp hi)) hcd S hG hp hl fun A outer s H E hr=>hb A outer s H E hr (gM G (av k)) (FQ hr) (xP (X:=(eY dB P w K mg base N (fT i) (aI (cI i)) (T.a i) (.ref cc) A outer s H E).iA) T IH rfl rfl rfl rfl rfl hr) (yD (X:=(eY dB P w K mg base N (fT i) (aI (cI i)) (T.a i) (.ref cc) A outer s H E).iA) T IH rfl rfl rfl rfl rfl hr) (@DS P w K mg base k T IH (eY dB P w K mg base N (fT i) (aI (cI i)) (T.a i) (.ref cc) A outer s H E).iA rfl rfl rfl rfl rfl hr) S.nd
section
variable {k:Nat}(T:TT K mg)(Z:Zt K mg)(IH:IT P w base T k)
include T Z IH
theorem Nx:OT P w base T k 0 :=
 eD 0 (fn:=FG) (N:=["thing"]) T IH rfl ⟨rfl,rfl,rfl,by decide +kernel,rfl,by decide +kernel,by decide +kernel⟩ rfl rfl rfl fun bE A outer s H E hr m u c cm ck nd=>by
 exact(cc (fU m (oW (oG m (mG (tp (pK (t:=.str) QE Z.b_isinstance Z.b_str (jv 0)))) (oZ (fH (o:=.in_) u (jv 0) (jg Z.g_NO_NAMES))))) (cc (bY m jb)
 c0) c0)
 (cc (bY m (jU (VL (o:=.le) (o':=.le) u ji (cF aZ bW Z.b_len (ja (jv 0) an)) (jg Z.g_LONGEST_NAME)) (oM (cF (iY hr.hd) oI Z.b_all (ja (pW m (own:=["sign"]) (cn:=[]) (aK:=[]) (one:=true) (mX (on:=(aI (cI 0)).names) (N:=["thing"]) (by decide +kernel)) (iv (jv 0)) (fun _ _ _ _=>(b1 (gn (show(["sign"]:List Str).Nodup by decide +kernel)))) (fun _ _ _ _=>qn) (fun _ _ _ _=>(EN (o:=.in_) u (jv 0) (jg Z.g_LETTERS)))) an)))))
 c0))
theorem Nr:OT P w base T k 1 :=
 eD 1 (fn:=zT) (N:=["names","thing"]) T IH rfl ⟨rfl,rfl,rfl,by decide +kernel,rfl,by decide +kernel,by decide +kernel⟩ rfl rfl rfl fun bE A outer s H E hr m u c cm ck nd=>by
 exact(cc (bY m (bS (c 2 rfl rfl) (ja (jv 0) (ja (jv 1) (ja (jg Z.g_DEEPEST) an)))))
 c0)
noncomputable abbrev N2:List Str:=["names","thing","deepest"]
theorem Mm:OT P w base T k 2 :=
 eD 2 (fn:=oK) (N:=N2) T IH rfl ⟨rfl,rfl,rfl,by decide +kernel,rfl,by decide +kernel,by decide +kernel⟩ rfl rfl rfl fun bE A outer s H E hr m u c cm ck nd=>by
 exact(cc (fU m (oW (oG m (fH (o:=.lt) u (cT 2) ji) (oG m (mG (tp (pK (t:=.tuple) dW Z.b_isinstance Z.b_tuple (jv 1)))) (oG m (fH (o:=.lt) u (cF aZ bW Z.b_len (ja (jv 1) an)) ji) (oZ (mG (tp (pK (t:=.str) QE Z.b_isinstance Z.b_str (bU (jv 1) ji))))))))) (cc (bY m jb)
 c0) c0)
 (cc (fU m (fH (o:=.eq) u (bU (jv 1) ji) js) (cc (bY m (jU (EN (o:=.eq) u (cF aZ bW Z.b_len (ja (jv 1) an)) ji) (jU (bS (c 0 rfl rfl) (ja (bU (jv 1) ji) an)) (oM (EN (o:=.in_) u (bU (jv 1) ji) (cT 0))))))
 c0) c0)
 (cc (fU m (oW (oG m (fH (o:=.gE) u (bU (jv 1) ji) (jg Z.g_SAYINGS_WITHIN)) (oZ (fH (o:=.ne) u (cF aZ bW Z.b_len (ja (jv 1) an)) (cU (op:=.add) ji (bU (jg Z.g_SAYINGS_WITHIN) (bU (jv 1) ji))))))) (cc (bY m jb)
 c0) c0)
 (cc (bY m (cF (iY hr.hd) oI Z.b_all (ja (pW m (own:=["part"]) (cn:=["names","deepest"]) (aK:=[0,2]) (one:=true) (mX (on:=(aI (cI 2)).names) (N:=N2) (by decide +kernel)) (iv (LS (jv 1) (os ji) on)) (fun _ _ _ _=>(b1 (gn (show(["part","names","deepest"]:List Str).Nodup by decide +kernel)))) (fun _ _ _ _=>qn) (fun _ _ _ _=>(bS ((c 2 rfl rfl).sZ) (ja (cT 1) (ja (jv 0) (ja (cU (op:=.sub) (cT 2) ji) an)))))) an)))
 c0))))
theorem Lw:OT P w base T k 3 :=
 eD 3 (fn:=qA) (N:=["saying"]) T IH rfl ⟨rfl,rfl,rfl,by decide +kernel,rfl,by decide +kernel,by decide +kernel⟩ rfl rfl rfl fun bE A outer s H E hr m u c cm ck nd=>by
 exact(cc (fU m (fH (o:=.eq) u (bU (jv 0) ji) js) (cc (bY m (jt m an))
 c0) c0)
 (cc (bY m (LS (jv 0) (os ji) on))
 c0))
theorem Oi:OT P w base T k 4 :=
 eD 4 (fn:=zO) (N:=["sayings","pieces","ahead","saying"]) T IH rfl ⟨rfl,rfl,rfl,by decide +kernel,rfl,by decide +kernel,by decide +kernel⟩ rfl rfl rfl fun bE A outer s H E hr m u c cm ck nd=>by
 exact(cc (sn (i:=1) m nd (jl an))
 (cc (sn (i:=2) m nd (La Z.b_list Z.b_reversed (ja (jv 0) an)))
 (cc (sw m (tp (jv 2)) (cc (sn (i:=3) m nd (Pe (jv 2) ))
 (cc (fU m (oW (Dr m (fH (o:=.in_) u (bU (jv 3) ji) (jg Z.g_PAST_WORDS)) (oZ (fH (o:=.gE) u (jv 3) (jv 1))))) (cc (sx m (vV (jv 1) (ja (jv 3) an)))
 c0) c0)
 (cc (sx m (Km (jv 2) (ja (La Z.b_list Z.b_reversed (ja (bS (c 3 rfl rfl) (ja (jv 3) an)) an)) an)))
 c0))))
 (cc (bY m (jv 1))
 c0))))
theorem Mv:OT P w base T k 5 :=
 eD 5 (fn:=HY) (N:=["thing","fewest","most"]) T IH rfl ⟨rfl,rfl,rfl,by decide +kernel,rfl,by decide +kernel,by decide +kernel⟩ rfl rfl rfl fun bE A outer s H E hr m u c cm ck nd=>by
 exact(cc (bY m (jU (pK (t:=.tuple) dW Z.b_isinstance Z.b_tuple (jv 0)) (oM (VL (o:=.le) (o':=.le) u (jv 1) (cF aZ bW Z.b_len (ja (jv 0) an)) (jv 2)))))
 c0)
noncomputable abbrev N6:List Str:=["foe","friend","names"]
theorem Mz:OT P w base T k 6 :=
 eD 6 (fn:=zY) (N:=N6) T IH rfl ⟨rfl,rfl,rfl,by decide +kernel,rfl,by decide +kernel,by decide +kernel⟩ rfl rfl rfl fun bE A outer s H E hr m u c cm ck nd=>by
 exact(cc (fU m (oW (oG m (mG (tp (bS (c 5 rfl rfl) (ja (jv 0) (ja ji (ja (jg Z.g_MOST_LAMPS) an)))))) (oZ (mG (tp (bS (c 5 rfl rfl) (ja (jv 1) (ja ji (ja (jg Z.g_MOST_LAMPS) an))))))))) (cc (bY m jb)
 c0) c0)
 (cc (sn (i:=2) m nd (cU (op:=.add) (jv 0) (jv 1)))
 (cc (bY m (jU (cF (iY hr.hd) oI Z.b_all (ja (pW m (own:=["name"]) (cn:=[]) (aK:=[]) (one:=true) (mX (on:=(aI (cI 6)).names) (N:=N6) (by decide +kernel)) (iv (jv 2)) (fun _ _ _ _=>(b1 (gn (show(["name"]:List Str).Nodup by decide +kernel)))) (fun _ _ _ _=>qn) (fun _ _ _ _=>(bS ((c 0 rfl rfl).sZ) (ja (jv 0) an)))) an)) (oM (EN (o:=.eq) u (Pj Z.b_len Z.b_set (ja (jv 2) an)) (cF aZ bW Z.b_len (ja (jv 2) an))))))
 c0)))
noncomputable abbrev N7:List Str:=["names","things","most"]
theorem Ol:OT P w base T k 7 :=
 eD 7 (fn:=uO) (N:=N7) T IH rfl ⟨rfl,rfl,rfl,by decide +kernel,rfl,by decide +kernel,by decide +kernel⟩ rfl rfl rfl fun bE A outer s H E hr m u c cm ck nd=>by
 exact(cc (bY m (jU (bS (c 5 rfl rfl) (ja (jv 1) (ja ji (ja (jv 2) an)))) (oM (cF (iY hr.hd) oI Z.b_all (ja (pW m (own:=["thing"]) (cn:=["names"]) (aK:=[0]) (one:=true) (mX (on:=(aI (cI 7)).names) (N:=N7) (by decide +kernel)) (iv (jv 1)) (fun _ _ _ _=>(b1 (gn (show(["thing","names"]:List Str).Nodup by decide +kernel)))) (fun _ _ _ _=>qn) (fun _ _ _ _=>(bS ((c 1 rfl rfl).sZ) (ja (cT 1) (ja (jv 0) an))))) an)))))
 c0)
theorem Nt:OT P w base T k 8 :=
 eD 8 (fn:=uV) (N:=["names","saying"]) T IH rfl ⟨rfl,rfl,rfl,by decide +kernel,rfl,by decide +kernel,by decide +kernel⟩ rfl rfl rfl fun bE A outer s H E hr m u c cm ck nd=>by
 exact(cc (fU m (fH (o:=.eq) u (bU (jv 1) ji) js) (cc (bY m jb)
 c0) c0)
 (cc (fU m (fH (o:=.eq) u (bU (jv 1) ji) js) (cc (bY m (EN (o:=.in_) u (bU (jv 1) ji) (cT 0)))
 c0) c0)
 (cc (bY m (cF (EB hr.hd) QO Z.b_any (ja (pW m (own:=["part"]) (cn:=["names"]) (aK:=[0]) (one:=true) (mX (on:=(aI (cI 8)).names) (N:=["names","saying"]) (by decide +kernel)) (iv (bS (c 3 rfl rfl) (ja (jv 1) an))) (fun _ _ _ _=>(b1 (gn (show(["part","names"]:List Str).Nodup by decide +kernel)))) (fun _ _ _ _=>qn) (fun _ _ _ _=>(bS ((c 8 rfl rfl).sZ) (ja (cT 1) (ja (jv 0) an))))) an)))
 c0)))
noncomputable abbrev N9:List Str:=["names","friend","things"]
theorem Oh:OT P w base T k 9 :=
 eD 9 (fn:=rW) (N:=N9) T IH rfl ⟨rfl,rfl,rfl,by decide +kernel,rfl,by decide +kernel,by decide +kernel⟩ rfl rfl rfl fun bE A outer s H E hr m u c cm ck nd=>by
 exact(cc (bY m (jU (bS (c 7 rfl rfl) (ja (jv 0) (ja (jv 2) (ja (jg Z.g_MOST_PROMISES) an)))) (oM (U4 (cF (EB hr.hd) QO Z.b_any (ja (pW m (own:=["thing"]) (cn:=["friend"]) (aK:=[1]) (one:=true) (mX (on:=(aI (cI 9)).names) (N:=N9) (by decide +kernel)) (iv (jv 2)) (fun _ _ _ _=>(b1 (gn (show(["thing","friend"]:List Str).Nodup by decide +kernel)))) (fun _ _ _ _=>qn) (fun _ _ _ _=>(bS ((c 8 rfl rfl).sZ) (ja (cT 1) (ja (jv 0) an))))) an))))))
 c0)
theorem Hx:OT P w base T k 10 :=
 eD 10 (fn:=CC) (N:=["thing"]) T IH rfl ⟨rfl,rfl,rfl,by decide +kernel,rfl,by decide +kernel,by decide +kernel⟩ rfl rfl rfl fun bE A outer s H E hr m u c cm ck nd=>by
 exact(cc (bY m (jU (pK (t:=.int) HD Z.b_isinstance Z.b_int (jv 0)) (jU (U4 (pK (t:=.bool) yR Z.b_isinstance Z.b_bool (jv 0))) (oM (VL (o:=.le) (o':=.le) u ji (jv 0) (jg Z.g_HIGHEST_PRICE))))))
 c0)
theorem Jk:OT P w base T k 11 :=
 eD 11 (fn:=E6) (N:=["names","thing"]) T IH rfl ⟨rfl,rfl,rfl,by decide +kernel,rfl,by decide +kernel,by decide +kernel⟩ rfl rfl rfl fun bE A outer s H E hr m u c cm ck nd=>by
 exact(cc (bY m (jU (bS (c 5 rfl rfl) (ja (jv 1) (ja ji (ja ji an)))) (jU (bS (c 10 rfl rfl) (ja (bU (jv 1) ji) an)) (oM (bS (c 1 rfl rfl) (ja (jv 0) (ja (bU (jv 1) ji) an)))))))
 c0)
theorem Fs:OT P w base T k 12 :=
 eD 12 (fn:=wH) (N:=["names","things"]) T IH rfl ⟨rfl,rfl,rfl,by decide +kernel,rfl,by decide +kernel,by decide +kernel⟩ rfl rfl rfl fun bE A outer s H E hr m u c cm ck nd=>by
 exact(cc (bY m (jU (bS (c 5 rfl rfl) (ja (jv 1) (ja ji (ja (jg Z.g_MOST_WISHES) an)))) (oM (cF (iY hr.hd) oI Z.b_all (ja (pW m (own:=["thing"]) (cn:=["names"]) (aK:=[0]) (one:=true) (mX (on:=(aI (cI 12)).names) (N:=["names","things"]) (by decide +kernel)) (iv (jv 1)) (fun _ _ _ _=>(b1 (gn (show(["thing","names"]:List Str).Nodup by decide +kernel)))) (fun _ _ _ _=>qn) (fun _ _ _ _=>(bS ((c 11 rfl rfl).sZ) (ja (cT 1) (ja (jv 0) an))))) an)))))
 c0)
noncomputable abbrev Lf:List Str:=["promises","musts","wishes"]
theorem Gh:OT P w base T k 13 :=
 eD 13 (fn:=xI) (N:=Lf) T IH rfl ⟨rfl,rfl,rfl,by decide +kernel,rfl,by decide +kernel,by decide +kernel⟩ rfl rfl rfl fun bE A outer s H E hr m u c cm ck nd=>by
 exact(cc (bY m (cU (op:=.add) (cU (op:=.add) (oQ A9 yS Z.b_list (ja (jv 0) an)) (oQ A9 yS Z.b_list (ja (jv 1) an))) (pW m (own:=["wish"]) (cn:=[]) (aK:=[]) (one:=true) (mX (on:=(aI (cI 13)).names) (N:=Lf) (by decide +kernel)) (iv (jv 2)) (fun _ _ _ _=>(b1 (gn (show(["wish"]:List Str).Nodup by decide +kernel)))) (fun _ _ _ _=>qn) (fun _ _ _ _=>(bU (jv 0) ji)))))
 c0)
theorem Hu:OT P w base T k 14 :=
 eD 14 (fn:=FC) (N:=["thing","friend","names","promises","musts","wishes"]) T IH rfl ⟨rfl,rfl,rfl,by decide +kernel,rfl,by decide +kernel,by decide +kernel⟩ rfl rfl rfl fun bE A outer s H E hr m u c cm ck nd=>by
 exact(cc (fU m (oW (oG m (mG (tp (bS (c 5 rfl rfl) (ja (jv 0) (ja ji (ja ji an)))))) (oZ (mG (tp (bS (c 6 rfl rfl) (ja (bU (jv 0) ji) (ja (bU (jv 0) ji) an)))))))) (cc (bY m jb)
 c0) c0)
 (cc (sn (i:=1) m nd (bU (jv 0) ji))
 (cc (sn (i:=2) m nd (cU (op:=.add) (bU (jv 0) ji) (jv 1)))
 (cc (sn (i:=3) m nd (bU (jv 0) ji))
 (cc (sn (i:=4) m nd (bU (jv 0) ji))
 (cc (sn (i:=5) m nd (bU (jv 0) ji))
 (cc (fU m (oW (oG m (mG (tp (bS (c 9 rfl rfl) (ja (jv 2) (ja (jv 1) (ja (jv 3) an)))))) (oZ (mG (tp (bS (c 7 rfl rfl) (ja (jv 2) (ja (jv 4) (ja (jg Z.g_MOST_MUSTS) an))))))))) (cc (bY m jb)
 c0) c0)
 (cc (bY m (jU (bS (c 12 rfl rfl) (ja (jv 2) (ja (jv 5) an))) (oM (EN (o:=.le) u (cF aZ bW Z.b_len (ja (bS (c 4 rfl rfl) (ja (bS (c 13 rfl rfl) (ja (jv 3) (ja (jv 4) (ja (jv 5) an)))) an)) an)) (jg Z.g_MOST_PIECES)))))
 c0))))))))
theorem Gn:OT P w base T k 15 :=
 eD 15 (fn:=EM) (N:=["book"]) T IH rfl ⟨rfl,rfl,rfl,by decide +kernel,rfl,by decide +kernel,by decide +kernel⟩ rfl rfl rfl fun bE A outer s H E hr m u c cm ck nd=>by
 exact(cc (fU m (mG (tp (bS (c 14 rfl rfl) (ja (jv 0) an)))) (cc (Ku m)
 c0) c0)
 (cc (bY m (jv 0))
 c0))
theorem Gy:OT P w base T k 16 :=
 eD 16 (fn:=vR) (N:=["thing","lamps"]) T IH rfl ⟨rfl,rfl,rfl,by decide +kernel,rfl,by decide +kernel,by decide +kernel⟩ rfl rfl rfl fun bE A outer s H E hr m u c cm ck nd=>by
 exact(cc (bY m (jU (pK (t:=.tuple) dW Z.b_isinstance Z.b_tuple (jv 0)) (jU (EN (o:=.eq) u (cF aZ bW Z.b_len (ja (jv 0) an)) (jv 1)) (oM (cF (iY hr.hd) oI Z.b_all (ja (pW m (own:=["part"]) (cn:=[]) (aK:=[]) (one:=true) (mX (on:=(aI (cI 16)).names) (N:=["thing","lamps"]) (by decide +kernel)) (iv (jv 0)) (fun _ _ _ _=>(b1 (gn (show(["part"]:List Str).Nodup by decide +kernel)))) (fun _ _ _ _=>qn) (fun _ _ _ _=>(pK (t:=.bool) yR Z.b_isinstance Z.b_bool (jv 0)))) an))))))
 c0)
theorem Jx:OT P w base T k 17 :=
 eD 17 (fn:=uQ) (N:=["lamps","settings","place","longer","setting"]) T IH rfl ⟨rfl,rfl,rfl,by decide +kernel,rfl,by decide +kernel,by decide +kernel⟩ rfl rfl rfl fun bE A outer s H E hr m u c cm ck nd=>by
 exact(cc (sn (i:=1) m nd (jl (ja (jt m an) an)))
 (cc (uT (i:=2) m nd (zE m Z.b_range (ja (cF aZ bW Z.b_len (ja (jv 0) an)) an)) (cc (sn (i:=3) m nd (jl an))
 (cc (uT (i:=4) m nd (iv (jv 1)) (cc (sx m (vV (jv 3) (ja (cU (op:=.add) (jv 4) (jt m (ja jb an))) an)))
 (cc (sx m (vV (jv 3) (ja (cU (op:=.add) (jv 4) (jt m (ja jb an))) an)))
 c0)))
 (cc (sn (i:=1) m nd (jv 3))
 c0))))
 (cc (bY m (jv 1))
 c0)))
theorem Ir:OT P w base T k 18 :=
 eD 18 (fn:=mC) (N:=["self","first"]) T IH rfl ⟨rfl,rfl,rfl,by decide +kernel,rfl,by decide +kernel,by decide +kernel⟩ rfl rfl rfl fun bE A outer s H E hr m u c cm ck nd=>by
 exact(cc (Kv m (W "Numbering") Z.c_Numbering Z.a_Numbering_met (jv 0) (jl (ja (jv 1) an)))
 (cc (Kv m (W "Numbering") Z.c_Numbering Z.a_Numbering_numbers_met (jv 0) (Kx u (jv 1) ji))
 c0))
theorem Js:OT P w base T k 19 :=
 eD 19 (fn:=lK) (N:=["self","thing"]) T IH rfl ⟨rfl,rfl,rfl,by decide +kernel,rfl,by decide +kernel,by decide +kernel⟩ rfl rfl rfl fun bE A outer s H E hr m u c cm ck nd=>by
 exact(cc (fU m (Ki u (jv 1) (GI (W "Numbering") Z.c_Numbering Z.a_Numbering_numbers_met (jv 0))) (cc (Ky m u (GI (W "Numbering") Z.c_Numbering Z.a_Numbering_numbers_met (jv 0)) (jv 1) (cF aZ bW Z.b_len (ja (GI (W "Numbering") Z.c_Numbering Z.a_Numbering_met (jv 0)) an)))
 (cc (sx m (vV (GI (W "Numbering") Z.c_Numbering Z.a_Numbering_met (jv 0)) (ja (jv 1) an)))
 c0)) c0)
 (cc (bY m (Oy u (GI (W "Numbering") Z.c_Numbering Z.a_Numbering_numbers_met (jv 0)) (jv 1)))
 c0))
theorem Fv:OT P w base T k 20 :=
 eD 20 (fn:=B6) (N:=["thing","places"]) T IH rfl ⟨rfl,rfl,rfl,by decide +kernel,rfl,by decide +kernel,by decide +kernel⟩ rfl rfl rfl fun bE A outer s H E hr m u c cm ck nd=>by
 exact(cc (bY m (jU (pK (t:=.int) HD Z.b_isinstance Z.b_int (jv 0)) (jU (U4 (pK (t:=.bool) yR Z.b_isinstance Z.b_bool (jv 0))) (oM (VL (o:=.le) (o':=.lt) u ji (jv 0) (jv 1))))))
 c0)
theorem Gj:OT P w base T k 21 :=
 eD 21 (fn:=HF) (N:=["book","stands","thing"]) T IH rfl ⟨rfl,rfl,rfl,by decide +kernel,rfl,by decide +kernel,by decide +kernel⟩ rfl rfl rfl fun bE A outer s H E hr m u c cm ck nd=>by
 exact(cc (bY m (jU (bS (c 5 rfl rfl) (ja (jv 2) (ja ji (ja ji an)))) (jU (bS (c 16 rfl rfl) (ja (bU (jv 2) ji) (ja (cF aZ bW Z.b_len (ja (bU (jv 0) ji) an)) an))) (oM (bS (c 20 rfl rfl) (ja (bU (jv 2) ji) (ja (jv 1) an)))))))
 c0)
noncomputable abbrev Kn:List Str:=["book","stands","thing","ways"]
theorem Ii:OT P w base T k 22 :=
 eD 22 (fn:=B7) (N:=Kn) T IH rfl ⟨rfl,rfl,rfl,by decide +kernel,rfl,by decide +kernel,by decide +kernel⟩ rfl rfl rfl fun bE A outer s H E hr m u c cm ck nd=>by
 exact(cc (sn (i:=3) m nd (cF aZ bW Z.b_len (ja (bS (c 17 rfl rfl) (ja (bU (cT 0) ji) an)) an)))
 (cc (bY m (jU (bS (c 5 rfl rfl) (ja (jv 2) (ja (jv 3) (ja (jv 3) an)))) (oM (cF (iY hr.hd) oI Z.b_all (ja (pW m (own:=["way"]) (cn:=["book","stands"]) (aK:=[0,1]) (one:=true) (mX (on:=(aI (cI 22)).names) (N:=Kn) (by decide +kernel)) (iv (jv 2)) (fun _ _ _ _=>(b1 (gn (show(["way","book","stands"]:List Str).Nodup by decide +kernel)))) (fun _ _ _ _=>qn) (fun _ _ _ _=>(bS ((c 21 rfl rfl).sZ) (ja (cT 1) (ja (cT 2) (ja (jv 0) an)))))) an)))))
 c0))
theorem Gm:OT P w base T k 23 :=
 eD 23 (fn:=xM) (N:=["book","thing"]) T IH rfl ⟨rfl,rfl,rfl,by decide +kernel,rfl,by decide +kernel,by decide +kernel⟩ rfl rfl rfl fun bE A outer s H E hr m u c cm ck nd=>by
 exact(cc (bY m (jU (bS (c 5 rfl rfl) (ja (cT 1) (ja ji (ja (jg Z.g_MOST_STANDS) an)))) (oM (cF (iY hr.hd) oI Z.b_all (ja (pW m (own:=["stand"]) (cn:=["book","thing"]) (aK:=[0,1]) (one:=true) (mX (on:=(aI (cI 23)).names) (N:=["book","thing"]) (by decide +kernel)) (iv (cT 1)) (fun _ _ _ _=>(b1 (gn (show(["stand","book","thing"]:List Str).Nodup by decide +kernel)))) (fun _ _ _ _=>qn) (fun _ _ _ _=>(bS ((c 22 rfl rfl).sZ) (ja (cT 1) (ja (cF aZ bW Z.b_len (ja (cT 2) an)) (ja (jv 0) an)))))) an)))))
 c0)
theorem Jy:OT P w base T k 24 :=
 eD 24 (fn:=pA) (N:=["book","machine"]) T IH rfl ⟨rfl,rfl,rfl,by decide +kernel,rfl,by decide +kernel,by decide +kernel⟩ rfl rfl rfl fun bE A outer s H E hr m u c cm ck nd=>by
 exact(cc (sx m (bS (c 15 rfl rfl) (ja (jv 0) an)))
 (cc (fU m (mG (tp (bS (c 23 rfl rfl) (ja (jv 0) (ja (jv 1) an))))) (cc (Ku m)
 c0) c0)
 (cc (bY m (jv 1))
 c0)))
noncomputable abbrev Lc:List Str:=["first","ways_of","numbering","stands","thing"]
theorem Gv(IL:Aw P w K mg base k):OT P w base T k 25 :=
 Nq 25 (fn:=rR) (N:=Lc) T IH IL rfl ⟨rfl,rfl,rfl,by decide +kernel,rfl,by decide +kernel,by decide +kernel⟩ rfl rfl rfl fun bE A outer s H E hr m u c cm ck nd L=>by
 exact(cc (E5 (i:=2) m nd (Pg (ck 18 (W "Numbering") rfl rfl) (ja (jv 0) an)))
 (cc (sn (i:=3) m nd (jl an))
 (cc (sw m (fH (o:=.lt) u (cF aZ bW Z.b_len (ja (jv 3) an)) (cF aZ bW Z.b_len (ja (GI (W "Numbering") Z.c_Numbering Z.a_Numbering_met (cT 2)) an))) (cc (sn (i:=4) m nd (bU (GI (W "Numbering") Z.c_Numbering Z.a_Numbering_met (cT 2)) (cF aZ bW Z.b_len (ja (jv 3) an))))
 (cc (sx m (vV (jv 3) (ja (oQ fA dW Z.b_tuple (ja (pW m (own:=["friend","other"]) (cn:=["numbering"]) (aK:=[2]) (one:=false) (mX (on:=(aI (cI 25)).names) (N:=Lc) (by decide +kernel)) (iv (Ph 1 L (ja (jv 4) an))) (fun _ _ _ _=>(bt (gc (gn (i:=0) (show(["friend","other","numbering"]:List Str).Nodup by decide +kernel)) (gc (gn (i:=1) (show(["friend", "other", "numbering"]:List Str).Nodup by decide +kernel)) nn)))) (fun _ _ _ _=>qn) (fun _ _ _ _=>(jt m (ja (jv 0) (ja (Pu (mm:=W "number_of") ((cm 19 (W "Numbering") rfl rfl).sZ) (cT 2) (ja (jv 1) an)) an))))) an)) an)))
 c0)))
 (cc (bY m (oQ fA dW Z.b_tuple (ja (jv 3) an)))
 c0))))
theorem Jj:OT P w base T k 26 :=
 eD 26 (fn:=uP) (N:=["ways","leaders"]) T IH rfl ⟨rfl,rfl,rfl,by decide +kernel,rfl,by decide +kernel,by decide +kernel⟩ rfl rfl rfl fun bE A outer s H E hr m u c cm ck nd=>by
 exact(cc (bY m (oQ fA dW Z.b_tuple (ja (pW m (own:=["friend","stand"]) (cn:=["leaders"]) (aK:=[1]) (one:=false) (mX (on:=(aI (cI 26)).names) (N:=["ways","leaders"]) (by decide +kernel)) (iv (jv 0)) (fun _ _ _ _=>(bt (gc (gn (i:=0) (show(["friend","stand","leaders"]:List Str).Nodup by decide +kernel)) (gc (gn (i:=1) (show(["friend","stand","leaders"]:List Str).Nodup by decide +kernel)) nn)))) (fun _ _ _ _=>qn) (fun _ _ _ _=>(jt m (ja (jv 0) (ja (bU (cT 2) (jv 1)) an))))) an)))
 c0)
noncomputable abbrev VD:List Str:=["machine","leaders","looks","finer"]
theorem Hl:OT P w base T k 27 :=
 eD 27 (fn:=vK) (N:=VD) T IH rfl ⟨rfl,rfl,rfl,by decide +kernel,rfl,by decide +kernel,by decide +kernel⟩ rfl rfl rfl fun bE A outer s H E hr m u c cm ck nd=>by
 exact(cc (E5 (i:=1) m nd (pW m (own:=["stand"]) (cn:=[]) (aK:=[]) (one:=true) (mX (on:=(aI (cI 27)).names) (N:=VD) (by decide +kernel)) (iv (jv 0)) (fun _ _ _ _=>(b1 (gn (show(["stand"]:List Str).Nodup by decide +kernel)))) (fun _ _ _ _=>qn) (fun _ _ _ _=>ji)))
 (cc (sw m (tp jb) (cc (E5 (i:=2) m nd (pW m (own:=["stand"]) (cn:=["leaders"]) (aK:=[1]) (one:=true) (mX (on:=(aI (cI 27)).names) (N:=VD) (by decide +kernel)) (iv (jv 0)) (fun _ _ _ _=>(b1 (gn (show(["stand","leaders"]:List Str).Nodup by decide +kernel)))) (fun _ _ _ _=>qn) (fun _ _ _ _=>(bS ((c 26 rfl rfl).sZ) (ja (jv 0) (ja (cT 1) an))))))
 (cc (Bt (i:=3) m nd (own:=["look"]) (cn:=["looks"]) (aK:=[2]) (one:=true) (mX (on:=(aI (cI 27)).names) (N:=VD) (by decide +kernel)) (iv (cT 2)) (fun _ _ _ _=>(b1 (gn (show(["look","looks"]:List Str).Nodup by decide +kernel)))) (fun _ _ _ _=>qn) (fun _ _ _ _=>(Ma m u (cT 1) (ja (jv 0) an))))
 (cc (fU m (fH (o:=.eq) u (jv 3) (cT 1)) (cc (bY m (cT 1))
 c0) c0)
 (cc (E5 (i:=1) m nd (jv 3))
 c0)))))
 c0))
theorem Hs(B:rO mg base)(TC:∀ i,i<45->∀ c,OM i=some c->(T.fd i).code=.ref c):OT P w base T k 28 :=
 Of 28 (fn:=qL) (N:=["machine","leaders"]) T IH (TC 28 (by decide) _ rfl) rfl ⟨rfl,rfl,rfl,by decide +kernel,rfl,by decide +kernel,by decide +kernel⟩ rfl rfl rfl fun A outer s H E hr m u c cm ck nd=>by
 exact(cc (E5 (i:=1) m nd (bS (c 27 rfl rfl) (ja (cT 0) an)))
 (cc (bY m (Pt dQ (c 25 rfl rfl) ji B rfl rfl (fun _=>rfl)))
 c0))
theorem Ik:OT P w base T k 29 :=
 eD 29 (fn:=GL) (N:=["book","machine"]) T IH rfl ⟨rfl,rfl,rfl,by decide +kernel,rfl,by decide +kernel,by decide +kernel⟩ rfl rfl rfl fun bE A outer s H E hr m u c cm ck nd=>by
 exact(cc (bY m (bS (c 28 rfl rfl) (ja (bS (c 24 rfl rfl) (ja (jv 0) (ja (jv 1) an))) an)))
 c0)
theorem Jf:OT P w base T k 30 :=
 eD 30 (fn:=sG) (N:=["_law_script","_law_k"]) T IH rfl ⟨rfl,rfl,rfl,by decide +kernel,rfl,by decide +kernel,by decide +kernel⟩ rfl rfl rfl fun bE A outer s H E hr m u c cm ck nd=>by
 exact(cc (fU m (fH (o:=.lt) u (jv 1) (cF aZ bW Z.b_len (ja (jv 0) an))) (cc (bY m (bU (jv 0) (jv 1)))
 c0) c0)
 (cc (fU m (fH (o:=.eq) u (jv 0) (jl an)) (cc (bY m ji)
 c0) c0)
 (cc (bY m (cU (op:=.add) (cU (op:=.mul) (bU (jv 0) (cU (op:=.mod) (jv 1) (cF aZ bW Z.b_len (ja (jv 0) an)))) ji) (jv 1)))
 c0)))
theorem Ga:OT P w base T k 31 :=
 eD 31 (fn:=vM) (N:=["_law_script","_law_k","_law_many","_law_drawn"]) T IH rfl ⟨rfl,rfl,rfl,by decide +kernel,rfl,by decide +kernel,by decide +kernel⟩ rfl rfl rfl fun bE A outer s H E hr m u c cm ck nd=>by
 exact(cc (sn (i:=3) m nd (cU (op:=.mod) (cU (op:=.mul) (cU (op:=.add) (cU (op:=.add) (bS (c 30 rfl rfl) (ja (jv 0) (ja (jv 1) an))) (cU (op:=.mul) ji (jv 1))) ji) ji) ji))
 (cc (bY m (cU (op:=.mod) (cU (op:=.mod) (cU (op:=.add) (cU (op:=.add) (cU (op:=.mul) (jv 3) (jv 3)) (cU (op:=.mul) ji (jv 3))) (jv 1)) ji) (jv 2)))
 c0))
theorem Hf:OT P w base T k 32 :=
 eD 32 (fn:=zU) (N:=["_law_script","_law_m","_law_many"]) T IH rfl ⟨rfl,rfl,rfl,by decide +kernel,rfl,by decide +kernel,by decide +kernel⟩ rfl rfl rfl fun bE A outer s H E hr m u c cm ck nd=>by
 exact(cc (sg m (cU (op:=.add) (bU (jv 1) ji) ji) (gi (jv 1) ji))
 (cc (bY m (bS (c 31 rfl rfl) (ja (jv 0) (ja (bU (jv 1) ji) (ja (jv 2) an)))))
 c0))
theorem Gi:OT P w base T k 33 :=
 eD 33 (fn:=xJ) (N:=["_law_script","_law_m","_law_some","_law_turn","_law_row","_law_foe","_law_friend"]) T IH rfl ⟨rfl,rfl,rfl,by decide +kernel,rfl,by decide +kernel,by decide +kernel⟩ rfl rfl rfl fun bE A outer s H E hr m u c cm ck nd=>by
 exact(cc (sn (i:=2) m nd (jl (ja js (ja js (ja js (ja js (ja js (ja js (ja js (ja js an))))))))))
 (cc (sn (i:=3) m nd (bS (c 32 rfl rfl) (ja (jv 0) (ja (jv 1) (ja ji an)))))
 (cc (sn (i:=4) m nd (cU (op:=.add) (LS (jv 2) (os (jv 3)) on) (LS (jv 2) on (os (jv 3)))))
 (cc (sn (i:=5) m nd (cU (op:=.add) ji (bS (c 32 rfl rfl) (ja (jv 0) (ja (jv 1) (ja ji an))))))
 (cc (sn (i:=6) m nd (cU (op:=.add) ji (bS (c 32 rfl rfl) (ja (jv 0) (ja (jv 1) (ja ji an))))))
 (cc (bY m (jt m (ja (oQ fA dW Z.b_tuple (ja (LS (jv 4) on (os (jv 5))) an)) (ja (oQ fA dW Z.b_tuple (ja (LS (jv 4) (os (jv 5)) (os (cU (op:=.add) (jv 5) (jv 6)))) an)) an))))
 c0))))))
theorem Fu:OT P w base T k 34 :=
 eD 34 (fn:=uU) (N:=["_law_script","_law_m","_law_names_here","_law_deep","_law_left","_law_way","_law_one"]) T IH rfl ⟨rfl,rfl,rfl,by decide +kernel,rfl,by decide +kernel,by decide +kernel⟩ rfl rfl rfl fun bE A outer s H E hr m u c cm ck nd=>by
 exact(cc (sn (i:=5) m nd (bS (c 32 rfl rfl) (ja (jv 0) (ja (jv 1) (ja ji an)))))
 (cc (fU m (oW (oG m (fH (o:=.eq) u (jv 3) ji) (oZ (fH (o:=.lt) u (jv 5) ji)))) (cc (bY m (jt m (ja js (ja (bU (jv 2) (bS (c 32 rfl rfl) (ja (jv 0) (ja (jv 1) (ja (cF aZ bW Z.b_len (ja (jv 2) an)) an))))) an))))
 c0) c0)
 (cc (fU m (fH (o:=.eq) u (jv 5) ji) (cc (bY m (jt m (ja (bU (jl (ja js (ja js an))) (bS (c 32 rfl rfl) (ja (jv 0) (ja (jv 1) (ja ji an))))) an)))
 c0) c0)
 (cc (fU m (oW (Dr m (fH (o:=.gt) u (jv 5) ji) (oZ (fH (o:=.gt) u (bU (jv 4) ji) ji)))) (cc (sg m (cU (op:=.sub) (bU (jv 4) ji) ji) (gi (jv 4) ji))
 (cc (sn (i:=6) m nd (bS (c 34 rfl rfl) (ja (jv 0) (ja (jv 1) (ja (jv 2) (ja (cU (op:=.sub) (jv 3) ji) (ja (jv 4) an)))))))
 (cc (fU m (fH (o:=.eq) u (jv 5) ji) (cc (bY m (jt m (ja js (ja (jv 6) (ja (bS (c 34 rfl rfl) (ja (jv 0) (ja (jv 1) (ja (jv 2) (ja (cU (op:=.sub) (jv 3) ji) (ja (jv 4) an)))))) an)))))
 c0) c0)
 (cc (bY m (jt m (ja (bU (jl (ja js (ja js (ja js an)))) (cU (op:=.sub) (jv 5) ji)) (ja (jv 6) an))))
 c0)))) c0)
 (cc (sn (i:=6) m nd (bS (c 34 rfl rfl) (ja (jv 0) (ja (jv 1) (ja (jv 2) (ja (cU (op:=.sub) (jv 3) ji) (ja (jv 4) an)))))))
 (cc (fU m (oW (oG m (fH (o:=.eq) u (jv 5) ji) (oZ (fH (o:=.gt) u (jv 5) ji)))) (cc (bY m (jt m (ja js (ja (jv 6) an))))
 c0) c0)
 (cc (bY m (jt m (ja (bU (jl (ja js (ja js (ja js (ja js an))))) (cU (op:=.sub) (jv 5) ji)) (ja (jv 6) (ja (bS (c 34 rfl rfl) (ja (jv 0) (ja (jv 1) (ja (jv 2) (ja (cU (op:=.sub) (jv 3) ji) (ja (jv 4) an)))))) an)))))
 c0)))))))
theorem Ft:OT P w base T k 35 :=
 eD 35 (fn:=rZ) (N:=["_law_script","_law_m","_law_foe","_law_names_here","_law_left","_law_one","_law_other"]) T IH rfl ⟨rfl,rfl,rfl,by decide +kernel,rfl,by decide +kernel,by decide +kernel⟩ rfl rfl rfl fun bE A outer s H E hr m u c cm ck nd=>by
 exact(cc (sn (i:=5) m nd (bS (c 34 rfl rfl) (ja (jv 0) (ja (jv 1) (ja (jv 2) (ja ji (ja (jl (ja ji an)) an)))))))
 (cc (fU m (oW (Dr m (fH (o:=.gt) u (bU (jv 4) ji) ji) (oZ (fH (o:=.eq) u (bS (c 32 rfl rfl) (ja (jv 0) (ja (jv 1) (ja ji an)))) ji)))) (cc (sg m (cU (op:=.sub) (bU (jv 4) ji) ji) (gi (jv 4) ji))
 (cc (sn (i:=6) m nd (bS (c 34 rfl rfl) (ja (jv 0) (ja (jv 1) (ja (jv 3) (ja ji (ja (jl (ja ji an)) an)))))))
 (cc (bY m (jt m (ja (bU (jl (ja js (ja js (ja js an)))) (bS (c 32 rfl rfl) (ja (jv 0) (ja (jv 1) (ja ji an))))) (ja (jt m (ja js (ja (jv 6) an))) (ja (jv 5) an)))))
 c0))) c0)
 (cc (bY m (jv 5))
 c0)))
noncomputable abbrev Df:List Str:=["_law_script","_law_at","_law_pieces","_law_musts","_law_m","_law_foe","_law_friend","_law_names_here","_law_left","_law_wishes","_law_k","_law_price","_law_some","_law_known"]
theorem Gf:OT P w base T k 36 :=
 eD 36 (fn:=zB) (N:=Df) T IH rfl ⟨rfl,rfl,rfl,by decide +kernel,rfl,by decide +kernel,by decide +kernel⟩ rfl rfl rfl fun bE A outer s H E hr m u c cm ck nd=>by
 exact(cc (E5 (i:=4) m nd (jl (ja (jv 1) an)))
 (cc (sg m (bS (c 33 rfl rfl) (ja (cT 0) (ja (cT 4) an))) (gt (gc (Pp (i:=5) nd) (gc (gn (i:=6) nd) nn))))
 (cc (E5 (i:=7) m nd (cU (op:=.add) (cT 5) (jv 6)))
 (cc (E5 (i:=8) m nd (jl (ja (bS (c 32 rfl rfl) (ja (cT 0) (ja (cT 4) (ja (cU (op:=.add) (jv 2) ji) an)))) an)))
 (cc (sn (i:=9) m nd (jl an))
 (cc (uT (i:=10) m nd (zE m Z.b_range (ja (cU (op:=.add) ji (bS (c 32 rfl rfl) (ja (cT 0) (ja (cT 4) (ja ji an))))) an)) (cc (sn (i:=11) m nd (cU (op:=.add) ji (bS (c 32 rfl rfl) (ja (cT 0) (ja (cT 4) (ja (bU (jl (ja ji (ja ji (ja ji an)))) (bS (c 32 rfl rfl) (ja (cT 0) (ja (cT 4) (ja ji an))))) an))))))
 (cc (sx m (vV (jv 9) (ja (jt m (ja (jv 11) (ja (bS (c 34 rfl rfl) (ja (cT 0) (ja (cT 4) (ja (cT 7) (ja ji (ja (cT 8) an)))))) an))) an)))
 c0)))
 (cc (Bt (i:=12) m nd (own:=["_law_k"]) (cn:=["_law_script","_law_m","_law_names_here","_law_left"]) (aK:=[0,4,7,8]) (one:=true) (mX (on:=(aI (cI 36)).names) (N:=Df) (by decide +kernel)) (zE m Z.b_range (ja (bS (c 32 rfl rfl) (ja (cT 0) (ja (cT 4) (ja (cU (op:=.add) (jv 3) ji) an)))) an)) (fun _ _ _ _=>(b1 (gn (show(["_law_k","_law_script","_law_m","_law_names_here","_law_left"]:List Str).Nodup by decide +kernel)))) (fun _ _ _ _=>qn) (fun _ _ _ _=>(bS ((c 34 rfl rfl).sZ) (ja (cT 1) (ja (cT 2) (ja (cT 3) (ja ji (ja (cT 4) an))))))))
 (cc (Bt (i:=13) m nd (own:=["_law_k"]) (cn:=["_law_script","_law_m","_law_foe","_law_names_here","_law_left"]) (aK:=[0,4,5,7,8]) (one:=true) (mX (on:=(aI (cI 36)).names) (N:=Df) (by decide +kernel)) (zE m Z.b_range (ja (bS (c 32 rfl rfl) (ja (cT 0) (ja (cT 4) (ja ji an)))) an)) (fun _ _ _ _=>(b1 (gn (show(["_law_k","_law_script","_law_m","_law_foe","_law_names_here","_law_left"]:List Str).Nodup by decide +kernel)))) (fun _ _ _ _=>qn) (fun _ _ _ _=>(bS ((c 35 rfl rfl).sZ) (ja (cT 1) (ja (cT 2) (ja (cT 3) (ja (cT 4) (ja (cT 5) an))))))))
 (cc (bY m (jt m (ja (cT 5) (ja (jv 6) (ja (oQ fA dW Z.b_tuple (ja (jv 13) an)) (ja (oQ fA dW Z.b_tuple (ja (jv 12) an)) (ja (oQ fA dW Z.b_tuple (ja (jv 9) an)) an)))))))
 c0)))))))))
theorem Hg:OT P w base T k 37 :=
 eD 37 (fn:=qT) (N:=["_law_many","_law_rows","_law_turn","_law_more","_law_row"]) T IH rfl ⟨rfl,rfl,rfl,by decide +kernel,rfl,by decide +kernel,by decide +kernel⟩ rfl rfl rfl fun bE A outer s H E hr m u c cm ck nd=>by
 exact(cc (sn (i:=1) m nd (jl (ja (jt m an) an)))
 (cc (uT (i:=2) m nd (zE m Z.b_range (ja (jv 0) an)) (cc (sn (i:=3) m nd (jl an))
 (cc (uT (i:=4) m nd (iv (jv 1)) (cc (sx m (Km (jv 3) (ja (jl (ja (cU (op:=.add) (jv 4) (jt m (ja jb an))) (ja (cU (op:=.add) (jv 4) (jt m (ja jb an))) an))) an)))
 c0))
 (cc (sn (i:=1) m nd (jv 3))
 c0))))
 (cc (bY m (jv 1))
 c0)))
theorem Hw:OT P w base T k 38 :=
 eD 38 (fn:=sU) (N:=["_law_script","_law_at","_law_foe","_law_friend","_law_most","_law_many","_law_some","_law_stands","_law_k","_law_row","_law_j","_law_cell"]) T IH rfl ⟨rfl,rfl,rfl,by decide +kernel,rfl,by decide +kernel,by decide +kernel⟩ rfl rfl rfl fun bE A outer s H E hr m u c cm ck nd=>by
 exact(cc (sn (i:=5) m nd (cU (op:=.add) ji (bS (c 31 rfl rfl) (ja (jv 0) (ja (jv 1) (ja (jv 4) an))))))
 (cc (sn (i:=6) m nd (bS (c 37 rfl rfl) (ja (jv 3) an)))
 (cc (sn (i:=7) m nd (jl an))
 (cc (uT (i:=8) m nd (zE m Z.b_range (ja (jv 5) an)) (cc (sn (i:=9) m nd (jl an))
 (cc (uT (i:=10) m nd (zE m Z.b_range (ja (cF aZ bW Z.b_len (ja (bS (c 37 rfl rfl) (ja (jv 2) an)) an)) an)) (cc (sn (i:=11) m nd (bS (c 31 rfl rfl) (ja (jv 0) (ja (cU (op:=.add) (cU (op:=.add) (cU (op:=.add) (jv 1) ji) (cU (op:=.mul) ji (jv 8))) (jv 10)) (ja (cU (op:=.mul) ji (jv 5)) an)))))
 (cc (sx m (vV (jv 9) (ja (jt m (ja (bU (jv 6) (cU (op:=.mod) (cU (op:=.mod) (jv 11) ji) (cF aZ bW Z.b_len (ja (jv 6) an)))) (ja (cU (op:=.fdiv) (jv 11) ji) an))) an)))
 c0)))
 (cc (sx m (vV (jv 7) (ja (oQ fA dW Z.b_tuple (ja (jv 9) an)) an)))
 c0))))
 (cc (bY m (oQ fA dW Z.b_tuple (ja (jv 7) an)))
 c0)))))
theorem Iu:OT P w base T k 39 :=
 eD 39 (fn:=wG) (N:=["_law_found"]) T IH rfl ⟨rfl,rfl,rfl,by decide +kernel,rfl,by decide +kernel,by decide +kernel⟩ rfl rfl rfl fun bE A outer s H E hr m u c cm ck nd=>by
 exact(cc (bY m (jU (pK (t:=.int) HD Z.b_isinstance Z.b_int (jv 0)) (oM (U4 (pK (t:=.bool) yR Z.b_isinstance Z.b_bool (jv 0))))))
 c0)
theorem Jv:OT P w base T k 40 :=
 eD 40 (fn:=oX) (N:=["_law_thing","_law_foe","_law_friend","_law_stand","_law_pair"]) T IH rfl ⟨rfl,rfl,rfl,by decide +kernel,rfl,by decide +kernel,by decide +kernel⟩ rfl rfl rfl fun bE A outer s H E hr m u c cm ck nd=>by
 exact(cc (fU m (oW (oG m (mG (tp (pK (t:=.tuple) dW Z.b_isinstance Z.b_tuple (jv 0)))) (oZ (mG (Qb (o:=.le) (o':=.le) u ji (cF aZ bW Z.b_len (ja (jv 0) an)) ji))))) (cc (bY m jb)
 c0) c0)
 (cc (uT (i:=3) m nd (iv (jv 0)) (cc (fU m (oW (oG m (mG (tp (pK (t:=.tuple) dW Z.b_isinstance Z.b_tuple (jv 3)))) (oZ (fH (o:=.ne) u (cF aZ bW Z.b_len (ja (jv 3) an)) (cF aZ bW Z.b_len (ja (bS (c 37 rfl rfl) (ja (jv 1) an)) an)))))) (cc (bY m jb)
 c0) c0)
 (cc (uT (i:=4) m nd (iv (jv 3)) (cc (fU m (oW (oG m (mG (tp (pK (t:=.tuple) dW Z.b_isinstance Z.b_tuple (jv 4)))) (oG m (fH (o:=.ne) u (cF aZ bW Z.b_len (ja (jv 4) an)) ji) (oZ (fH (o:=.gE) u (bU (jv 4) ji) (bS (c 37 rfl rfl) (ja (jv 2) an))))))) (cc (bY m jb)
 c0) c0)
 (cc (fU m (oW (oG m (mG (tp (bS (c 39 rfl rfl) (ja (bU (jv 4) ji) an)))) (oG m (fH (o:=.lt) u (bU (jv 4) ji) ji) (oZ (fH (o:=.ge) u (bU (jv 4) ji) (cF aZ bW Z.b_len (ja (jv 0) an))))))) (cc (bY m jb)
 c0) c0)
 c0)))
 c0)))
 (cc (bY m jb)
 c0)))
theorem Ig:OT P w base T k 41 :=
 eD 41 (fn:=pT) (N:=["_law_machine_here","_law_one","_law_other","_law_row","_law_met","_law_at","_law_here","_law_there","_law_first","_law_second"]) T IH rfl ⟨rfl,rfl,rfl,by decide +kernel,rfl,by decide +kernel,by decide +kernel⟩ rfl rfl rfl fun bE A outer s H E hr m u c cm ck nd=>by
 exact(cc (sn (i:=3) m nd (jl (ja (jt m (ja (jv 1) (ja (jv 2) an))) an)))
 (cc (sn (i:=4) m nd (Kx u (jt m (ja (jv 1) (ja (jv 2) an))) jb))
 (cc (sn (i:=5) m nd ji)
 (cc (sw m (fH (o:=.lt) u (jv 5) (cF aZ bW Z.b_len (ja (jv 3) an))) (cc (sg m (bU (jv 3) (jv 5)) (gt (gc (gn (i:=6) nd) (gc (gn (i:=7) nd) nn))))
 (cc (sf m (Kw m Z.b_zip (ja (bU (jv 0) (jv 6)) (ja (bU (jv 0) (jv 7)) an))) (gt (gc (gn (i:=8) nd) (gc (gn (i:=9) nd) nn))) (cc (fU m (fH (o:=.ne) u (bU (jv 8) ji) (bU (jv 9) ji)) (cc (bY m jb)
 c0) c0)
 (cc (fU m (Ki u (jt m (ja (bU (jv 8) ji) (ja (bU (jv 9) ji) an))) (jv 4)) (cc (Ky m u (jv 4) (jt m (ja (bU (jv 8) ji) (ja (bU (jv 9) ji) an))) jb)
 (cc (sx m (vV (jv 3) (ja (jt m (ja (bU (jv 8) ji) (ja (bU (jv 9) ji) an))) an)))
 c0)) c0)
 c0)))
 (cc (sn (i:=5) m nd (cU (op:=.add) (jv 5) ji))
 c0))))
 (cc (bY m jb)
 c0)))))
theorem Hj:OT P w base T k 42 :=
 eD 42 (fn:=qS) (N:=["_law_machine_here","_law_row","_law_k","_law_friend","_law_to","_law_one","_law_other"]) T IH rfl ⟨rfl,rfl,rfl,by decide +kernel,rfl,by decide +kernel,by decide +kernel⟩ rfl rfl rfl fun bE A outer s H E hr m u c cm ck nd=>by
 exact(cc (sn (i:=1) m nd (jl (ja ji an)))
 (cc (uT (i:=2) m nd (zE m Z.b_range (ja (cF aZ bW Z.b_len (ja (jv 0) an)) an)) (cc (fU m (fH (o:=.ge) u (jv 2) (cF aZ bW Z.b_len (ja (jv 1) an))) (cc (bY m jb)
 c0) c0)
 (cc (sf m (iv (bU (jv 0) (bU (jv 1) (jv 2)))) (gt (gc (gn (i:=3) nd) (gc (gn (i:=4) nd) nn))) (cc (fU m (fH (o:=.gE) u (jv 4) (jv 1)) (cc (sx m (vV (jv 1) (ja (jv 4) an)))
 c0) c0)
 c0))
 c0)))
 (cc (fU m (fH (o:=.ne) u (jv 1) (Pd m Z.b_list Z.b_range (ja (cF aZ bW Z.b_len (ja (jv 0) an)) an))) (cc (bY m jb)
 c0) c0)
 (cc (uT (i:=5) m nd (zE m Z.b_range (ja (cF aZ bW Z.b_len (ja (jv 0) an)) an)) (cc (uT (i:=6) m nd (zE m Z.b_range (ja (jv 5) an)) (cc (fU m (mG (tp (bS (c 41 rfl rfl) (ja (jv 0) (ja (jv 5) (ja (jv 6) an)))))) (cc (bY m jb)
 c0) c0)
 c0))
 c0))
 (cc (bY m jb)
 c0)))))
theorem Gb:OT P w base T k 43 :=
 eD 43 (fn:=zS) (N:=["_law_one","_law_other","_law_row","_law_at","_law_first","_law_second"]) T IH rfl ⟨rfl,rfl,rfl,by decide +kernel,rfl,by decide +kernel,by decide +kernel⟩ rfl rfl rfl fun bE A outer s H E hr m u c cm ck nd=>by
 exact(cc (sn (i:=2) m nd (jl (ja (jt m (ja ji (ja ji an))) an)))
 (cc (sn (i:=3) m nd ji)
 (cc (sw m (fH (o:=.lt) u (jv 3) (cF aZ bW Z.b_len (ja (jv 2) an))) (cc (sf m (Kw m Z.b_zip (ja (bU (jv 0) (bU (bU (jv 2) (jv 3)) ji)) (ja (bU (jv 1) (bU (bU (jv 2) (jv 3)) ji)) an))) (gt (gc (gn (i:=4) nd) (gc (gn (i:=5) nd) nn))) (cc (fU m (fH (o:=.ne) u (bU (jv 4) ji) (bU (jv 5) ji)) (cc (bY m jb)
 c0) c0)
 (cc (fU m (fH (o:=.gE) u (jt m (ja (bU (jv 4) ji) (ja (bU (jv 5) ji) an))) (jv 2)) (cc (sx m (vV (jv 2) (ja (jt m (ja (bU (jv 4) ji) (ja (bU (jv 5) ji) an))) an)))
 c0) c0)
 c0)))
 (cc (sn (i:=3) m nd (cU (op:=.add) (jv 3) ji))
 c0)))
 (cc (bY m jb)
 c0))))
theorem Ip:OT P w base T k 44 :=
 eD 44 (fn:=UR) (N:=["_law_script","_law_book_here","_law_machine_here","_law_answer"]) T IH rfl ⟨rfl,rfl,rfl,by decide +kernel,rfl,by decide +kernel,by decide +kernel⟩ rfl rfl rfl fun bE A outer s H E hr m u c cm ck nd=>by
 exact(cc (sn (i:=1) m nd (bS (c 36 rfl rfl) (ja (jv 0) (ja ji (ja ji (ja ji an))))))
 (cc (sn (i:=2) m nd (bS (c 38 rfl rfl) (ja (jv 0) (ja ji (ja (cF aZ bW Z.b_len (ja (bU (jv 1) ji) an)) (ja (cF aZ bW Z.b_len (ja (bU (jv 1) ji) an)) (ja ji an)))))))
 (cc (sn (i:=3) m nd (bS (c 29 rfl rfl) (ja (jv 1) (ja (jv 2) an))))
 (cc (fU m (oW (oG m (mG (tp (bS (c 40 rfl rfl) (ja (jv 3) (ja (cF aZ bW Z.b_len (ja (bU (jv 1) ji) an)) (ja (cF aZ bW Z.b_len (ja (bU (jv 1) ji) an)) an)))))) (oZ (mG (tp (bS (c 43 rfl rfl) (ja (jv 2) (ja (jv 3) an)))))))) (cc (bY m jb)
 c0) c0)
 (cc (bY m (jU (bS (c 42 rfl rfl) (ja (jv 3) an)) (oM (EN (o:=.eq) u (bS (c 29 rfl rfl) (ja (jv 1) (ja (jv 3) an))) (jv 3)))))
 c0)))))
theorem Kb:nK P w K mg base (2*k+1+1) (aJ G (k+1)) 45 :=
 YJ (T:=dQ) (n:=3) (x:=(.call kU [(.ix (.v 1) (.v 2)),(.v 0)])) rfl SA rfl rfl (fun _ _ _ _ us hl=>match us,hl with|[_],_=>rfl) fun clos a c' A outer s H hr=>by
 have m:=gM G (av k)
 have u:=FQ hr
 have c:=xP (X:=QN P w K mg base dQ clos a c' A outer s H) T IH rfl rfl rfl rfl rfl hr
 have cm:=yD (X:=QN P w K mg base dQ clos a c' A outer s H) T IH rfl rfl rfl rfl rfl hr
 exact(bS (c 26 rfl rfl) (ja (bU (Kz 1) (jv 2)) (ja (Kz 0) an)))
theorem Lp:∀ f Tx,LT f=some Tx->nK P w K mg base (2*k+1+1) (aJ G (k+1)) f:=by
 intro f Tx h
 unfold LT at h
 split at h
 ·exact Kb T Z IH
 ·cases h
end
theorem Ot {k:Nat}(T:TT K mg)(Z:Zt K mg)(B:rO mg base)(TC:∀ i,i<45->∀ c,OM i=some c->(T.fd i).code=.ref c)(IH:IT P w base T k)(IL:Aw P w K mg base k):∀ i,i<45->OT P w base T k i
 |0,_=>Nx T Z IH
 |1,_=>Nr T Z IH
 |2,_=>Mm T Z IH
 |3,_=>Lw T Z IH
 |4,_=>Oi T Z IH
 |5,_=>Mv T Z IH
 |6,_=>Mz T Z IH
 |7,_=>Ol T Z IH
 |8,_=>Nt T Z IH
 |9,_=>Oh T Z IH
 |10,_=>Hx T Z IH
 |11,_=>Jk T Z IH
 |12,_=>Fs T Z IH
 |13,_=>Gh T Z IH
 |14,_=>Hu T Z IH
 |15,_=>Gn T Z IH
 |16,_=>Gy T Z IH
 |17,_=>Jx T Z IH
 |18,_=>Ir T Z IH
 |19,_=>Js T Z IH
 |20,_=>Fv T Z IH
 |21,_=>Gj T Z IH
 |22,_=>Ii T Z IH
 |23,_=>Gm T Z IH
 |24,_=>Jy T Z IH
 |25,_=>Gv T Z IH IL
 |26,_=>Jj T Z IH
 |27,_=>Hl T Z IH
 |28,_=>Hs T Z IH B TC
 |29,_=>Ik T Z IH
 |30,_=>Jf T Z IH
 |31,_=>Ga T Z IH
 |32,_=>Hf T Z IH
 |33,_=>Gi T Z IH
 |34,_=>Fu T Z IH
 |35,_=>Ft T Z IH
 |36,_=>Gf T Z IH
 |37,_=>Hg T Z IH
 |38,_=>Hw T Z IH
 |39,_=>Iu T Z IH
 |40,_=>Jv T Z IH
 |41,_=>Ig T Z IH
 |42,_=>Hj T Z IH
 |43,_=>Gb T Z IH
 |44,_=>Ip T Z IH
 |n+45,h=>absurd h (by omega)
end
theorem SK:∀(ns:List Int)(st:aA),ns.length<=63->(∀ p∈[(dR,238)],∃ P,st P=some (.cod p.1))->aJ G 17 UQ [.bL (ns.map .int)] st (fun d _=>d=.bl true) fun _ _=>False:=fun ns st _ hc =>
 Hb (G:=G) (κ:=dR) (ila:=UQ) (ibo:=zQ) (ilm:=sS) (ile:=IC) (iim:=pC) (isa:=zA) (ils:=qR) (inm:=wF) (dD:=kQ) (is:=kX) (ipr:=sM) (im:=pO) (ic:=sJ) (is8:=mL) (iles:=qK) (ilea:=wK) (ifr:=rS) (ilam:=kJ) (iww:=kU) (ini:=mM) (ino:=lT) (icm:=pB) (ich:=E3) (ima:=vF) (ibk:=wB) (ir:=iJ) (isd:=BN) (ise:=uR) (iwy:=IA) (ist:=vE) (ipl:=BU) (iwh:=xA) (iap:=pM)
 rfl rfl rfl rfl rfl rfl rfl rfl rfl rfl rfl ⟨rfl,rfl,rfl,rfl,rfl,rfl,rfl⟩ rfl rfl
 (fun b B hs hd hc k st Q E hQ=>MV (G:=G) (ir:=iJ) (gU:=vG) (fI:=jZ) (iy:=rJ) (ia:=oU) (iap:=sN) (io:=xF) (il:=zK) (iaw:=wA) (ipi:=zD) (ip:=CN) (iw:=EU) (ibk:=wB) (ih:=lC) (ib:=oO) rfl rfl rfl rfl rfl rfl rfl rfl rfl rfl rfl rfl rfl rfl rfl B hs hd hc hQ)
 rfl rfl rfl rfl rfl rfl rfl rfl rfl rfl rfl rfl ns (hc (dR,238) (by simp)) (fun _=>rfl)
theorem sO {α:Type}{P:List α->Prop}(h:∀ a0,P [a0]):∀ us:List α,us.length=1->P us
 |[a0],_=>h a0
theorem ln2 {α:Type}{P:List α->Prop}(h:∀ a0 a1,P [a0,a1]):∀ us:List α,us.length=2->P us
 |[a0,a1],_=>h a0 a1
theorem vL {α:Type}{P:List α->Prop}(h:∀ a0 a1 a2,P [a0,a1,a2]):∀ us:List α,us.length=3->P us
 |[a0,a1,a2],_=>h a0 a1 a2
theorem Pb {α:Type}{P:List α->Prop}(h:∀ a0 a1 a2 a3,P [a0,a1,a2,a3]):∀ us:List α,us.length=4->P us
 |[a0,a1,a2,a3],_=>h a0 a1 a2 a3
theorem Dv {α:Type}{P:List α->Prop}(h:∀ a0 a1 a2 a3 a4,P [a0,a1,a2,a3,a4]):∀ us:List α,us.length=5->P us
 |[a0,a1,a2,a3,a4],_=>h a0 a1 a2 a3 a4
theorem Lb:∀ i,i<45->C5 (oY i) (fT i) (mJ i) (cI i)
 |0,_=>fun _ _ _ _ _ _=>sO fun _=>rfl
 |1,_=>fun _ _ _ _ _ _=>ln2 fun _ _=>rfl
 |2,_=>fun _ _ _ _ _ _=>vL fun _ _ _=>rfl
 |3,_=>fun _ _ _ _ _ _=>sO fun _=>rfl
 |4,_=>fun _ _ _ _ _ _=>sO fun _=>rfl
 |5,_=>fun _ _ _ _ _ _=>vL fun _ _ _=>rfl
 |6,_=>fun _ _ _ _ _ _=>ln2 fun _ _=>rfl
 |7,_=>fun _ _ _ _ _ _=>vL fun _ _ _=>rfl
 |8,_=>fun _ _ _ _ _ _=>ln2 fun _ _=>rfl
 |9,_=>fun _ _ _ _ _ _=>vL fun _ _ _=>rfl
 |10,_=>fun _ _ _ _ _ _=>sO fun _=>rfl
 |11,_=>fun _ _ _ _ _ _=>ln2 fun _ _=>rfl
 |12,_=>fun _ _ _ _ _ _=>ln2 fun _ _=>rfl
 |13,_=>fun _ _ _ _ _ _=>vL fun _ _ _=>rfl
 |14,_=>fun _ _ _ _ _ _=>sO fun _=>rfl
 |15,_=>fun _ _ _ _ _ _=>sO fun _=>rfl
 |16,_=>fun _ _ _ _ _ _=>ln2 fun _ _=>rfl
 |17,_=>fun _ _ _ _ _ _=>sO fun _=>rfl
 |18,_=>fun _ _ _ _ _ _=>ln2 fun _ _=>rfl
 |19,_=>fun _ _ _ _ _ _=>ln2 fun _ _=>rfl
 |20,_=>fun _ _ _ _ _ _=>ln2 fun _ _=>rfl
 |21,_=>fun _ _ _ _ _ _=>vL fun _ _ _=>rfl
 |22,_=>fun _ _ _ _ _ _=>vL fun _ _ _=>rfl
 |23,_=>fun _ _ _ _ _ _=>ln2 fun _ _=>rfl
 |24,_=>fun _ _ _ _ _ _=>ln2 fun _ _=>rfl
 |25,_=>fun _ _ _ _ _ _=>ln2 fun _ _=>rfl
 |26,_=>fun _ _ _ _ _ _=>ln2 fun _ _=>rfl
 |27,_=>fun _ _ _ _ _ _=>sO fun _=>rfl
 |28,_=>fun _ _ _ _ _ _=>sO fun _=>rfl
 |29,_=>fun _ _ _ _ _ _=>ln2 fun _ _=>rfl
 |30,_=>fun _ _ _ _ _ _=>ln2 fun _ _=>rfl
 |31,_=>fun _ _ _ _ _ _=>vL fun _ _ _=>rfl
 |32,_=>fun _ _ _ _ _ _=>vL fun _ _ _=>rfl
 |33,_=>fun _ _ _ _ _ _=>ln2 fun _ _=>rfl
 |34,_=>fun _ _ _ _ _ _=>Dv fun _ _ _ _ _=>rfl
 |35,_=>fun _ _ _ _ _ _=>Dv fun _ _ _ _ _=>rfl
 |36,_=>fun _ _ _ _ _ _=>Pb fun _ _ _ _=>rfl
 |37,_=>fun _ _ _ _ _ _=>sO fun _=>rfl
 |38,_=>fun _ _ _ _ _ _=>Dv fun _ _ _ _ _=>rfl
 |39,_=>fun _ _ _ _ _ _=>sO fun _=>rfl
 |40,_=>fun _ _ _ _ _ _=>vL fun _ _ _=>rfl
 |41,_=>fun _ _ _ _ _ _=>vL fun _ _ _=>rfl
 |42,_=>fun _ _ _ _ _ _=>sO fun _=>rfl
 |43,_=>fun _ _ _ _ _ _=>ln2 fun _ _=>rfl
 |44,_=>fun _ _ _ _ _ _=>sO fun _=>rfl
 |n+45,h=>absurd h (by omega)
noncomputable abbrev FF (K:aa)(mg:Str->Option af)(i:Nat):=sD K mg (oY i) (fT i) (cI i) (mN i) (OM i)
theorem Pn {K:aa}{mg:Str->Option af}(F0:FF K mg 0)(F1:FF K mg 1)(F2:FF K mg 2)(F3:FF K mg 3)(F4:FF K mg 4)(F5:FF K mg 5)(F6:FF K mg 6)(F7:FF K mg 7)(F8:FF K mg 8)(F9:FF K mg 9)(F10:FF K mg 10)(F11:FF K mg 11)(F12:FF K mg 12)(F13:FF K mg 13)(F14:FF K mg 14)(F15:FF K mg 15)(F16:FF K mg 16)(F17:FF K mg 17)(F18:FF K mg 18)(F19:FF K mg 19)(F20:FF K mg 20)(F21:FF K mg 21)(F22:FF K mg 22)(F23:FF K mg 23)(F24:FF K mg 24)(F25:FF K mg 25)(F26:FF K mg 26)(F27:FF K mg 27)(F28:FF K mg 28)(F29:FF K mg 29)(F30:FF K mg 30)(F31:FF K mg 31)(F32:FF K mg 32)(F33:FF K mg 33)(F34:FF K mg 34)(F35:FF K mg 35)(F36:FF K mg 36)(F37:FF K mg 37)(F38:FF K mg 38)(F39:FF K mg 39)(F40:FF K mg 40)(F41:FF K mg 41)(F42:FF K mg 42)(F43:FF K mg 43)(F44:FF K mg 44):∀ i,i<45->sD K mg (oY i) (fT i) (cI i) (mN i) (OM i)
 |0,_=>F0
 |1,_=>F1
 |2,_=>F2
 |3,_=>F3
 |4,_=>F4
 |5,_=>F5
 |6,_=>F6
 |7,_=>F7
 |8,_=>F8
 |9,_=>F9
 |10,_=>F10
 |11,_=>F11
 |12,_=>F12
 |13,_=>F13
 |14,_=>F14
 |15,_=>F15
 |16,_=>F16
 |17,_=>F17
 |18,_=>F18
 |19,_=>F19
 |20,_=>F20
 |21,_=>F21
 |22,_=>F22
 |23,_=>F23
 |24,_=>F24
 |25,_=>F25
 |26,_=>F26
 |27,_=>F27
 |28,_=>F28
 |29,_=>F29
 |30,_=>F30
 |31,_=>F31
 |32,_=>F32
 |33,_=>F33
 |34,_=>F34
 |35,_=>F35
 |36,_=>F36
 |37,_=>F37
 |38,_=>F38
 |39,_=>F39
 |40,_=>F40
 |41,_=>F41
 |42,_=>F42
 |43,_=>F43
 |44,_=>F44
 |n+45,h=>absurd h (by omega)
theorem all_mk {P:br}{w:dg}{K:aa}{mg:Str->Option af}{fa:Addr}(hfa:mg "law" = some (.ref fa))(Z:Zt K mg)(F:∀ i,i<45->sD K mg (oY i) (fT i) (cI i) (mN i) (OM i)):
 ∃ fd:gw,(∀(s:ah)(u:af),yp s fd ⟨[u],[]⟩ [("_law_script", u)])/\∀ base:Heap,K.In base->base.Ns cw mg->rO mg base->fJ P w K mg base dB (2*17) fa fd ["_law_script"] (fO K (aJ G 17) 44):=by
 obtain⟨_,d,_⟩:=F 0 (by decide)
 obtain⟨T,TC⟩:=GN 45 Lb F d
 have e:=hfa.symm.trans (show mg "law" = some (.ref (T.a 44))from T.mg 44 (by decide))
 cases e
 exact⟨T.fd 44,MG (T.fn 44 (by decide)) (Lb 44 (by decide)),fun base _ _ B=>(C4 T (fun k IH IL=>⟨Ot T Z B TC IH IL,Lp T Z IH⟩) 17).1 44 (by decide)⟩
end L3
open PySem PySem.W PyProof.Rows
local macro_rules|`(tactic| walk_at"ft")=>`(tactic| (refine' L3.qZ.Dc (L3.Ge (by assumption) (by assumption) ?a ?l ?c ?k);(case a=>k_is);(case l=>k_is);(case c=>k_is);(case k=>k_is)))
local macro_rules|`(tactic| walk_at"fi")=>`(tactic| (refine' L3.qZ.Dc (L3.Iz (by assumption) (by assumption) ?cl ?mk ?kp ?a ?fn ?l ?cc ?k);(case cl=>k_is);(case mk=>k_is);(case kp=>k_is);(case a=>k_is);(case fn=>k_is);(case l=>k_is);(case cc=>k_is);(case k=>k_is)))
local macro_rules|`(tactic| walk_at"fm")=>`(tactic| (refine' L3.qZ.Dc (L3.Jc (by assumption) (by assumption) ?cl ?pg ?hd ?po ?sa ?a ?fn ?l ?cc ?k);(case cl=>k_is);(case pg=>k_is);(case hd=>k_is);(case po=>k_is);(case sa=>k_is);(case a=>k_is);(case fn=>k_is);(case l=>k_is);(case cc=>k_is);(case k=>k_is)))
local macro_rules|`(tactic| walk_at"fc")=>`(tactic| (refine' L3.Cm ?cl ?pg ?hd ?po ?sa;(case cl=>k_is);(case pg=>k_is);(case hd=>k_is);(case po=>k_is);(case sa=>k_is)))
local macro_rules|`(tactic| walk_at"fa")=>`(tactic| (refine' L3.Ap ?cl ?na;(case cl=>k_is);(case na=>k_is)))
local macro_rules|`(tactic| walk_at"fn")=>`(tactic| (refine' PySem.W.mg_none_of (by assumption) (by assumption) ?x;(case x=>k_is)))
local macro_rules|`(tactic| walk_at"fg")=>`(tactic| (refine' L3.En (by assumption) (by assumption) ?a;(case a=>k_is)))
namespace PySem.W.Fast
def tw1338318680797363452:Unit:=()
def tw13126133389017885050:Unit:=()
def tw4927618275634418049:Unit:=()
def tw12190904973988043404:Unit:=()
def tw13063196314747862241:Unit:=()
def tw4110215780042402688:Unit:=()
def tw695789162977135855:Unit:=()
def tw16121321889717028121:Unit:=()
def tw733595755286674521:Unit:=()
def tw18176207405692099384:Unit:=()
def tw8375060030755190555:Unit:=()
def tw3158955580157908224:Unit:=()
def tw230576847830288657:Unit:=()
def tw11648924066947344242:Unit:=()
def tw6902751099718292380:Unit:=()
def tw762270189786760446:Unit:=()
def tw3493384641023207031:Unit:=()
def tw15984576768470759756:Unit:=()
def tw3758091932252682168:Unit:=()
def tw16377150145536890951:Unit:=()
def tw6676921592605140101:Unit:=()
def tw9638548756053617277:Unit:=()
def tw17783409176071854042:Unit:=()
def tw1098706754565274807:Unit:=()
def tw7230994203297353224:Unit:=()
def tw11923313333527760914:Unit:=()
def tw17355644149412707463:Unit:=()
def tw5428593589308901228:Unit:=()
def tw5602778880827711469:Unit:=()
def tw118709947352967336:Unit:=()
def tw14717520236466925708:Unit:=()
def tw3485524601419929552:Unit:=()
def tw8697264678042633883:Unit:=()
def tw5104730752207441284:Unit:=()
def tw13543401338710672342:Unit:=()
def tw3775120011128465847:Unit:=()
def tw7184550949573062131:Unit:=()
def tw9784734859542257625:Unit:=()
def tw12839545637161121219:Unit:=()
def tw3920038931244995011:Unit:=()
def tw13673221290474251204:Unit:=()
def tw2538941453439580380:Unit:=()
def tw17814046874514214725:Unit:=()
def tw12496609682870601343:Unit:=()
def tw2793554777152174503:Unit:=()
def tw2463865884215822396:Unit:=()
def tw8940929667747977068:Unit:=()
def tw15136750235593326302:Unit:=()
def tw14320337396126503314:Unit:=()
def tw665070873851166059:Unit:=()
def tw2137324558024078997:Unit:=()
def tw971137820226124456:Unit:=()
def tw5232397010261462493:Unit:=()
def tw15188553864740472335:Unit:=()
def tw986827818033348649:Unit:=()
def tw16836247778509754359:Unit:=()
def tw17213227366670921235:Unit:=()
def tw1029186766587893942:Unit:=()
def tw17458842907035379572:Unit:=()
def tw3597861314600921194:Unit:=()
def tw9445888133042610514:Unit:=()
def tw15634290319378166427:Unit:=()
def tw15640148187682981210:Unit:=()
def tw7264523850434050210:Unit:=()
def tw2768550978040469617:Unit:=()
def tw10640126261936455849:Unit:=()
def tw3533606497778217949:Unit:=()
def tw17955916291195748153:Unit:=()
def tw14987206140307770825:Unit:=()
def tw15844927990504113585:Unit:=()
def tw4586555529837271376:Unit:=()
def tw541891842726023532:Unit:=()
def tw7310916102112692093:Unit:=()
def tw8957607018018826484:Unit:=()
def tw314967095795455007:Unit:=()
def tw11507827034699042719:Unit:=()
def tw5942788026375784375:Unit:=()
def tw7895400309261231051:Unit:=()
def tw10948006436636252349:Unit:=()
def tw14937907131762480001:Unit:=()
def tw14995620453139050811:Unit:=()
def tw17755776446326345338:Unit:=()
def tw6531526689925949815:Unit:=()
def tw307937400685655730:Unit:=()
end PySem.W.Fast
set_option maxRecDepth 100000 in
set_option maxHeartbeats 0 in
theorem PySem.Challenge.cw_leastloss_k20_whole_lesser_holds : PySem.Challenge.rw_leastloss_k20_whole_lesser.Holds := by
 w_on;o_law;k_head;(case hw=>w_witness2)
 k_fill
 refine L3.Ke (tabs:=[(L3.dR,238)]) (l:=PySem.Challenge.rw_leastloss_k20_whole_lesser) (x :="_law_script") (r:=2*17) (k:=17) (f:=44) (G:=L3.G) ⟨rfl,by decide,by decide⟩ L3.SK (by decide) rfl rfl (fun w h Y=>PySem.W.km_in_of Y) (fun w h Y=>List.forall_mem_cons.mpr ⟨PySem.W.km_tabs_of Y 238 (by decide),fun _ h=>nomatch h⟩) ?t2 ?t3 ?F
 case t2=>intro w;refine List.forall_mem_cons.mpr ⟨?_,fun _ h=>nomatch h⟩<;>kernel_rfl
 case t3=>intro w;refine List.forall_mem_cons.mpr ⟨?_,fun _ h=>nomatch h⟩<;>kernel_rfl
 case F =>
 intro w mg fa h KX G hmg
 refine L3.all_mk hmg ?Z (L3.Pn ?F0 ?F1 ?F2 ?F3 ?F4 ?F5 ?F6 ?F7 ?F8 ?F9 ?F10 ?F11 ?F12 ?F13 ?F14 ?F15 ?F16 ?F17 ?F18 ?F19 ?F20 ?F21 ?F22 ?F23 ?F24 ?F25 ?F26 ?F27 ?F28 ?F29 ?F30 ?F31 ?F32 ?F33 ?F34 ?F35 ?F36 ?F37 ?F38 ?F39 ?F40 ?F41 ?F42 ?F43 ?F44)
 case Z =>
  refine⟨?b_isinstance,?b_str,?b_len,?b_all,?b_tuple,?b_list,?b_reversed,?b_set,?b_any,?b_int,?b_bool,?b_range,?b_zip,?g_NO_NAMES,?g_LONGEST_NAME,?g_LETTERS,?g_DEEPEST,?g_SAYINGS_WITHIN,?g_PAST_WORDS,?g_MOST_LAMPS,?g_MOST_PROMISES,?g_HIGHEST_PRICE,?g_MOST_WISHES,?g_MOST_MUSTS,?g_MOST_PIECES,?g_MOST_STANDS,?c_Numbering,?a_Numbering_met,?a_Numbering_numbers_met⟩
  case b_isinstance=>walk_at"fn"
  case b_str=>walk_at"fn"
  case b_len=>walk_at"fn"
  case b_all=>walk_at"fn"
  case b_tuple=>walk_at"fn"
  case b_list=>walk_at"fn"
  case b_reversed=>walk_at"fn"
  case b_set=>walk_at"fn"
  case b_any=>walk_at"fn"
  case b_int=>walk_at"fn"
  case b_bool=>walk_at"fn"
  case b_range=>walk_at"fn"
  case b_zip=>walk_at"fn"
  case g_NO_NAMES=>refine' L3.NT KX G ?NO_NAMESa ?NO_NAMESl ?NO_NAMESf ?NO_NAMESz;(case NO_NAMESa=>k_is);(case NO_NAMESl=>k_is);(case NO_NAMESf=>kernel_rfl);(case NO_NAMESz=>kernel_rfl)
  case g_LONGEST_NAME=>walk_at"fg"
  case g_LETTERS=>refine' L3.Ec KX G ?LETTERSa ?LETTERSe;(case LETTERSa=>k_is);(case LETTERSe=>rfl)
  case g_DEEPEST=>walk_at"fg"
  case g_SAYINGS_WITHIN=>refine' L3.ZF KX G ?SAYINGS_WITHINa ?SAYINGS_WITHINl ?SAYINGS_WITHINf;(case SAYINGS_WITHINa=>k_is);(case SAYINGS_WITHINl=>k_is);(case SAYINGS_WITHINf=>kernel_rfl)
  case g_PAST_WORDS=>refine' L3.NT KX G ?PAST_WORDSa ?PAST_WORDSl ?PAST_WORDSf ?PAST_WORDSz;(case PAST_WORDSa=>k_is);(case PAST_WORDSl=>k_is);(case PAST_WORDSf=>kernel_rfl);(case PAST_WORDSz=>kernel_rfl)
  case g_MOST_LAMPS=>walk_at"fg"
  case g_MOST_PROMISES=>walk_at"fg"
  case g_HIGHEST_PRICE=>walk_at"fg"
  case g_MOST_WISHES=>walk_at"fg"
  case g_MOST_MUSTS=>walk_at"fg"
  case g_MOST_PIECES=>walk_at"fg"
  case g_MOST_STANDS=>walk_at"fg"
  case c_Numbering=>walk_at"fc"
  case a_Numbering_met=>walk_at"fa"
  case a_Numbering_numbers_met=>walk_at"fa"
 case F0=>walk_at"ft"
 case F1=>walk_at"ft"
 case F2=>walk_at"ft"
 case F3=>walk_at"ft"
 case F4=>walk_at"ft"
 case F5=>walk_at"ft"
 case F6=>walk_at"ft"
 case F7=>walk_at"ft"
 case F8=>walk_at"ft"
 case F9=>walk_at"ft"
 case F10=>walk_at"ft"
 case F11=>walk_at"ft"
 case F12=>walk_at"ft"
 case F13=>walk_at"ft"
 case F14=>walk_at"ft"
 case F15=>walk_at"ft"
 case F16=>walk_at"ft"
 case F17=>walk_at"ft"
 case F18=>walk_at"fi"
 case F19=>walk_at"fm"
 case F20=>walk_at"ft"
 case F21=>walk_at"ft"
 case F22=>walk_at"ft"
 case F23=>walk_at"ft"
 case F24=>walk_at"ft"
 case F25=>walk_at"ft"
 case F26=>walk_at"ft"
 case F27=>walk_at"ft"
 case F28=>refine' L3.By KX G ?a28 ?l28 ?c28 ?k28;(case a28=>k_is);(case l28=>k_is);(case c28=>k_is);(case k28=>k_is)
 case F29=>walk_at"ft"
 case F30=>walk_at"ft"
 case F31=>walk_at"ft"
 case F32=>walk_at"ft"
 case F33=>walk_at"ft"
 case F34=>walk_at"ft"
 case F35=>walk_at"ft"
 case F36=>walk_at"ft"
 case F37=>walk_at"ft"
 case F38=>walk_at"ft"
 case F39=>walk_at"ft"
 case F40=>walk_at"ft"
 case F41=>walk_at"ft"
 case F42=>walk_at"ft"
 case F43=>walk_at"ft"
 case F44=>walk_at"ft"
