import PyProof.Rows.All
import Wide.All
import OpenK.AllK
import Wide.FinOn
import Lean
import PyProof.EqAt
import PyProof.EqKinds
import PyProof.TupleCall
import PySem.Challenge.RW_leastloss_k09_whole_game_walked
open PySem.W renaming Frag→aa, findIn→ek, keepIn→ff, kia_one→gg, emptyDict→gr, fnOf→g9, nsIn→h9, instObj→je, plainGet→kh, codeIn→ki, mg_of→lj, hasDictIn→ly, kla_obj→my, callWith_K→nh, plainOver→oh, codeHdIn→pe, plainGet_of→qk, isFn→qr, envX→qv, lookIn→rb, methodObj→se, kitx_bool→sk, cellsFrom_some→uz, takerIn→vn, makesIn→vp, methodCall_KW→vy, codeHd_of_K→xk, handedIn→zl, kitx_int→zu, kitx_str→zv, kitOne→Va, tabObj→Vf, OpenLaw→Ww
open List renaming length_map→ab, getElem?_eq_getElem→ah, mem_singleton→aj, replicate→ak, size_toArray→av, map_cons→ay, nil_append→a9, range→bb, getElem?_map→bc, length_nil→be, length_cons→bf, mem_of_getElem?→bg, length_append→bp, getElem?_append_left→bq, not_mem_nil→bw, cons_append→b7, drop_eq_getElem_cons→b9, mem_cons_of_mem→cj, getElem?_append_right→cp, getElem?_eq_none→cx, mem_cons→cy, lookup_cons→c9, map_append→dg, mem_cons_self→dh, set_cons_zero→di, length_range→dw, set_cons_succ→d5, append_nil→eh, map_nil→fe, mem_append_right→fj, drop_eq_nil_of_le→fx, filterMap_cons→f6, lookup→gz, getElem?_set_ne→ig, getElem?_replicate→iu, reverse_cons→i7, getElem?_cons_zero→jc, replicate_succ→jh, idxOf_lt_length_of_mem→jm, range_succ→j1, idxOf_cons→j3, any_cons→kf, all_eq_true→km, getElem?_set_self→kr, range_succ_eq_map→ky, any_map→kz, zip_cons_cons→la, foldl_cons→lb, length_replicate→ll, length_filter_le→lq, flatten_cons→lz, map_map→l9, filter_cons→md, map_congr_left→mn, all_cons→mq, of_mem_zip→mx, mem_append→ng, contains_cons→nj, getElem?_cons_succ→nz, any_eq_false→og, append_assoc→oq, nodup_append→ow, length_take→oy, foldl→oz, prefix_refl→pf, mem_append_left→px, map→p9, getElem?_of_mem→qb, forIn_cons→qh, length_reverse→qo, all_map→qt, mem_map→qw, drop_zero→rk, getElem?_eq_some_iff→rz, extract_eq_take_drop→r0, range'→sv, flatMap_cons→sy, length_drop→uc, isEmpty_nil→uq, getElem_mem→ur, length_zip→vx, dropLast_eq_take→vz, nodup_nil→w5, drop_succ_cons→xg, lookup_append→yk, isEmpty_cons→yv, ext_getElem?→zg, foldl_append→zh, isEmpty_iff→zr, take_length→zt, range'_succ→zy, mem_flatMap→z9, length_set→Uh, forIn_nil→Uz, sum_nil→Vw, length→Wd, any→Wo
open PySem renaming Value→ae, wpAny_bind→af, Shared→ag, starEach→ao, wpAny_pure→ar, Program→bu, Around→cb, mainGlobals→cu, bootBuiltins→cz, World→de, wpAny_ite_split→df, Spec→dt, backTo→du, builtinLookup_eq_fast→d7, assignEach→e8, wpAny_Call_Name_kw→fb, wpAny_call_entry→fu, attributeBase→f7, wpAny_specialOf→gf, wpAny_holding→gk, rawInt→gp, foldedSetIterable→gq, FuncData→gu, wpAny_newObj_type→gw, mem_of_lookup→gy, typeLookup_type→gV, binaryOp→iq, wpAny_callSpecial?_slot→i5, wpAny_isNot_other→i9, wpAny_mono→jq, isSubtype_type→jx, wpAny_passesOwn→jz, sizeLine_eq→j5, keywordEach→j6, wpAny_field→j7, holding→kg, wpAny_is_other→kl, wpAny_of_eq→kn, codeAny→ku, codeAny_mono→kv, behindInMarks→lh, wpAny_truthy_bool→lx, swapsWith→l5, wpAny_isInstance→l6, assign→mh, call_meets→ni, sliceBounds→ny, standAt→n5, backToKw→oi, eqIsQuiet_byValue→ou, sysModules→ox, wpAny_standAt→ph, swapsWithSole→pj, swappedStores→pk, letOwnedTupleGo→qe, wpAny_updateSeq→qg, codeAny_builtin→qi, Keyword→qs, PassesOwn→qx, typeLookup→rg, wpAny_pyIter_tuple→rm, wpAny_binaryOp_repeat_ref→rq, wpAny_sequenceKey→si, wpAny_mkInt→sj, wpAny_comprehension_free→tm, wpAny_attempt→tu, compareOp→tx, getMethod→tz, NameKind→ua, noFill_tuple_add→ub, wpAny_forIn_list→uf, scanBound→uj, pyNext→ux, wpAny_call→uy, IsPart→va, getItem→vb, wpAny_typeOf→vc, wpAny_Call_method_late→vd, wpAny_rule→vf, wpAny_execs_nil→vj, wpAny_isTrue_Compare1→v8, pyIter→wb, callWith→wc, seqIndex_of→wj, wpAny_newFunctionEnv→wx, cLine→wy, wpAny_setField→w4, callerA→xa, seq_tuple_add→xm, signature?_of→xv, builtinsNs→yc, typeIs_int→yf, wpAny_tupleItemsOf→yg, strKind_is→yh, closureFor→yj, Within→yl, spliced→ym, wpAny_assign_Name→yo, BindsTo→yr, concat_meets→yt, seqIndex_neg→yu, slot_dict_getitem→zc, wpAny_pyIter_list→zd, isTrue→zk, beq_builtin_none→zq, entryFor_of_tree→zw, codeAny_of_tree→Ul, ItemsOf→Um, GenState→Uo, wpAny_Name→Up, bindArgs→Uq, fitsIndex_both→Us, reduceHash→Ut, PyData→Uu, wpAny_seqItems→Uy, callType_codes→Vb, argsOk→Vc, firstArgMember→Vd, defaultsOf→Ve, intBits_le_64→Vh, evalPart_none→Vi, call_list_seq→Vk, cellsFrom→Vp, updateSeq→Vq, Paired→Vr, setItem→Vs, Result→Vt, compPost→Wh, entryFor→Wi, truthy→Wq, typeOf→Wr, newExc→Ws, BoolOp→Wt, release→Wu, getAttr→Wv
open PySem.Heap renaming get?_push_of_some→ai, lt_size→bh, get?_push_size→bj, get?_update_other→fv, get?_update_self→g8, size_push→jr, SameBut→kq, ExtBut→Wj
open Bool renaming false_eq_true→aq, and_eq_true→aw, and_false→cq, and_self→eu, false_ne_true→e9, not_true→fq, false_and→ij, true_and→ke, not_false→kj, or_eq_true→qf, or_false→xp, and_true→xy, eq_iff_iff→Uk, and_assoc→Uw, or_self→Vx
open Nat renaming le_refl→az, lt_of_lt_of_le→br, ne_of_lt→cg, le_trans→c7, zero_le→dm, lt_irrefl→fh, pow_le_pow_right→fk, lt_succ_self→gh, lt_succ_of_lt→j9, blt→l4, ne_of_gt→oe, add_assoc→pw, le_of_lt→qp, lt_of_le_of_lt→rh, add_sub_cancel_left→ug, le_max_right→uu, lt_of_not_le→uw, le_max_left→vw, add_min_add_right→v7, le_succ→we, zero_add→ze, pow_succ→zf, le_of_not_lt→zo, mul_le_mul→Uv, le_of_eq→Vu, lt_trans→Vv
open True renaming intro→bz
open Option.some renaming inj→cw, injEq→zi
open Option renaming map_eq_some_iff→dq, getD_some→jo, map_some→j4, getD_none→zm
open False renaming elim→dy
open PySem.Builtin.List renaming listTooLong→dz, listExtendWith→jk, listLengthHint→l0, listSameRef→tq, listItems→vh
open Ne renaming symm→ey
open PySem.Around renaming in1_units→fw, under_plainId→qa, frames_deeper→wg, under→yp
open PySem.Builtin.Tuple renaming tupleHashOf→fy, tupleExact→gb, tupleItemsOf→gv, tupleTooMany→rj, tupleIsExact→rl
open PySem.Value renaming type→fz, ref→gx, none→jd, bool→qy, str→zj, int→Vm, bytes→Vy, float→Vz
open PyProof.Rows renaming callWith_type1→gj, slot_tuple_getitem→g7, envOfC→mi, subscriptTail_builtinR→oo, AllBare→sh, IntsAre→ve, foldl_rep→w9, entry_tuple_getitem→xb, tupleItemsOf_→xo, args_tuple_getitem→yd, slicePart_none→Ur, subscriptTail→Vj, len_tuple→Vn
open Array renaming length_toList→jf, getElem?_eq_getElem→r8, toList_extract→wu, forIn_toList→yi, toList→yn
open PyProof.Rows.F renaming plain_set_update_loop→jj, entry_set_update_loop→mj
open PySem.Calls renaming spliced_cons→ju, callWith_builtin→kx, spliced_nil→oj, evalArgs_plain→p0, Name_function_global→qz
open PySem.Obj renaming mapSeq→jw, data_mapFields→nk, isFreed_of_fields→wa, mapFields→xw
open PySem.Builtin.Slice renaming slicePlaces→jy, sliceAdjust→me, sliceApplied→rf
open ForInStep renaming yield→j0
open PySem.Str renaming ofString→j8, length→kc, empty→Vo, cps→Wy
open Int renaming natCast_zero→l8, emod_nonneg→mz, emod_lt_of_pos→nq, toNat_of_nonneg→qm, le_refl→Wp
open PySem.F renaming args_tuple_add_2→mo, entry_tuple_add→nv, plainAttrs_list→n4, slot_tuple_add→om, slot_tuple_index→tw, slot_tuple_hash→ue, slot_list_index→uh, slot_int_rmul→v5, args_list_extend_2→wm, plain_reversed_new→wz, entry_list_extend→xf, plain_extend_loop→xi, slot_list_extend→ye, slot_int_rmul→Ui
open PySem.NameKind renaming free→mr, cell→xt
open PySem.Builtin.Str renaming occurrences→nu, subAt→yz
open Function renaming comp_def→ot
open PyProof.Rows.KTD renaming datumAt→p8, flatLooks→td, tabLook→wo
open List.cons renaming injEq→qj
open PySem.AutoSeq1 renaming wpAny_loadPart'→tj
open PyProof.Rows.KTD.Dat renaming flat→vg
open PySem.SeqAt.EqAt renaming bool_tuple→vq, bool_bool→wq, str_tuple→wt, bool_str→xq, str_bool→xr, str_str→yw, of_refs→yx, same→zp, tuple_bool→Uj, tuple_str→Ux
open PySem.PassesOwn renaming never→vt
open Sum renaming inl→w6, inr→w8
open PySem.Heap.SameBut renaming update→xj
open PySem.Code renaming isFrame→yq, frames→Wc
open Std.Legacy renaming Range→zx
open PySem.Paired renaming length→Vg
open PySem.Shared renaming TypeIs→Vl
open PySem.SeqAt.RcAt renaming tuples→Wf
open PySem.Walks renaming tuple→Wg
open PySem.SeqAt renaming str_beq→Wx
set_option Elab.async false
set_option tactic.hygienic false
set_option genSizeOf false
set_option bootstrap.genMatcherCode false
set_option compiler.extract_closed false
set_option linter.all false
set_option maxRecDepth 100000
set_option maxHeartbeats 4000000
section
namespace L2
open PySem PySem.Spec PyProof.Rows
noncomputable abbrev Key:=Sum Int Str
noncomputable def YF:Key->ae->Bool
 |.inl k,v=>Value.isInt k v
 |.inr x,v=>Value.isStrOf x v
noncomputable def Ro (w:de):Key->Int
 |.inl k=>hashInt k
 |.inr x=>hashStr w x
theorem gJ:∀{k:Key}{v:ae},YF k v=true->(∃ i t,k=w6 i/\v=Vm i t)∨(∃ x t,k=w8 x/\v=zj x t)
 |.inl i,v,h=>by
  obtain⟨t,e⟩:=Value.isInt_shape (k:=i) (v:=v) h
  exact .inl ⟨i,t,rfl,e⟩
 |.inr x,v,h=>by
  obtain⟨t,e⟩:=Value.isStrOf_shape (x:=x) (v:=v) h
  exact .inr ⟨x,t,rfl,e⟩
theorem Il (a b:Int):decide ((w6 a:Key)=w6 b)=(a==b):=by
 by_cases e:a=b
 ·subst e;simp
 ·have h:¬(w6 a:Key)=w6 b:=fun q=>e (Sum.inl.inj q)
  rw[decide_eq_false h]
  exact(beq_eq_false_iff_ne.mpr e).symm
theorem Dl (a b:Str):decide ((w8 a:Key)=w8 b)=decide (a=b):=by
 by_cases e:a=b
 ·subst e;simp
 ·have h:¬(w8 a:Key)=w8 b:=fun q=>e (Sum.inr.inj q)
  rw[decide_eq_false h,decide_eq_false e]
theorem Gk (a:Int)(b:Str):decide ((w6 a:Key)=w8 b)=false:=decide_eq_false (fun q=>nomatch q)
theorem Hc (a:Str)(b:Int):decide ((w8 a:Key)=w6 b)=false:=decide_eq_false (fun q=>nomatch q)
noncomputable def GQ (prog:bu)(w:de):PySem.KeyKind prog w Key where
 is:=YF
 hash:=Ro w
 inj:=fun v a b ha hb=>by
  rcases gJ ha with⟨i,t,rfl,rfl⟩|⟨x,t,rfl,rfl⟩
  ·rcases gJ hb with⟨j,u,rfl,e⟩|⟨y,u,rfl,e⟩
   ·injection e with e1 _;rw[e1]
   ·exact nomatch e
  ·rcases gJ hb with⟨j,u,rfl,e⟩|⟨y,u,rfl,e⟩
   ·exact nomatch e
   ·injection e with e1 _;rw[e1]
 byValue:=fun k v h=>by
  rcases gJ h with⟨i,t,rfl,rfl⟩|⟨x,t,rfl,rfl⟩<;>rfl
 pyHash:=fun hv h=>by
  rcases gJ hv with⟨i,t,rfl,rfl⟩|⟨x,t,rfl,rfl⟩
  ·exact wpAny_pyHash_int h
  ·exact wpAny_pyHash_str h
 eqBool:=fun hu hv h=>by
  rcases gJ hu with⟨i,t,rfl,rfl⟩|⟨x,t,rfl,rfl⟩
  ·rcases gJ hv with⟨j,u,rfl,rfl⟩|⟨y,u,rfl,rfl⟩
   ·rw[Il]at h;exact wpAny_eqBool_int h
   ·rw[Gk]at h;exact SeqAt.EqAt.int_str i t y u _ _ _ _ h
  ·rcases gJ hv with⟨j,u,rfl,rfl⟩|⟨y,u,rfl,rfl⟩
   ·rw[Hc]at h;exact SeqAt.EqAt.str_int x t j u _ _ _ _ h
   ·rw[Dl]at h;exact wpAny_eqBool_str h
 «strs»:=fun k x t v h=>by
  rcases gJ h with⟨i,u,rfl,e⟩|⟨y,u,rfl,e⟩
  ·exact nomatch e
  ·injection e with e1 _
   subst e1
   cases v<;>rfl
end L2
namespace L2
open PySem PySem.Spec PyProof.Rows
inductive V where
 |non|bl (b:Bool)|int (i:Int)|str (x:Str)|byt (b:Array UInt8)|flt (b:UInt64)|ref (a:Addr)|ty (n:String)
 deriving DecidableEq
def RelV:V->ae->Prop
 |.non,u=>u=jd
 |.bl b,u=>u=qy b
 |.int i,u=>∃ t,u=Vm i t
 |.str x,u=>∃ t,u=zj x t
 |.byt b,u=>∃ t,u=Vy b t
 |.flt b,u=>∃ t,u=Vz b t
 |.ref a,u=>u=gx a
 |.ty n,u=>u=fz n
abbrev aU:List V->List ae->Prop:=Vr RelV
theorem aU.length {xs:List V}{us:List ae}(r:aU xs us):xs.length=us.length:=Vg r
theorem aU.get:∀{xs:List V}{us:List ae}{i:Nat}{x:V},aU xs us->xs[i]? = some x->∃ u,us[i]? = some u/\RelV x u
 |_,_,_,_,.nil,e=>by simp at e
 |_,_,0,_,.cons r _,e=>by simp at e;subst e;exact⟨_,rfl,r⟩
 |_,_,i+1,x,.cons _ t,e=>by
  obtain⟨u,h1,h2⟩:=aU.get (i:=i) (x:=x) t (by simpa using e)
  exact⟨u,by simpa using h1,h2⟩
theorem aU.set {x:V}{u:ae}(r:RelV x u):∀{xs:List V}{us:List ae}(i:Nat),aU xs us->aU (xs.set i x) (us.set i u)
 |_,_,_,.nil=>.nil
 |_,_,0,.cons _ t=>.cons r t
 |_,_,i+1,.cons q t=>.cons q (aU.set r i t)
theorem aU.append:∀{xs ys:List V}{us ws:List ae},aU xs us->aU ys ws->aU (xs++ys) (us++ws)
 |_,_,_,_,.nil,s=>s
 |_,_,_,_,.cons r t,s=>.cons r (aU.append t s)
theorem aU.take:∀{xs:List V}{us:List ae}(n:Nat),aU xs us->aU (xs.take n) (us.take n)
 |_,_,0,_=>.nil
 |_,_,_+1,.nil=>.nil
 |_,_,n+1,.cons r t=>.cons r (aU.take n t)
theorem aU.drop:∀{xs:List V}{us:List ae}(n:Nat),aU xs us->aU (xs.drop n) (us.drop n)
 |_,_,0,r=>r
 |_,_,_+1,.nil=>.nil
 |_,_,n+1,.cons _ t=>aU.drop n t
def vF:Option V->Option ae->Prop
 |some v,some u=>RelV v u
 |none,none=>True
 |_,_=>False
def KV {κ:Type}:List (κ×V)->List (κ×Value)->Prop:=Vr fun(p:κ×V)(q:κ×Value)=>p.1=q.1/\RelV p.2 q.2
noncomputable def kV:Key->V
 |.inl i=>.int i
 |.inr x=>.str x
inductive HO where
 /-- a list -/
 |lst (xs:List V)
 /-- a tuple (never changes) -/
 |tup (xs:List V)
 /-- a dict whose keys are ints and texts; one whose keys are tuples of ints and texts (the empty one is both) -/
 |dK (iU:List (Key×V))|dT (iU:List (List Key×V))
 /-- a set of ints: aD members, aD size -/
 |set (S:Int->Bool)(n:Nat)
 /-- an instance of the class at C, aD dict at dx, aD attributes -/
 |ins (C dx:Addr)(fs:List (Str×V))
 /-- the dict of the instance at x -/
 |own (x:Addr)
 /-- the dict of an exception -/
 |xd (fs:List (Str×V))
 /-- a bound method, f of x -/
 |met (f x:Addr)
 /-- a range object lo, lo + 1, .. below hi -/
 |rng (lo hi:Int)
 /-- a thing that is known to the object (the script; a dict while a loop walks it): read, never written while it is so -/
 |frz (o:Obj)(u:HO)
 /-- a code object's table -/
 |tbl (ps:Array ae)
 /-- any other thing, by what is true of aD one object (a def of one's own: SetO a S n := HO.ext fun h => ..) -/
 |ext (φ:bu->de->Heap->Prop)
noncomputable abbrev Hp:=Addr->Option HO
noncomputable def upd (H:Hp)(a:Addr)(o:HO):Hp:=fun b=>if b=a then some o else H b
theorem dD {H:Hp}{a:Addr}{o:HO}:upd H a o a=some o:=by unfold upd;rw[if_pos rfl]
theorem bI {H:Hp}{a b:Addr}{o:HO}(h:b≠a):upd H a o b=H b:=by unfold upd;rw[if_neg h]
theorem RB {H:Hp}{a b:Addr}{o u:HO}(h:H a=some o)(h':H b=some u)(d:o≠u):a≠b:=by
 intro e;subst e;rw[h]at h';exact d (cw h')
theorem jB {H:Hp}{a b:Addr}{o:HO}(h:H a=some o)(h':H b=none):a≠b:=by
 intro e;subst e;rw[h]at h';cases h'
def rH (h:Heap)(a:Addr)(aD:Array ae):Prop:=∃ o,h.get? a=some o/\o.cls=.type "tuple" /\ (∃ n,o.data=.seq aD n)/\o.dict=none
theorem rH.tup {h:Heap}{a:Addr}{aD:Array ae}:rH h a aD->IsTup h a aD:=fun⟨o,e,c,d,_⟩=>⟨o,e,c,d⟩
theorem rH.lt {h:Heap}{a:Addr}{aD:Array ae}(x:rH h a aD):a<h.objs.size:=x.tup.lt
theorem rH.new (h:Heap)(items:Array ae):rH (h.push { cls:=.type "tuple", data:=.seq items }) h.objs.size items:=⟨_,bj _ rfl,rfl,⟨_,rfl⟩,rfl⟩
section
variable (P:bu)(w:de)
def kO (H:Hp)(h:Heap)(a:Addr):HO->Prop
 |.lst xs=>xs.length<=sizeLine/\∃(aD:List ae)(n:Nat),aU xs aD/\h.get? a=some { cls:=.type "list", data:=.seq aD.toArray n }
 |.tup xs=>xs.length<=sizeLine/\∃ aD:List ae,aU xs aD/\rH h a aD.toArray
 |.dK iU=>iU.length<=sizeLine/\(a==ox)=false/\∃ vs,KV iU vs/\h.DictOf (GQ P w) a vs
 |.dT iU=>iU.length<=sizeLine/\(a==ox)=false/\∃ xs:List (List Key×Addr×Value),
  Vr (fun(p:List Key×V)(q:List Key×Addr×Value)=>p.1=q.1/\H q.2.1=some (.tup (p.1.map kV))/\RelV p.2 q.2.2) iU xs /\
  ∃ o es ep,h.get? a=some o/\o.ExactDict/\o.data=.dict es ep/\es.toList=xs.map (entryOfKey (tupleKind (GQ P w)))/\(xs.map (·.1)).Nodup
 |.set S n=>h.SetOf (intKind P w) a S n
 |.ins C dx fs=>H dx=some (.own a)/\fs.length<=1000/\dx≠a/\h.get? a=some (je C dx) /\
  ∃ mA,h.Ns1 dx mA/\(∀ f,vF (fs.lookup f) (mA f))/\yl mA (fs.map (·.1))
 |.own _=>∃ o,h.get? a=some o
 |.xd fs=>∃ mA,h.Ns1 a mA/\∀ f,vF (fs.lookup f) (mA f)
 |.rng lo hi=>∃ t u v,h.get? a=some { cls:=.type "range", data:=.fields #[.int lo t,.int hi u,.int 1 v] }
 |.frz o u=>h.get? a=some o/\kO H h a u
 |.tbl ps=>h.get? a=some { cls:=.none,data:=.fields ps }
 |.met f x=>h.get? a=some (se (.ref f) (.ref x))
 |.ext φ=>φ P w h/\(∃ o,h.get? a=some o)/\∀ h1 h2:Heap,φ P w h1->(∀ o,h1.get? a=some o->h2.get? a=some o)->φ P w h2
def iL (H:Hp)(h:Heap):Prop:=∀ a o,H a=some o->kO P w H h a o
end
section
variable {P:bu}{w:de}{H H':Hp}{h h':Heap}{a:Addr}{o:HO}
theorem kO.lt (x:kO P w H h a o):a<h.objs.size:=by
 cases o with
 |lst xs=>obtain⟨_,_,_,_,e⟩:=x;exact bh e
 |tup xs=>obtain⟨_,_,_,p⟩:=x;exact p.lt
 |dK iU=>obtain⟨_,_,_,_,o,_,_,e,_⟩:=x;exact bh e
 |dT iU=>obtain⟨_,_,_,_,o,_,_,e,_⟩:=x;exact bh e
 |set S n=>obtain⟨o,_,_,_,e,_⟩:=x;exact bh e
 |ins C dx fs=>obtain⟨_,_,_,e,_⟩:=x;exact bh e
 |own y=>obtain⟨_,e⟩:=x;exact bh e
 |xd fs=>obtain⟨_,⟨_,_,_,e,_⟩,_⟩:=x;exact bh e
 |rng lo hi=>obtain⟨_,_,_,e⟩:=x;exact bh e
 |frz ob u=>obtain⟨e,_⟩:=x;exact bh e
 |tbl ps=>exact bh (show h.get? a=some _ from x)
 |met f y=>exact bh (show h.get? a=some _ from x)
 |ext φ=>obtain⟨_,⟨_,e⟩,_⟩:=x;exact bh e
theorem Paired.Hl {α β:Type}{F G:α->β->Prop}:∀{l₁:List α}{l₂:List β},Vr F l₁ l₂->(∀ a b,F a b->G a b)->Vr G l₁ l₂
 |_,_,.nil,_=>.nil
 |_,_,.cons r t,f=>.cons (f _ _ r) (Paired.Hl t f)
theorem kO.rA (x:kO P w H h a o)(k:∀ b u,(b=a∨H b=some (.own a))->h.get? b=some u->h'.get? b=some u)
 (ho:∀ b,H b=some (.own a)->H' b=some (.own a))(ht:∀ b xs,H b=some (.tup xs)->H' b=some (.tup xs)):kO P w H' h' a o:=by
 induction o with
 |lst xs=>obtain⟨z,aD,n,r,e⟩:=x;exact⟨z,aD,n,r,k _ _ (.inl rfl) e⟩
 |tup xs=>obtain⟨z,aD,r,ob,e,c⟩:=x;exact⟨z,aD,r,ob,k _ _ (.inl rfl) e,c⟩
 |dK iU=>obtain⟨z,y,vs,r,ob,es,ep,e,c⟩:=x;exact⟨z,y,vs,r,ob,es,ep,k _ _ (.inl rfl) e,c⟩
 |dT iU =>
 obtain⟨z,y,xs,r,ob,es,ep,e,c⟩:=x
 exact⟨z,y,xs,Paired.Hl r fun p q z=>⟨z.1,ht _ _ z.2.1,z.2.2⟩,ob,es,ep,k _ _ (.inl rfl) e,c⟩
 |set S n=>obtain⟨ob,es,ep,t,e,c⟩:=x;exact⟨ob,es,ep,t,k _ _ (.inl rfl) e,c⟩
 |ins C dx fs =>
 obtain⟨d,z,ne,e,mA,⟨od,es,ep,e2,c⟩,r⟩:=x
 exact⟨ho _ d,z,ne,k _ _ (.inl rfl) e,mA,⟨od,es,ep,k _ _ (.inr d) e2,c⟩,r⟩
 |own y=>obtain⟨ob,e⟩:=x;exact⟨ob,k _ _ (.inl rfl) e⟩
 |xd fs=>obtain⟨mA,⟨od,es,ep,e,c⟩,r⟩:=x;exact⟨mA,⟨od,es,ep,k _ _ (.inl rfl) e,c⟩,r⟩
 |rng lo hi=>obtain⟨t,u,v,e⟩:=x;exact⟨t,u,v,k _ _ (.inl rfl) e⟩
 |frz ob u ih=>obtain⟨e,q⟩:=x;exact⟨k _ _ (.inl rfl) e,ih q⟩
 |tbl ps =>
 have e:h.get? a=some { cls:=.none,data:=.fields ps }:=x
 show h'.get? a=some { cls:=.none,data:=.fields ps }
 exact k a _ (.inl rfl) e
 |met f y =>
 have e:h.get? a=some (se (.ref f) (.ref y)):=x
 show h'.get? a=some (se (.ref f) (.ref y))
 exact k a _ (.inl rfl) e
 |ext φ=>obtain⟨p,⟨o,e⟩,st⟩:=x;exact⟨st _ _ p fun o q=>k _ _ (.inl rfl) q,⟨o,k _ _ (.inl rfl) e⟩,st⟩
theorem iL.lt (x:iL P w H h)(e:H a=some o):a<h.objs.size:=(x a o e).lt
theorem iL.fresh (x:iL P w H h)(e:h.objs.size<=a):H a=none:=by
 cases q:H a with
 |none=>rfl
 |some u=>exact absurd (br (x.lt q) e) (fh _)
theorem iL.kept (x:iL P w H h)(k:∀ b u,h.get? b=some u->h'.get? b=some u):iL P w H h':=fun a o e =>
 (x a o e).rA (fun b u _ q=>k b u q) (fun _ q=>q) fun _ _ q=>q
theorem iL.laid (x:iL P w H h)(k:∀ b u,h.get? b=some u->h'.get? b=some u)(hp:h.objs.size<=a)(new:kO P w (upd H a o) h' a o):iL P w (upd H a o) h':=fun b u e=>by
 have hn:=x.fresh hp
 by_cases hb:b=a
 ·subst hb;rw[dD]at e;cases e;exact new
 ·rw[bI hb]at e
  exact(x b u e).rA (fun c v _ q=>k c v q) (fun c q=>by rw[bI (jB q hn)];exact q) fun c xs q=>by rw[bI (jB q hn)];exact q
end
def Rd (H:Hp)(a:Addr)(u:HO):Prop:=H a=some u∨∃ o,H a=some (.frz o u)
theorem Rd.ok {P:bu}{w:de}{H:Hp}{h:Heap}{a:Addr}{u:HO}(r:Rd H a u)(x:iL P w H h):kO P w H h a u:=by
 rcases r with r|⟨o,r⟩
 ·exact x a u r
 ·obtain⟨_,q⟩:=x a _ r
  exact q
def YU:Option HO->Prop
 |some (.lst _)=>True
 |some (.dK _)=>True
 |some (.dT _)=>True
 |some (.set _ _)=>True
 |some (.ins _ _ _)=>True
 |some (.ext _)=>True
 |_=>False
section
variable {P:bu}{w:de}{H:Hp}{h h':Heap}{x e:Addr}{o':HO}
theorem iL.write (ok:iL P w H h)(mu:YU (H x))(he:e=x∨H e=some (.own x))(k:∀ b u,b≠e->h.get? b=some u->h'.get? b=some u)(heo:∃ u,h'.get? e=some u)
  (new:kO P w (upd H x o') h' x o'):iL P w (upd H x o') h':=fun b u q=>by
 have nown:∀ c y,H c=some (.own y)->c≠x:=fun c y r z=>by subst z;rw[r]at mu;exact mu
 have ntup:∀ c xs,H c=some (.tup xs)->c≠x:=fun c xs r z=>by subst z;rw[r]at mu;exact mu
 by_cases hb:b=x
 ·subst hb;rw[dD]at q;cases q;exact new
 ·rw[bI hb]at q
  by_cases hbe:b=e
  ·have q':H b=some (.own x):=by
    rcases he with z|z
    ·exact absurd (hbe.trans z) hb
    ·rw[hbe];exact z
   rw[q]at q';cases q'
   obtain⟨v,hv⟩:=heo
   exact⟨v,by rw[hbe];exact hv⟩
  ·refine(ok b u q).rA (fun c v hc r=>k c v ?_ r) (fun c r=>by rw[bI (nown c b r)];exact r) fun c xs r=>by rw[bI (ntup c xs r)];exact r
   rcases hc with rfl|hc
   ·exact hbe
   ·rintro rfl
    rcases he with z|z
    ·exact nown c b hc z
    ·rw[hc]at z;cases z;exact hb rfl
end
structure Un (fs ex:List Addr)(H H':Hp)(h h':Heap):Prop where
 keep:∀ b o,h.get? b=some o->H b=none->b∉fs->b∉ex->h'.get? b=some o
 slot:∀ b o,h.get? b=some o->H b=none->b∈fs->b∉ex->∃ sl,h'.get? b=some { o with slots:=sl }
 free:∀ b o,h.get? b=some o->H b=none->b∉ex->H' b=none
 there:∀ b o,h.get? b=some o->b∉ex->∃ o',h'.get? b=some o'
 tO:∀ b xs,H b=some (.tup xs)->H' b=some (.tup xs)
 oY:∀ b o u,H b=some (.frz o u)->H' b=some (.frz o u)
 rM:∀ b ps,H b=some (.tbl ps)->∃ more,H' b=some (.tbl (ps++more))
section
variable {fs fs' ex ex':List Addr}{H H1 H2:Hp}{h h1 h2 h':Heap}{a x e:Addr}{o:HO}
theorem Un.any (u:Un fs ex H H1 h h1){b:Addr}{ob:Obj}(q:h.get? b=some ob)(n:H b=none)(hx:b∉ex):∃ sl,h1.get? b=some { ob with slots:=sl }:=by
 by_cases hb:b∈fs
 ·exact u.slot b ob q n hb hx
 ·exact⟨ob.slots,u.keep b ob q n hb hx⟩
theorem Un.kept (k:∀ b u,h.get? b=some u->h'.get? b=some u):Un fs ex H H h h' :=
 ⟨fun b ob q _ _ _=>k b ob q,fun b ob q _ _ _=>⟨ob.slots,k b ob q⟩,fun _ _ _ n _=>n,fun b ob q _=>⟨ob,k b ob q⟩,fun _ _ q=>q,fun _ _ _ q=>q,fun _ ps q=>⟨#[],by rw[q];simp⟩⟩
theorem Un.refl:Un fs ex H H h h:=Un.kept fun _ _ q=>q
theorem Un.laid (k:∀ b u,h.get? b=some u->h'.get? b=some u)(hp:h.objs.size<=a)(hn:H a=none):Un fs ex H (upd H a o) h h' where
 keep:=fun b u q _ _ _=>k b u q
 slot:=fun b u q _ _ _=>⟨u.slots,k b u q⟩
 free:=fun b u q n _=>by rw[bI (cg (br (bh q) hp))];exact n
 there:=fun b u q _=>⟨u,k b u q⟩
 tO:=fun b xs q=>by rw[bI (jB q hn)];exact q
 oY:=fun b u xs q=>by rw[bI (jB q hn)];exact q
 rM:=fun b ps q=>⟨#[],by rw[bI (jB q hn),q];simp⟩
theorem Un.write (mu:YU (H x))(he:e=x∨H e=some (.own x))(k:∀ b u,b≠e->h.get? b=some u->h'.get? b=some u)(heo:∃ u,h'.get? e=some u):Un fs ex H (upd H x o) h h':=by
 have hx:∀ b,H b=none->b≠x:=fun b n z=>by subst z;rw[n]at mu;exact mu
 have hb:∀ b,H b=none->b≠e:=fun b n z=>by
  subst z
  rcases he with r|r
  ·exact hx b n r
  ·rw[n]at r;cases r
 have hm:∀ b u,H b=some u->¬YU (some u)->b≠x:=fun b u q nm z=>by subst z;rw[q]at mu;exact nm mu
 refine⟨fun b u q n _ _=>k b u (hb b n) q,fun b u q n _ _=>⟨u.slots,k b u (hb b n) q⟩,fun b u q n _=>by rw[bI (hx b n)];exact n,fun b u q _=>?_,
  fun b xs q=>by rw[bI (hm b _ q fun z=>z)];exact q,fun b u xs q=>by rw[bI (hm b _ q fun z=>z)];exact q,fun b ps q=>⟨#[],by rw[bI (hm b _ q fun z=>z),q];simp⟩⟩
 by_cases hbe:b=e
 ·subst hbe;exact heo
 ·exact⟨u,k b u hbe q⟩
end
noncomputable def YR (h:Heap)(H:Hp):List Addr:=(bb h.objs.size).filter fun a=>(H a).isSome
noncomputable def vD (h:Heap)(H:Hp):Heap:=PySem.W.hideAll h (YR h H)
theorem VH (h:Heap)(H:Hp):(vD h H).objs.size=h.objs.size:=PySem.W.hideAll_size _ _
theorem W0 {h:Heap}{H:Hp}{b:Addr}{o:Obj}(e:h.get? b=some o)(n:H b=none):(vD h H).get? b=some o :=
 PySem.W.hideAll_get _ e fun hm=>by
 have q:(H b).isSome=true:=(List.mem_filter.mp hm).2
 rw[n]at q;simp at q
theorem Cs {h:Heap}{H:Hp}{b:Addr}{o:Obj}(e:(vD h H).get? b=some o):h.get? b=some o/\H b=none:=by
 have e':h.get? b=some o:=PySem.W.of_hideAll (YR h H) e
 refine⟨e',?_⟩
 cases q:H b with
 |none=>rfl
 |some x =>
 have hm:b∈YR h H:=List.mem_filter.mpr ⟨List.mem_range.mpr (bh e'),by simp [q]⟩
 have z:(vD h H).get? b=none:=PySem.W.hideAll_none (YR h H) hm
 rw[z]at e;cases e
noncomputable def Bm (g h:Heap)(L:Addr):List (Addr×Obj):=(bb h.objs.size).filterMap fun a=>if a=L∨(g.get? a).isSome=true then none else(h.get? a).map fun o=>(a,o)
noncomputable def rest (g h:Heap)(L d:Addr):List (Addr×Obj):=(Bm g h L).filter fun p=>decide (p.1≠d)
end L2
namespace L2
open PySem PySem.Spec PyProof.Rows
structure Mod (K:aa)(mg:Str->Option ae)(base:Heap):Prop where
 kin:K.In base
 glob:base.Ns cu mg
 blt:∃ mb,base.Ns yc mb/\∀ x:Str,x ≠"__name__" -> mb x=cz x
 nolimit:base.NoLimit
structure Cx where
 prog:bu
 w:de
 K:aa
 mg:Str->Option ae
 base:Heap
 A:cb
 N:List Str
 s₀:ag
 H₀:Hp
 env:Env
 outer:List Env
 stack:List Env
 ex:List Addr
 fn:Str->Bool
 calm:Bool
 pn:List (Addr×Obj)
 xe:ae->ag->Prop
noncomputable def vQ (l:List Env):List Addr:=l.filterMap (·.frame)
noncomputable abbrev Cx.fs (X:Cx):List Addr:=vQ X.outer
def YW (sc:Scope)(x:Str):Prop:=sc.names.lookup x=some .local∨sc.names.lookup x=some .cell∨sc.names.lookup x=some .free
def Loc (sc:Scope)(x:Str):Prop:=sc.names.lookup x=some .local∨sc.names.lookup x=some .cell
def Look (env:Env)(h:Heap)(m:Str->Option ae)(x:Str)(u:ae):Prop :=
 (env.kindOf x=some .local/\m x=some u)∨((env.kindOf x=some .cell∨env.kindOf x=some .free)/\∃ c,env.cells.lookup x=some c/\h.IsCell c (some u))
structure Cx.Ok (X:Cx):Prop where
 mod:Mod X.K X.mg X.base
 kind:X.env.scope.kind=.function
 glob:X.env.globals=cu
 blt:X.env.builtins=yc
 above:X.s₀.heap.objs.size<=X.env.locals
 inj:∀ x y c,X.env.cells.lookup x=some c->X.env.cells.lookup y=some c->x=y
 has:∀ x,(X.env.kindOf x=some .cell∨X.env.kindOf x=some .free)->∃ c,X.env.cells.lookup x=some c
 cab:∀ x c,X.fn x=true->X.env.cells.lookup x=some c->X.s₀.heap.objs.size<=c
 hd:X.calm=true->X.A.handled=none
 frames:X.A.frames=some X.stack
 stk:X.stack=X.outer∨(X.stack=X.env::X.outer/\X.env.frame=some X.env.locals)
 exf:∀ b∈X.ex,b≠X.env.locals/\∀ x c,X.env.cells.lookup x=some c->c≠b
 bs:∀ b o,X.base.get? b=some o->X.s₀.heap.get? b=some o/\X.H₀ b=none
 bsz:X.base.objs.size<=X.s₀.heap.objs.size
 noex:∀ b o,X.base.get? b=some o->b∉X.ex
 exfs:∀ b∈X.ex,b∉X.fs
 mK:X.s₀.heap.FunFrames X.base X.outer
 frf:∀ b∈X.fs,X.H₀ b=none
structure Inv (X:Cx)(pz:List (Addr×Obj))(σ:List (Option V))(H:Hp)(s:ag):Prop where
 ok:X.Ok
 os:s.os=X.s₀.os
 bare:sh s.gens
 base:Un X.fs X.ex X.H₀ H X.s₀.heap s.heap
 loc:∃ m,s.heap.Ns X.env.locals m/\∀(i:Nat)(x:Str)(v:V),X.N[i]? = some x->σ[i]? = some (some v)->YW X.env.scope x->∃ u,RelV v u/\Look X.env s.heap m x u
 cell:∀ x c,X.env.cells.lookup x=some c->∃ v,s.heap.IsCell c v
 free:H X.env.locals=none
 lO:∀ x c,X.env.cells.lookup x=some c->H c=none
 pin:∀ p∈X.pn++pz,s.heap.get? p.1=some p.2/\H p.1=none/\p.1≠X.env.locals/\p.1∉X.fs/\∀ v,p.2.data≠.cell v
 bT:iL X.prog X.w H s.heap
 len:σ.length=X.N.length
section
variable {X:Cx}{pz:List (Addr×Obj)}{σ:List (Option V)}{H H':Hp}{s:ag}{h':Heap}
theorem Cx.Ok.Rq (ok:X.Ok){b:Addr}{o:Obj}(e:X.base.get? b=some o):b∉X.fs:=fun hb=>by
 have:=(ok.mK.mem hb).1
 rw[e]at this;cases this
theorem Inv.bs (I:Inv X pz σ H s):∀ b o,X.base.get? b=some o->s.heap.get? b=some o/\H b=none:=fun b o e =>
 ⟨I.base.keep b o (I.ok.bs b o e).1 (I.ok.bs b o e).2 (I.ok.Rq e) (I.ok.noex b o e),I.base.free b o (I.ok.bs b o e).1 (I.ok.bs b o e).2 (I.ok.noex b o e)⟩
theorem Inv.bk (I:Inv X pz σ H s):∀ b o,X.base.get? b=some o->s.heap.get? b=some o:=fun b o e=>(I.bs b o e).1
theorem Inv.mod (I:Inv X pz σ H s):Mod X.K X.mg X.base:=I.ok.mod
theorem Inv.jN (I:Inv X pz σ H s):X.K.In s.heap:=I.ok.mod.kin.keeps I.bk
theorem Inv.fr (I:Inv X pz σ H s):∃ m,Fr X.base X.env.locals s.heap m :=
 let⟨m,hn,_⟩:=I.loc
 ⟨m,hn,I.bk,c7 I.ok.bsz I.ok.above⟩
theorem Inv.lt (I:Inv X pz σ H s):X.env.locals<s.heap.objs.size:=let⟨_,hn,_⟩:=I.loc;hn.lt
theorem Inv.sz (I:Inv X pz σ H s):X.s₀.heap.objs.size<=s.heap.objs.size:=c7 I.ok.above (qp I.lt)
theorem Inv.Ji (I:Inv X pz σ H s){a:Addr}(h:s.heap.objs.size<=a):a∉X.fs:=fun hb=>by
 obtain⟨_,o,ho,_⟩:=I.ok.mK.mem hb
 exact absurd (br (bh ho) (c7 I.sz h)) (fh _)
theorem Inv.IP (I:Inv X pz σ H s):∀ x c,X.env.cells.lookup x=some c->c≠X.env.locals:=fun x c e z=>by
 obtain⟨v,o,ho,hd⟩:=I.cell x c e
 obtain⟨m,⟨o',es,ep,ho',hd',_⟩,_⟩:=I.loc
 rw[z,ho']at ho;cases ho;rw[hd']at hd;cases hd
theorem Inv.mK (I:Inv X pz σ H s):s.heap.FunFrames X.base X.outer:=by
 have all:∀(l:List Env),(∀ b∈vQ l,b∈X.fs)->X.s₀.heap.FunFrames X.base l->s.heap.FunFrames X.base l:=by
  intro l
  induction l with
  |nil=>intro _ _;trivial
  |cons env r ih =>
   intro hs hl
   obtain⟨hk,⟨L,o,hf,hn,ho,hd⟩,hr⟩:=hl
   have hL:L∈X.fs:=hs L (by unfold vQ;rw[f6,hf];exact dh)
   obtain⟨sl,e⟩:=I.base.slot L o ho (I.ok.frf L hL) hL fun z=>I.ok.exfs L z hL
   exact⟨hk,⟨L,_,hf,hn,e,hd⟩,ih (fun b hb=>hs b (by unfold vQ;rw[f6,hf];exact cj _ hb)) hr⟩
 exact all X.outer (fun _ hb=>hb) I.ok.mK
theorem Inv.stack (I:Inv X pz σ H s):s.heap.FunFrames X.base X.stack:=by
 rcases I.ok.stk with e|⟨e,hf⟩
 ·rw[e];exact I.mK
 ·rw[e]
  obtain⟨m,hn,_⟩:=I.loc
  refine .cons (by rw[I.ok.kind];decide) hf hn ?_ I.mK
  exact Heap.get?_none_of_le (c7 I.ok.bsz I.ok.above)
theorem Inv.E7 (I:Inv X pz σ H s):∀ b∈vQ X.stack,b∈X.env.locals::X.fs:=fun b hb=>by
 rcases I.ok.stk with e|⟨e,hf⟩
 ·rw[e]at hb;exact cj _ hb
 ·rw[e]at hb
  unfold vQ at hb
  rw[f6,hf]at hb
  exact hb
theorem Inv.OH (I:Inv X pz σ H s):∀ b∈vQ X.stack,H b=none:=fun b hb=>by
 rcases List.mem_cons.mp (I.E7 b hb)with e|hb
 ·rw[e];exact I.free
 ·obtain⟨_,o,ho,_⟩:=I.ok.mK.mem hb
  exact I.base.free b o ho (I.ok.frf b hb) fun z=>I.ok.exfs b z hb
theorem Inv.step {g':Array Uo}{t':Nat}{d':Drawn}{ch:List Addr}(I:Inv X pz σ H s)
  (hch:∀ b∈ch,(b∈X.ex∨X.s₀.heap.objs.size<=b)/\b≠X.env.locals/\(∀ x c,X.env.cells.lookup x=some c->c≠b)/\∀ p∈X.pn++pz,p.1≠b)
  (keep:∀ b o,b≠X.env.locals->b∉X.fs->b∉ch->s.heap.get? b=some o->H b=none->h'.get? b=some o)
  (slot:∀ b o,b≠X.env.locals->b∈X.fs->b∉ch->s.heap.get? b=some o->H b=none->∃ sl,h'.get? b=some { o with slots:=sl })(free:∀ b o,b∉ch->s.heap.get? b=some o->H b=none->H' b=none)
  (there:∀ b o,b∉ch->s.heap.get? b=some o->∃ o',h'.get? b=some o')
  (tO:∀ b xs,H b=some (.tup xs)->H' b=some (.tup xs))(oY:∀ b o u,H b=some (.frz o u)->H' b=some (.frz o u))(rM:∀ b ps,H b=some (.tbl ps)->∃ more,H' b=some (.tbl (ps++more)))
  (ns:∀ m,s.heap.Ns X.env.locals m->h'.Ns X.env.locals m)(bT:iL X.prog X.w H' h')(hg:sh g'):
  Inv X pz σ H' { s with heap:=h',gens:=g',drawn:=d',toks:=t' }:=by
 have neL:∀ b o,X.s₀.heap.get? b=some o->b≠X.env.locals:=fun b o e=>cg (br (bh e) I.ok.above)
 have neC:∀ b o,X.s₀.heap.get? b=some o->b∉X.ex->b∉ch:=fun b o e hx hb=>by
  rcases(hch b hb).1 with z|z
  ·exact hx z
  ·exact absurd (br (bh e) z) (fh _)
 have cellK:∀ x c,X.env.cells.lookup x=some c->∀ v,s.heap.IsCell c v->h'.IsCell c v:=fun x c e v ⟨o,ho,hd⟩=>by
  have nch:c∉ch:=fun z=>(hch c z).2.2.1 x c e rfl
  by_cases hc:c∈X.fs
  ·obtain⟨sl,q⟩:=slot c o (I.IP x c e) hc nch ho (I.lO x c e)
   exact⟨_,q,hd⟩
  ·exact⟨o,keep c o (I.IP x c e) hc nch ho (I.lO x c e),hd⟩
 refine⟨I.ok,I.os,hg,⟨fun b o e n hb hx=>?_,fun b o e n hb hx=>?_,fun b o e n hx=>?_,fun b o e hx=>?_,fun b xs e=>tO b xs (I.base.tO b xs e),fun b o xs e=>oY b o xs (I.base.oY b o xs e),fun b ps e=>?_⟩,?_,fun x c e=>?_,?_,fun x c e=>?_,fun p hp=>?_,bT,I.len⟩
 ·exact keep b o (neL b o e) hb (neC b o e hx) (I.base.keep b o e n hb hx) (I.base.free b o e n hx)
 ·obtain⟨sl,e1⟩:=I.base.slot b o e n hb hx
  obtain⟨sl',e2⟩:=slot b _ (neL b o e) hb (neC b o e hx) e1 (I.base.free b o e n hx)
  exact⟨sl',e2⟩
 ·obtain⟨o',e1⟩:=I.base.there b o e hx
  exact free b o' (neC b o e hx) e1 (I.base.free b o e n hx)
 ·obtain⟨o',e1⟩:=I.base.there b o e hx
  exact there b o' (neC b o e hx) e1
 ·obtain⟨m1,e1⟩:=I.base.rM b ps e
  obtain⟨m2,e2⟩:=rM b _ e1
  exact⟨m1++m2,by rw[e2,Array.append_assoc]⟩
 ·obtain⟨m,hn,hl⟩:=I.loc
  refine⟨m,ns m hn,fun i x v e1 e2 e3=>?_⟩
  obtain⟨u,r,l⟩:=hl i x v e1 e2 e3
  refine⟨u,r,?_⟩
  rcases l with l|⟨k,c,e,z⟩
  ·exact .inl l
  ·exact .inr ⟨k,c,e,cellK x c e _ z⟩
 ·obtain⟨v,z⟩:=I.cell x c e
  exact⟨v,cellK x c e v z⟩
 ·obtain⟨m,⟨o,_,_,ho,_⟩,_⟩:=I.loc
  exact free _ o (fun z=>(hch _ z).2.1 rfl) ho I.free
 ·obtain⟨v,o,ho,hd⟩:=I.cell x c e
  exact free c o (fun z=>(hch c z).2.2.1 x c e rfl) ho (I.lO x c e)
 ·obtain⟨e,n,ne,nf,d⟩:=I.pin p hp
  have nch:p.1∉ch:=fun z=>(hch p.1 z).2.2.2 p hp rfl
  exact⟨keep p.1 p.2 ne nf nch e n,free p.1 p.2 nch e n,ne,nf,d⟩
theorem Inv.un {t':Nat}(I:Inv X pz σ H s)(u:Un X.fs [] H H' s.heap h')(bT:iL X.prog X.w H' h'):Inv X pz σ H' { s with heap:=h',toks:=t' }:=by
 obtain⟨m,⟨o,es,ep,ho,r⟩,_⟩:=id I.loc
 obtain⟨sl,hL⟩:=u.any ho I.free (by simp)
 exact I.step (g':=s.gens) (d':=s.drawn) (ch:=[]) (fun _ z=>nomatch z) (fun b o _ hb _ e n=>u.keep b o e n hb (by simp)) (fun b o _ hb _ e n=>u.slot b o e n hb (by simp)) (fun b o _ e n=>u.free b o e n (by simp)) (fun b o _ e=>u.there b o e (by simp)) u.tO u.oY u.rM (fun m' hm=>by
 obtain⟨o',es',ep',ho',r'⟩:=hm
 rw[ho]at ho';cases ho'
 exact⟨_,es',ep',hL,r'⟩) bT I.bare
theorem Inv.call {g':Array Uo}{t':Nat}{d':Drawn}{ch:List Addr}(I:Inv X pz σ H s)(u:Un (vQ X.stack) ch H H' s.heap h')(bT:iL X.prog X.w H' h')(hg:sh g')
 (hch:∀ b∈ch,(b∈X.ex∨X.s₀.heap.objs.size<=b)/\b≠X.env.locals/\(∀ x c,X.env.cells.lookup x=some c->c≠b)/\∀ p∈X.pn++pz,p.1≠b):
 Inv X pz σ H' { s with heap:=h',gens:=g',drawn:=d',toks:=t' }:=by
 obtain⟨m,⟨o,es,ep,ho,r⟩,_⟩:=id I.loc
 obtain⟨sl,hL⟩:=u.any ho I.free fun z=>(hch _ z).2.1 rfl
 exact I.step (ch:=ch) hch (fun b o hL hb hc e n=>u.keep b o e n (fun z=>(List.mem_cons.mp (I.E7 b z)).elim hL hb) hc) (fun b o _ _ hc e n=>u.any e n hc) (fun b o hc e n=>u.free b o e n hc) (fun b o hc e=>u.there b o e hc) u.tO u.oY u.rM (fun m' hm=>by
 obtain⟨o',es',ep',ho',r'⟩:=hm
 rw[ho]at ho';cases ho'
 exact⟨_,es',ep',hL,r'⟩) bT hg
theorem Inv.turned {t':Nat}{it:Addr}(I:Inv X pz σ H s)(k:∀ b o,b≠it->s.heap.get? b=some o->h'.get? b=some o)(hn:H it=none)(hL:it≠X.env.locals)
  (h1:it∈X.ex∨X.s₀.heap.objs.size<=it)(h2:∀ x c,X.env.cells.lookup x=some c->c≠it)(h3:∀ p∈X.pn++pz,p.1≠it):Inv X pz σ H { s with heap:=h',toks:=t' }:=by
 have nit:∀ b u,H b=some u->b≠it:=fun b u e z=>by rw[z,hn]at e;cases e
 refine I.step (g':=s.gens) (d':=s.drawn) (ch:=[it]) (fun b hb=>?_) (fun b o _ _ hc e _=>k b o (fun z=>hc (by simp [z])) e) (fun b o _ _ hc e _=>⟨o.slots,k b o (fun z=>hc (by simp [z])) e⟩) (fun _ _ _ _ n=>n)
  (fun b o hc e=>⟨o,k b o (fun z=>hc (by simp [z])) e⟩) (fun _ _ e=>e) (fun _ _ _ e=>e) (fun b ps e=>⟨#[],by rw[e];simp⟩) (fun m hm=>?_) (fun b u e=>?_) I.bare
 ·have e:b=it:=by simpa using hb
  subst e
  exact⟨h1,hL,h2,h3⟩
 ·obtain⟨o,es,ep,ho,r⟩:=hm
  exact⟨o,es,ep,k _ o (ey hL) ho,r⟩
 ·refine(I.bT b u e).rA (fun c v hc q=>k c v ?_ q) (fun _ q=>q) fun _ _ q=>q
  rcases hc with z|z
  ·rw[z];exact nit b u e
  ·exact nit c _ z
theorem Inv.tok (I:Inv X pz σ H s)(t:Nat):Inv X pz σ H { s with toks:=t }:=I.un (h':=s.heap) (t':=t) Un.refl I.bT
theorem Inv.kept {t':Nat}(I:Inv X pz σ H s)(k:∀ b u,s.heap.get? b=some u->h'.get? b=some u):Inv X pz σ H { s with heap:=h',toks:=t' }:=I.un (Un.kept k) (I.bT.kept k)
theorem Inv.laid {a:Addr}{o:HO}{t':Nat}(I:Inv X pz σ H s)(k:∀ b u,s.heap.get? b=some u->h'.get? b=some u)(hp:s.heap.objs.size<=a)(new:kO X.prog X.w (upd H a o) h' a o):
 Inv X pz σ (upd H a o) { s with heap:=h',toks:=t' }:=I.un (Un.laid k hp (I.bT.fresh hp)) (I.bT.laid k hp new)
theorem Inv.write {x e:Addr}{o:HO}{t':Nat}(I:Inv X pz σ H s)(mu:YU (H x))(he:e=x∨H e=some (.own x))(k:∀ b u,b≠e->s.heap.get? b=some u->h'.get? b=some u)(heo:∃ u,h'.get? e=some u)
 (new:kO X.prog X.w (upd H x o) h' x o):Inv X pz σ (upd H x o) { s with heap:=h',toks:=t' }:=I.un (Un.write mu he k heo) (I.bT.write mu he k heo new)
theorem Inv.weak {σ':List (Option V)}(I:Inv X pz σ H s)(hl:σ'.length=σ.length)(w:∀(i:Nat) v,σ'[i]? = some (some v)->σ[i]? = some (some v)):Inv X pz σ' H s :=
 ⟨I.ok,I.os,I.bare,I.base,let⟨m,hn,hl'⟩:=I.loc;⟨m,hn,fun i x v e1 e2 e3=>hl' i x v e1 (w i v e2) e3⟩,I.cell,I.free,I.lO,I.pin,I.bT,hl.trans I.len⟩
theorem Inv.OV {pz':List (Addr×Obj)}(I:Inv X pz σ H s)(h:∀ p∈pz',s.heap.get? p.1=some p.2/\H p.1=none/\p.1≠X.env.locals/\p.1∉X.fs/\∀ v,p.2.data≠.cell v):Inv X pz' σ H s :=
 ⟨I.ok,I.os,I.bare,I.base,I.loc,I.cell,I.free,I.lO,fun p hp=>(List.mem_append.mp hp).elim (fun z=>I.pin p (px _ z)) (h p),I.bT,I.len⟩
theorem MU {N:List Str}(hN:N.Nodup){i j:Nat}{x:Str}(a:N[i]? = some x)(b:N[j]? = some x):i=j:=by
 obtain⟨h1,e1⟩:=List.getElem?_eq_some_iff.mp a
 obtain⟨h2,e2⟩:=List.getElem?_eq_some_iff.mp b
 exact(List.getElem_inj hN).mp (e1.trans e2.symm)
theorem HN {M:Model}{A:cb}{E:ae->ag->Prop}{i:Nat}{x:Str}{v:V}{u:ae}{Q:Unit->ag->Prop}(I:Inv X pz σ H s)(hN:X.N.Nodup)(hi:X.N[i]? = some x)(hx:Loc X.env.scope x)(r:RelV v u)
  (h:∀ s',Inv X pz (σ.set i (some v)) H s'->(∃ a,kq a s.heap s'.heap/\(a=X.env.locals∨X.env.cells.lookup x=some a))->Q () s')(hf:X.fn x=true∨X.env.scope.names.lookup x=some .local:=by first|exact .inl rfl|exact .inr rfl|assumption):wpAny M A (storeName X.env x u) Q E s:=by
 obtain⟨m,hn,hl⟩:=id I.loc
 have hcls:(X.env.scope.kind == .class||(X.env.scope.kind == .module&&X.env.locals != X.env.globals))=false:=by rw[I.ok.kind];rfl
 have hiσ:i<σ.length:=by rw[I.len];exact(List.getElem?_eq_some_iff.mp hi).1
 have IP:=I.IP
 have tracked:∀{a:Addr}{h':Heap},(∃ o,s.heap.get? a=some o/\H a=none)->kq a s.heap h'->iL X.prog X.w H h':=fun{a h'} ha hs b ob e=>by
  obtain⟨_,_,hfree⟩:=ha
  refine(I.bT b ob e).rA (fun c w' hc q=>(hs.2 c ?_).trans q) (fun _ q=>q) fun _ _ q=>q
  rintro rfl
  rcases hc with rfl|hc
  ·rw[hfree]at e;cases e
  ·rw[hfree]at hc;cases hc
 rcases hx with hk|hk
 ·refine wpAny_storeName_local hk hn (fun h' hn' hs=>?_) hcls
  obtain⟨oL,_,_,hoL,_⟩:=id hn
  refine h _ ⟨I.ok,I.os,I.bare,⟨fun b o e n hb hx=>?_,fun b o e n hb hx=>?_,I.base.free,fun b o e hx=>?_,I.base.tO,I.base.oY,I.base.rM⟩,⟨_,hn',fun j y v' e1 e2 e3=>?_⟩,fun y c e=>?_,I.free,I.lO,fun p hp=>?_,tracked ⟨oL,hoL,I.free⟩ hs,by simpa using I.len⟩ ⟨_,hs,.inl rfl⟩
  ·exact(hs.2 b (cg (br (bh e) I.ok.above))).trans (I.base.keep b o e n hb hx)
  ·obtain⟨sl,e1⟩:=I.base.slot b o e n hb hx
   exact⟨sl,(hs.2 b (cg (br (bh e) I.ok.above))).trans e1⟩
  ·obtain⟨o',e1⟩:=I.base.there b o e hx
   exact⟨o',(hs.2 b (cg (br (bh e) I.ok.above))).trans e1⟩
  ·by_cases hj:j=i
   ·subst hj
    rw[hi]at e1;cases e1
    rw[kr hiσ]at e2
    cases e2
    exact⟨u,r,.inl ⟨hk,by simp⟩⟩
   ·rw[ig (ey hj)]at e2
    obtain⟨u',r',q⟩:=hl j y v' e1 e2 e3
    refine⟨u',r',?_⟩
    rcases q with⟨k,e⟩|⟨k,c,e,z⟩
    ·refine .inl ⟨k,?_⟩
     have:y≠x:=fun e=>hj (MU hN e1 (e▸hi))
     simp [this,e]
    ·exact .inr ⟨k,c,e,z.sameBut hs (IP y c e)⟩
  ·obtain⟨w',z⟩:=I.cell y c e
   exact⟨w',z.sameBut hs (IP y c e)⟩
  ·obtain⟨e,n,ne,nf,d⟩:=I.pin p hp
   exact⟨(hs.2 p.1 ne).trans e,n,ne,nf,d⟩
 ·have hfn:X.fn x=true:=by
   rcases hf with z|z
   ·exact z
   ·rw[z]at hk;cases hk
  obtain⟨c,hc⟩:=I.ok.has x (.inl hk)
  obtain⟨w',z⟩:=I.cell x c hc
  refine wpAny_storeName_cell I.ok.kind hk hc z (fun h' hc' hs=>?_)
  obtain⟨oc,hoc,hocd⟩:=id z
  refine h { s with heap:=h' } ⟨I.ok,I.os,I.bare,⟨fun b o e n hb hx=>?_,fun b o e n hb hx=>?_,I.base.free,fun b o e hx=>?_,I.base.tO,I.base.oY,I.base.rM⟩,⟨m,hn.sameBut hs (ey (IP x c hc)),fun j y v' e1 e2 e3=>?_⟩,fun y c' e=>?_,I.free,I.lO,fun p hp=>?_,tracked ⟨oc,hoc,I.lO x c hc⟩ hs,by simpa using I.len⟩ ⟨c,hs,.inr hc⟩
  ·exact(hs.2 b (cg (br (bh e) (I.ok.cab x c hfn hc)))).trans (I.base.keep b o e n hb hx)
  ·obtain⟨sl,e1⟩:=I.base.slot b o e n hb hx
   exact⟨sl,(hs.2 b (cg (br (bh e) (I.ok.cab x c hfn hc)))).trans e1⟩
  ·obtain⟨o',e1⟩:=I.base.there b o e hx
   exact⟨o',(hs.2 b (cg (br (bh e) (I.ok.cab x c hfn hc)))).trans e1⟩
  ·by_cases hj:j=i
   ·subst hj
    rw[hi]at e1;cases e1
    rw[kr hiσ]at e2
    cases e2
    exact⟨u,r,.inr ⟨.inl hk,c,hc,hc'⟩⟩
   ·rw[ig (ey hj)]at e2
    obtain⟨u',r',q⟩:=hl j y v' e1 e2 e3
    refine⟨u',r',?_⟩
    rcases q with q|⟨k,c',e,z'⟩
    ·exact .inl q
    ·refine .inr ⟨k,c',e,z'.sameBut hs ?_⟩
     rintro rfl
     exact hj (MU hN e1 (I.ok.inj _ _ _ e hc▸hi))
  ·by_cases hcc:c'=c
   ·subst hcc;exact⟨_,hc'⟩
   ·obtain⟨w2,z2⟩:=I.cell y c' e
    exact⟨w2,z2.sameBut hs hcc⟩
  ·obtain⟨e,n,ne,nf,d⟩:=I.pin p hp
   refine⟨(hs.2 p.1 ?_).trans e,n,ne,nf,d⟩
   intro q
   rw[q,hoc]at e
   have q':oc=p.2:=cw e
   exact d w' (by rw[<-q'];exact hocd)
theorem XF {M:Model}{A:cb}{E:ae->ag->Prop}{i:Nat}{x:Str}{v:V}{u:ae}{Q:Unit->ag->Prop}(I:Inv X pz σ H s)(hN:X.N.Nodup)(hi:X.N[i]? = some x)(hx:Loc X.env.scope x)(r:RelV v u)
 (h:∀ s',Inv X pz (σ.set i (some v)) H s'->Q () s')(hf:X.fn x=true∨X.env.scope.names.lookup x=some .local:=by first|exact .inl rfl|exact .inr rfl|assumption):wpAny M A (storeName X.env x u) Q E s :=
 HN I hN hi hx r (fun s' I' _=>h s' I') hf
theorem Inv.YE {s':ag}{ch:List Addr}(I:Inv X pz σ H s)(ho:s'.os=s.os)(u:Un (vQ X.stack) ch H H' s.heap s'.heap)(bT:iL X.prog X.w H' s'.heap)(hg:sh s'.gens)
 (hch:∀ b∈ch,(b∈X.ex∨X.s₀.heap.objs.size<=b)/\b≠X.env.locals/\(∀ x c,X.env.cells.lookup x=some c->c≠b)/\∀ p∈X.pn++pz,p.1≠b):Inv X pz σ H' s':=by
 obtain⟨h',g',d',t',o'⟩:=s'
 have e:o'=s.os:=ho
 subst e
 exact I.call (g':=g') (t':=t') (d':=d') u bT hg hch
end
abbrev XK:=ae->Option Addr->Hp->Prop
noncomputable abbrev St:=List (Option V)
abbrev VK:=V->Hp->Prop
abbrev TE:=St->Hp->VK->Prop
abbrev TT:=St->Hp->(Bool->Hp->Prop)->Prop
abbrev TA:=St->Hp->(List V->Hp->Prop)->Prop
structure Ends where
 nx:St->Hp->Prop
 rt:VK
 bk:St->Hp->Prop:=fun _ _=>False
 ct:St->Hp->Prop:=fun _ _=>False
abbrev TS:=Ends->St->Hp->Prop
inductive EP (X:Cx)(pz:List (Addr×Obj))(σ:St)(Q:VK)(u:ae)(s':ag):Prop
 |mk (v:V)(H':Hp)(i:Inv X pz σ H' s')(r:RelV v u)(q:Q v H')
inductive TP (X:Cx)(pz:List (Addr×Obj))(σ:St)(Q:Bool->Hp->Prop)(b:Bool)(s':ag):Prop
 |mk (H':Hp)(i:Inv X pz σ H' s')(q:Q b H')
inductive AP (X:Cx)(pz:List (Addr×Obj))(σ:St)(Q:List V->Hp->Prop)(us:List ae)(s':ag):Prop
 |mk (vs:List V)(H':Hp)(i:Inv X pz σ H' s')(r:aU vs us)(q:Q vs H')
def SP (X:Cx)(pz:List (Addr×Obj))(D:Ends)(f:Flow)(s':ag):Prop :=
 match f with
 |.next=>∃ σ' H',Inv X pz σ' H' s'/\D.nx σ' H'
 |.brk=>∃ σ' H',Inv X pz σ' H' s'/\D.bk σ' H'
 |.cont=>∃ σ' H',Inv X pz σ' H' s'/\D.ct σ' H'
 |.ret u=>∃ v σ' H',Inv X pz σ' H' s'/\RelV v u/\D.rt v H'
def PE (X:Cx)(e:Expr)(t:TE):Prop :=
 ∀(pz:List (Addr×Obj))(s:ag)(σ:St)(H:Hp)(Q:VK),Inv X pz σ H s->t σ H Q->wpAny (model X.prog X.w) X.A (eval e X.env) (EP X pz σ Q) X.xe s
def PT (X:Cx)(e:Expr)(t:TT):Prop :=
 ∀(pz:List (Addr×Obj))(s:ag)(σ:St)(H:Hp)(Q:Bool->Hp->Prop),Inv X pz σ H s->t σ H Q->wpAny (model X.prog X.w) X.A (zk e X.env (eval e X.env)) (TP X pz σ Q) X.xe s
def PW (X:Cx)(e:Expr)(t:TT):Prop :=
 ∀(whole:Sem ae)(pz:List (Addr×Obj))(s:ag)(σ:St)(H:Hp)(Q:Bool->Hp->Prop),Inv X pz σ H s->t σ H Q->wpAny (model X.prog X.w) X.A (zk e X.env whole) (TP X pz σ Q) X.xe s
theorem PW.pt {X:Cx}{e:Expr}{t:TT}(h:PW X e t):PT X e t:=h _
def PA (X:Cx)(es:List Expr)(t:TA):Prop :=
 ∀(pos:Pos)(pz:List (Addr×Obj))(s:ag)(σ:St)(H:Hp)(Q:List V->Hp->Prop),Inv X pz σ H s->t σ H Q->wpAny (model X.prog X.w) X.A (ym (du pos (ao es X.env))) (AP X pz σ Q) X.xe s
def PS (X:Cx)(st:Stmt)(t:TS):Prop :=
 ∀(pz:List (Addr×Obj))(s:ag)(σ:St)(H:Hp)(D:Ends),Inv X pz σ H s->t D σ H->wpAny (model X.prog X.w) X.A (exec st X.env) (SP X pz D) X.xe s
def lQ (X:Cx)(st:List Stmt)(t:TS):Prop :=
 ∀(pz:List (Addr×Obj))(s:ag)(σ:St)(H:Hp)(D:Ends),Inv X pz σ H s->t D σ H->wpAny (model X.prog X.w) X.A (execs st X.env) (SP X pz D) X.xe s
theorem bD {α:Type}{t:Sem α}{Q Q':α->ag->Prop}{M:Model}{A:cb}{E:ae->ag->Prop}{s:ag}(h:wpAny M A t Q E s)(hQ:∀ a s,Q a s->Q' a s):wpAny M A t Q' E s:=jq h hQ fun _ _ x=>x
end L2
namespace L2
open PySem PySem.Spec PyProof.Rows
section
variable {X:Cx}
theorem bin {a b:Expr}{ta tb:TE}(ha:PE X a ta)(hb:PE X b tb){pz:List (Addr×Obj)}{s:ag}{σ:St}{H:Hp}{R:V->V->Hp->Prop}(I:Inv X pz σ H s)(h:ta σ H fun x H1=>tb σ H1 fun y H2=>R x y H2)
 {α:Type}{Q:α->ag->Prop}{f:ae->ae->Sem α}
 (hf:∀ v u s2 x y H2,Inv X pz σ H2 s2->RelV x v->RelV y u->R x y H2->wpAny (model X.prog X.w) X.A (f v u) Q X.xe s2):
 wpAny (model X.prog X.w) X.A (eval a X.env) (fun v s₁=>wpAny (model X.prog X.w) X.A (eval b X.env) (fun u s₂=>wpAny (model X.prog X.w) X.A (f v u) Q X.xe s₂) X.xe s₁) X.xe s:=by
 refine bD (ha pz s σ H _ I h) fun v s1 ⟨x,H1,I1,r1,q1⟩=>?_
 refine bD (hb pz s1 σ H1 _ I1 q1) fun u s2 ⟨y,H2,I2,r2,q2⟩=>?_
 exact hf v u s2 x y H2 I2 r1 r2 q2
noncomputable def XX (i:Nat):TE:=fun σ H Q=>∃ v,σ[i]? = some (some v)/\Q v H
noncomputable def tC (v:V):TE:=fun _ H Q=>Q v H
theorem S3 {i:Nat}{x:Str}{pos:Pos}(hN:X.N[i]? = some x)(hv:YW X.env.scope x)(hd:(x==("__debug__" : Str))=false:=by decide)(hcd:(x==("__classdict__" : Str))=false:=by decide):PE X (.Name x pos) (XX i):=by
 intro pz s σ H Q I h
 obtain⟨v,e,h⟩:=h
 obtain⟨m,hn,hl⟩:=I.loc
 obtain⟨u,r,l⟩:=hl i x v hN e hv
 have fin:EP X pz σ Q u s:=⟨v,H,I,r,h⟩
 rcases l with⟨hk,hm⟩|⟨hk,c,hc,hcell⟩
 ·exact Up (wpAny_loadName_local I.ok.kind hk hn hm fin) hd
 ·rcases hk with hk|hk
  ·exact Up (wpAny_loadName_cell I.ok.kind hk hc hcell fin) hd
  ·exact Up (wpAny_loadName_free I.ok.kind hk hc hcell fin hcd) hd
theorem Dq {i j pos}:PE X (.Constant (.int i) j pos) (tC (.int i)):=fun _ _ _ H _ I h=>wpAny_Constant_int ⟨.int i,H,I.tok _,⟨_,rfl⟩,h⟩
theorem Lg {b j pos}:PE X (.Constant (.bool b) j pos) (tC (.bl b)):=fun _ _ _ H _ I h=>Constant_bool ⟨.bl b,H,I,rfl,h⟩
theorem Ic {j pos}:PE X (.Constant .none j pos) (tC .non):=fun _ _ _ H _ I h=>Constant_none ⟨.non,H,I,rfl,h⟩
theorem Gg {x j pos}:PE X (.Constant (.str x) j pos) (tC (.str x)):=fun _ _ _ H _ I h=>Calls.Constant_str ⟨.str x,H,I.tok _,⟨_,rfl⟩,h⟩
def Gl (X:Cx)(x:Str):Prop:=X.env.kindOf x=some .globalImplicit
theorem A8 {E:ae->ag->Prop}{pz:List (Addr×Obj)}{s:ag}{σ:St}{H:Hp}{x:Str}{u:ae}{pos:Pos}{Q:ae->ag->Prop}(I:Inv X pz σ H s)(hg:Gl X x)(hm:X.mg x=some u)(h:Q u s)
 (hd:(x==("__debug__" : Str))=false:=by decide):wpAny (model X.prog X.w) X.A (eval (.Name x pos) X.env) Q E s :=
 qz I.ok.kind hg (Calls.loadGlobal_global (by rw[I.ok.glob];exact I.mod.glob.keeps I.bk) hm h) hd
theorem qP {E:ae->ag->Prop}{pz:List (Addr×Obj)}{s:ag}{σ:St}{H:Hp}{x:Str}{u:ae}{pos:Pos}{Q:ae->ag->Prop}(I:Inv X pz σ H s)(hg:Gl X x)(hm:X.mg x=none)(hv:cz x=some u)(h:Q u s)
 (hn:x ≠"__name__":=by decide)(hd:(x==("__debug__" : Str))=false:=by decide):wpAny (model X.prog X.w) X.A (eval (.Name x pos) X.env) Q E s:=by
 obtain⟨mb,h1,h2⟩:=I.mod.blt
 exact qz I.ok.kind hg (Calls.loadGlobal_builtin (by rw[I.ok.glob];exact I.mod.glob.keeps I.bk) hm (by rw[I.ok.blt];exact h1.keeps I.bk) ((h2 x hn).trans hv) h) hd
theorem Cy {x:Str}{v:V}{u:ae}{pos:Pos}(hg:Gl X x)(hm:X.mg x=some u)(r:RelV v u)(hd:(x==("__debug__" : Str))=false:=by decide):PE X (.Name x pos) (tC v) :=
 fun _ _ _ H _ I h=>A8 I hg hm ⟨v,H,I,r,h⟩ hd
theorem Ad {x:Str}{v:V}{u:ae}{pos:Pos}(hg:Gl X x)(hm:X.mg x=none)(hv:cz x=some u)(r:RelV v u)(hn:x ≠"__name__":=by decide)(hd:(x==("__debug__" : Str))=false:=by decide):PE X (.Name x pos) (tC v) :=
 fun _ _ _ H _ I h=>qP I hg hm hv ⟨v,H,I,r,h⟩ hn hd
variable {a b:Expr}{ta tb:TE}{pos:Pos}
theorem RelV.XW {x:V}{v:ae}(r:RelV x v):(v==jd)=decide (x=.non):=by
 cases x with
 |non=>cases r;rfl
 |bl _=>cases r;rfl
 |int _=>obtain⟨t,rfl⟩:=r;rfl
 |str _=>obtain⟨t,rfl⟩:=r;rfl
 |byt _=>obtain⟨t,rfl⟩:=r;rfl
 |flt _=>obtain⟨t,rfl⟩:=r;rfl
 |ref _=>cases r;rfl
 |ty _=>cases r;rfl
variable {tA tB':TT}{rest:List Expr}
noncomputable def Qq (t u:TT):TT:=fun σ H Q=>t σ H fun c H1=>if c=true then u σ H1 Q else Q false H1
noncomputable def Ti (t u:TT):TT:=fun σ H Q=>t σ H fun c H1=>if c=true then Q true H1 else u σ H1 Q
noncomputable def Qj (t:TT):TT:=fun σ H Q=>t σ H fun c H1=>Q (!c) H1
theorem Bz (ha:PT X a tA):PW X (.BoolOp .And [a] pos) tA:=by
 intro wh pz s σ H Q I h
 refine isTrue_and (bD (ha pz s σ H Q I h) fun c s1 e=>?_)
 cases c with
 |true=>exact isTrue_and_nil e
 |false=>exact e
theorem Gn (ha:PT X a tA):PW X (.BoolOp .Or [a] pos) tA:=by
 intro wh pz s σ H Q I h
 refine isTrue_or (bD (ha pz s σ H Q I h) fun c s1 e=>?_)
 cases c with
 |false=>exact isTrue_or_nil e
 |true=>exact e
theorem Fg (ha:PT X a tA)(hb:PW X (.BoolOp .And (b::rest) pos) tB'):PW X (.BoolOp .And (a::b::rest) pos) (Qq tA tB'):=by
 intro wh pz s σ H Q I h
 refine isTrue_and (bD (ha pz s σ H _ I h) fun c s1 ⟨H1,I1,q1⟩=>?_)
 cases c with
 |true=>exact hb wh pz s1 σ H1 Q I1 q1
 |false=>exact⟨H1,I1,q1⟩
theorem Ks (ha:PT X a tA)(hb:PW X (.BoolOp .Or (b::rest) pos) tB'):PW X (.BoolOp .Or (a::b::rest) pos) (Ti tA tB'):=by
 intro wh pz s σ H Q I h
 refine isTrue_or (bD (ha pz s σ H _ I h) fun c s1 ⟨H1,I1,q1⟩=>?_)
 cases c with
 |true=>exact⟨H1,I1,q1⟩
 |false=>exact hb wh pz s1 σ H1 Q I1 q1
theorem Hj (ha:PT X a tA):PT X (.UnaryOp .Not a pos) (Qj tA):=by
 intro pz s σ H Q I h
 exact isTrue_not (bD (ha pz s σ H (fun c H1=>Q (!c) H1) I h) fun c s1 ⟨H1,I1,q⟩=>⟨H1,I1,q⟩)
theorem Iq {op}{t:TE}(h:PE X a t):PE X (.BoolOp op [a] pos) t:=fun pz s σ H Q I hw=>BoolOp_one (h pz s σ H Q I hw)
end
end L2
namespace L2
open PySem PySem.Spec PyProof.Rows
def eT (K:aa)(H:Hp)(a:Addr)(xs:List V):Prop :=
 Rd H a (.lst xs) ∨
 ∃(o:Obj)(aD:Array ae)(n:Nat),K.lookup a=some o/\o.cls=.type "list" /\ o.dict=none/\o.data=.seq aD n/\aD.size<=sizeLine/\aU xs aD.toList
def eU (K:aa)(H:Hp)(a:Addr)(xs:List V):Prop :=
 Rd H a (.tup xs) ∨
 ∃(o:Obj)(aD:Array ae)(n:Nat),K.lookup a=some o/\o.cls=.type "tuple" /\ o.dict=none/\o.data=.seq aD n/\aD.size<=sizeLine/\aU xs aD.toList
noncomputable def Sz:ae->Option V
 |.none=>some .non
 |.bool b=>some (.bl b)
 |.int i _=>some (.int i)
 |.str x _=>some (.str x)
 |.bytes b _=>some (.byt b)
 |.float b _=>some (.flt b)
 |.ref a=>some (.ref a)
 |.type n=>some (.ty n)
 |_=>none
theorem RelV.abs {x:V}{u:ae}(r:RelV x u):Sz u=some x:=by
 cases x with
 |non=>cases r;rfl
 |bl _=>cases r;rfl
 |int _=>obtain⟨t,rfl⟩:=r;rfl
 |str _=>obtain⟨t,rfl⟩:=r;rfl
 |byt _=>obtain⟨t,rfl⟩:=r;rfl
 |flt _=>obtain⟨t,rfl⟩:=r;rfl
 |ref _=>cases r;rfl
 |ty _=>cases r;rfl
theorem RelV.inj {x y:V}{u:ae}(r:RelV x u)(q:RelV y u):x=y:=cw (r.abs.symm.trans q.abs)
theorem aU.inj:∀{xs ys:List V}{us:List ae},aU xs us->aU ys us->xs=ys
 |_,_,_,.nil,.nil=>rfl
 |_,_,_,.cons r t,.cons r' t'=>by rw[r.inj r',aU.inj t t']
section
variable {X:Cx}{pz:List (Addr×Obj)}{σ:St}{H:Hp}{s:ag}{a:Addr}{xs ys:List V}
theorem eT.of {K:aa}(h:H a=some (.lst xs)):eT K H a xs:=.inl (.inl h)
theorem eU.of {K:aa}(h:H a=some (.tup xs)):eU K H a xs:=.inl (.inl h)
theorem Inv.list (I:Inv X pz σ H s)(h:eT X.K H a xs):∃ aD:List ae,aU xs aD/\PlainL s.heap a aD.toArray/\xs.length<=sizeLine:=by
 rcases h with h|⟨o,aD,n,hk,hc,hd,hs,hz,r⟩
 ·obtain⟨z,aD,n,r,e⟩:=h.ok I.bT
  exact⟨aD,r,⟨_,n,e,rfl,rfl,rfl⟩,z⟩
 ·refine⟨aD.toList,r,⟨o,n,I.jN a o hk,hc,hd,by simpa using hs⟩,?_⟩
  have e:=r.length
  simp only[jf]at e
  omega
theorem Inv.tuple (I:Inv X pz σ H s)(h:eU X.K H a xs):∃ aD:List ae,aU xs aD/\IsTup s.heap a aD.toArray/\xs.length<=sizeLine:=by
 rcases h with h|⟨o,aD,n,hk,hc,_,hs,hz,r⟩
 ·obtain⟨z,aD,r,p⟩:=h.ok I.bT
  exact⟨aD,r,p.tup,z⟩
 ·refine⟨aD.toList,r,⟨o,I.jN a o hk,hc,n,by simpa using hs⟩,?_⟩
  have e:=r.length
  simp only[jf]at e
  omega
theorem Inv.sZ (I:Inv X pz σ H s)(h:eT X.K H a xs)(h':eT X.K H a ys):xs=ys:=by
 obtain⟨aD,r,⟨o,n,e,_,_,d⟩,_⟩:=I.list h
 obtain⟨mL,r',⟨o',n',e',_,_,d'⟩,_⟩:=I.list h'
 rw[e]at e';cases e'
 rw[d]at d'
 injection d' with d1 _
 have:aD=mL:=by simpa using congrArg yn d1
 subst this
 exact r.inj r'
theorem Inv.Ol (I:Inv X pz σ H s)(h:eU X.K H a xs):∃ o,s.heap.get? a=some o/\o.dict=none:=by
 rcases h with h|⟨o,aD,n,hk,hc,hd,hs,hz,r⟩
 ·obtain⟨z,aD,r,o,e,_,_,d⟩:=h.ok I.bT
  exact⟨o,e,d⟩
 ·exact⟨o,I.jN a o hk,hd⟩
theorem Inv.tV (I:Inv X pz σ H s)(h:eU X.K H a xs)(h':eU X.K H a ys):xs=ys:=by
 obtain⟨aD,r,⟨o,e,_,n,d⟩,_⟩:=I.tuple h
 obtain⟨mL,r',⟨o',e',_,n',d'⟩,_⟩:=I.tuple h'
 rw[e]at e';cases e'
 rw[d]at d'
 injection d' with d1 _
 have:aD=mL:=by simpa using congrArg yn d1
 subst this
 exact r.inj r'
end
noncomputable abbrev Cx.vC (X:Cx)(E:ae->ag->Prop):Cx:={ X with xe:=E }
noncomputable abbrev Cx.jG (X:Cx):Cx:=X.vC fun _ _=>False
theorem Cx.Ok.vC {X:Cx}(ok:X.Ok)(E:ae->ag->Prop):(X.vC E).Ok :=
 ⟨ok.mod,ok.kind,ok.glob,ok.blt,ok.above,ok.inj,ok.has,ok.cab,ok.hd,ok.frames,ok.stk,ok.exf,ok.bs,ok.bsz,ok.noex,ok.exfs,ok.mK,ok.frf⟩
theorem Cx.Ok.qT {X:Cx}{E:ae->ag->Prop}(ok:(X.vC E).Ok):X.Ok :=
 ⟨ok.mod,ok.kind,ok.glob,ok.blt,ok.above,ok.inj,ok.has,ok.cab,ok.hd,ok.frames,ok.stk,ok.exf,ok.bs,ok.bsz,ok.noex,ok.exfs,ok.mK,ok.frf⟩
section
variable {X:Cx}{pz:List (Addr×Obj)}{σ:St}{H:Hp}{s:ag}{E:ae->ag->Prop}
theorem Inv.vC (I:Inv X pz σ H s)(E:ae->ag->Prop):Inv (X.vC E) pz σ H s:=⟨I.ok.vC E,I.os,I.bare,I.base,I.loc,I.cell,I.free,I.lO,I.pin,I.bT,I.len⟩
theorem Inv.qT (I:Inv (X.vC E) pz σ H s):Inv X pz σ H s:=⟨I.ok.qT,I.os,I.bare,I.base,I.loc,I.cell,I.free,I.lO,I.pin,I.bT,I.len⟩
theorem SP.qT {D:Ends}{f:Flow}{s':ag}(h:SP (X.vC E) pz D f s'):SP X pz D f s':=by
 cases f with
 |next=>obtain⟨σ',H',I,q⟩:=h;exact⟨σ',H',I.qT,q⟩
 |brk=>obtain⟨σ',H',I,q⟩:=h;exact⟨σ',H',I.qT,q⟩
 |cont=>obtain⟨σ',H',I,q⟩:=h;exact⟨σ',H',I.qT,q⟩
 |ret u=>obtain⟨v,σ',H',I,r,q⟩:=h;exact⟨v,σ',H',I.qT,r,q⟩
theorem lQ.jG {st:List Stmt}{t:TS}(h:lQ X.jG st t):lQ X st t:=fun pz s σ H D I hw =>
 jq (h pz s σ H D (I.vC _) hw) (fun _ _ q=>q.qT) fun _ _ z=>dy z
end
section
variable {X:Cx}{st:Stmt}{rest:List Stmt}{t u:TS}{e:Expr}{te:TE}{pos:Pos}
noncomputable def Ob:TS:=fun D σ H=>D.nx σ H
noncomputable def Qz (t u:TS):TS:=fun D σ H=>t { D with nx:=u D } σ H
theorem Bw:lQ X [] Ob:=fun _ _ σ H _ I h=>vj ⟨σ,H,I,h⟩
theorem W9 (h1:PS X st t)(h2:lQ X rest u):lQ X (st::rest) (Qz t u):=by
 intro pz s σ H D I h
 refine wpAny_execs_cons (bD (h1 pz s σ H { D with nx:=u D } I h) fun f s1 q=>?_)
 cases f with
 |next =>
 obtain⟨σ',H',I',q⟩:=q
 exact h2 pz s1 σ' H' D I' q
 |ret v=>exact q
 |brk=>exact q
 |cont=>exact q
theorem Inv.quiet {pz:List (Addr×Obj)}{σ:St}{H:Hp}{s:ag}(I:Inv X pz σ H s):interactive X.env=false:=by simp [interactive,I.ok.kind]
noncomputable def Mp (te:TE):TS:=fun D σ H=>te σ H fun _ H1=>D.nx σ H1
theorem Bd (he:PE X e te)(hs:l5 e none pos.line X.env=pure false:=by rfl):PS X (.Expr e pos) (Mp te):=by
 intro pz s σ H D I h
 exact wpAny_Expr_any (bD (he pz s σ H _ I h) fun v s1 ⟨x,H1,I1,r1,q1⟩=>⟨σ,H1,I1,q1⟩) I.quiet hs
noncomputable def Sv (te:TE):TS:=fun D σ H=>te σ H D.rt
theorem Fk (he:PE X e te):PS X (.Return (some e) pos) (Sv te):=by
 intro pz s σ H D I h
 exact wpAny_Return_some (bD (he pz s σ H _ I h) fun v s1 ⟨x,H1,I1,r1,q1⟩=>⟨x,σ,H1,I1,r1,q1⟩)
noncomputable def Nm:TS:=fun D _ H=>D.rt .non H
theorem Bv:PS X (.Return none pos) Nm:=fun _ _ σ H _ I h=>wpAny_Return_none ⟨.non,σ,H,I,rfl,h⟩
noncomputable def Qp (c:TT)(t u:TS):TS:=fun D σ H=>c σ H fun b H1=>if b=true then t D σ H1 else u D σ H1
theorem Ot {c:Expr}{a b:List Stmt}{tc:TT}(hc:PT X c tc)(ha:lQ X a t)(hb:lQ X b u):PS X (.If c a b pos) (Qp tc t u):=by
 intro pz s σ H D I h
 refine wpAny_If (bD (hc pz s σ H _ I h) fun d s1 ⟨H1,I1,q1⟩=>?_)
 cases d with
 |true=>exact ha pz s1 σ H1 D I1 q1
 |false=>exact hb pz s1 σ H1 D I1 q1
noncomputable def Iu:TS:=fun _ _ _=>False
theorem WN:PS X st Iu:=fun _ _ _ _ _ _ h=>h.elim
end
abbrev TG:=V->St->Hp->(St->Hp->Prop)->Prop
abbrev JM:=List V->St->Hp->(St->Hp->Prop)->Prop
def PG (X:Cx)(target:Expr)(t:TG):Prop :=
 ∀(pz:List (Addr×Obj))(s:ag)(σ:St)(H:Hp)(v:V)(u:ae)(Q:St->Hp->Prop),Inv X pz σ H s->RelV v u->t v σ H Q ->
 wpAny (model X.prog X.w) X.A (mh target X.env u) (fun _ s'=>∃ σ' H',Inv X pz σ' H' s'/\Q σ' H') X.xe s
def ED (X:Cx)(ts:List Expr)(t:JM):Prop :=
 ∀(pz:List (Addr×Obj))(s:ag)(σ:St)(H:Hp)(vs:List V)(us:List ae)(Q:St->Hp->Prop),Inv X pz σ H s->aU vs us->t vs σ H Q ->
 wpAny (model X.prog X.w) X.A (assignInOrder ((e8 ts X.env).map (·.2)) us) (fun _ s'=>∃ σ' H',Inv X pz σ' H' s'/\Q σ' H') X.xe s
abbrev X1:=V->V->V->Hp->(Hp->Prop)->Prop
def Ep (X:Cx)(t:X1):Prop :=
 ∀(pz:List (Addr×Obj))(s:ag)(σ:St)(H:Hp)(o i v:V)(ov iv u:ae)(Q:Hp->Prop),Inv X pz σ H s->RelV o ov->RelV i iv->RelV v u->t o i v H Q ->
 wpAny (model X.prog X.w) X.A (Vs ov iv u) (fun _ s'=>∃ H',Inv X pz σ H' s'/\Q H') X.xe s
section
variable {X:Cx}{pos:Pos}
noncomputable def EK (i:Nat):TG:=fun v σ H Q=>Q (σ.set i (some v)) H
theorem vH {i:Nat}{x:Str}(hN:X.N.Nodup)(hi:X.N[i]? = some x)(hx:Loc X.env.scope x)(hf:X.fn x=true∨X.env.scope.names.lookup x=some .local:=by first|exact .inl rfl|exact .inr rfl|assumption):PG X (.Name x pos) (EK i):=by
 intro pz s σ H v u Q I r h
 exact yo (XF I hN hi hx r (fun s' I'=>⟨_,H,I',h⟩) hf)
noncomputable def Pw:JM:=fun vs σ H Q=>vs=[]/\Q σ H
noncomputable def Lf (t:TG)(u:JM):JM:=fun vs σ H Q=>∃ v r,vs=v::r/\t v σ H fun σ' H'=>u r σ' H' Q
theorem Aq:ED X [] Pw:=by
 intro pz s σ H vs us Q I r h
 obtain⟨e,h⟩:=h
 subst e
 cases r
 exact assignInOrder_nil ⟨σ,H,I,h⟩
theorem XG {e:Expr}{es:List Expr}{t:TG}{u:JM}(h1:PG X e t)(h2:ED X es u)
 (hs:(e8 (e::es) X.env).map (·.2)=mh e X.env::(e8 es X.env).map (·.2):=by rfl):ED X (e::es) (Lf t u):=by
 intro pz s σ H vs us Q I r h
 obtain⟨v,vr,e1,h⟩:=h
 subst e1
 cases r with
 |cons r rr =>
 rw[hs]
 refine assignInOrder_cons (bD (h1 pz s σ H _ _ _ I r h) fun _ s1 ⟨σ1,H1,I1,q1⟩=>?_)
 exact h2 pz s1 σ1 H1 _ _ Q I1 rr q1
noncomputable def Jm (K:aa)(n:Nat)(t:JM):TG:=fun v σ H Q=>∃ a xs,v=.ref a/\eU K H a xs/\xs.length=n/\t xs σ H Q
theorem RU {es:List Expr}{k:Nat}{t:JM}{n:Nat}(hc:X.calm=true)(h:ED X es t)
 (hn:(e8 es X.env).length=n:=by rfl)(dN:(e8 es X.env).findIdx? (·.1)=none:=by rfl):PG X (.Tuple es k pos) (Jm X.K n t):=by
 intro pz s σ H v u Q I r hw
 obtain⟨a,xs,e1,hq,hl,hw⟩:=hw
 subst e1
 cases r
 obtain⟨aD,rv,ht,hz⟩:=I.tuple hq
 refine assign_Tuple_tuple (I.ok.hd hc) ht (by simp [hn,<-hl,rv.length]) dN fun h' hx=>?_
 have I1:Inv X pz σ H { s with heap:=h' }:=I.kept (t':=s.toks) fun b o e=>hx b o (cg (bh e)) e
 exact h pz _ σ H xs _ Q I1 (by simpa using rv) hw
noncomputable def Rc (to ti:TE)(t:X1):TG:=fun v σ H Q=>to σ H fun o H1=>ti σ H1 fun i H2=>t o i v H2 fun H3=>Q σ H3
theorem Du {o i:Expr}{to ti:TE}{t:X1}(ho:PE X o to)(hi:PE X i ti)(hs:Ep X t)
 (ha:∀ v,mh (.Subscript o i pos) X.env v=(do
  let ov <-kg [v] (eval o X.env)
  let iv <-kg [v,ov] (eval i X.env)
  n5 pos
  kg [v,ov,iv] (Vs ov iv v)
  Wu [v,ov,iv] []):=by intro _;rfl):PG X (.Subscript o i pos) (Rc to ti t):=by
 intro pz s σ H v u Q I r h
 rw[ha]
 refine af (gk (bD (ho pz s σ H _ I h) fun ov s1 ⟨x,H1,I1,r1,q1⟩=>?_))
 refine af (gk (bD (hi pz s1 σ H1 _ I1 q1) fun iv s2 ⟨y,H2,I2,r2,q2⟩=>?_))
 refine af (ph (af (gk (bD (hs pz s2 σ H2 x y v ov iv u _ I2 r1 r2 r q2) fun _ s3 ⟨H3,I3,q3⟩=>?_))))
 exact wpAny_release ⟨σ,H3,I3,q3⟩
noncomputable def Py (te:TE)(g:TG):TS:=fun D σ H=>te σ H fun x H1=>g x σ H1 D.nx
theorem Gm {tg e:Expr}{te:TE}{g:TG}(he:PE X e te)(hg:PG X tg g)(hs:pj [tg] e pos.line X.env=pure false:=by rfl)(hw:pk [tg] e X.env=pure none:=by rfl)
 (h1:(e8 [tg] X.env).map (·.2)=[mh tg X.env]:=by rfl):PS X (.Assign [tg] e pos) (Py te g):=by
 intro pz s σ H D I h
 refine wpAny_Assign_stores (bD (he pz s σ H _ I h) fun v s1 ⟨x,H1,I1,r1,q1⟩=>?_) hs hw
 rw[h1]
 exact bD (hg pz s1 σ H1 x v _ I1 r1 q1) fun _ s2 q=>q
end
section
variable {X:Cx}{pos:Pos}
noncomputable def Ee (c:TT)(tb:TS):TS:=fun D σ H=>∃ W:Nat->St->Hp->Prop,(∃ m,W m σ H)/\∀ m σ H,W m σ H ->
 c σ H fun b H1=>if b=true then ∃ N:St->Hp->Prop,(∀ σ' H',N σ' H'->∃ m',m'<m/\W m' σ' H')/\tb { D with nx:=N,ct:=N,bk:=D.nx } σ H1 else D.nx σ H1
theorem WG {c:Expr}{body:List Stmt}{tc:TT}{tb:TS}(hp:qx (model X.prog X.w) X.A X.env X.xe)(hc:PT X c tc)(hb:lQ X body tb):PS X (.While c body [] pos) (Ee tc tb):=by
 intro pz s σ H D I h
 obtain⟨W,⟨m0,w0⟩,turn⟩:=h
 refine wpAny_While (codeAny_whileLoop (fun n s'=>∃ σ' H',Inv X pz σ' H' s'/\W n σ' H') ?_ m0 ⟨σ,H,I,w0⟩)
 rintro n s1 ⟨σ1,H1,I1,w1⟩
 refine jz hp (bD (hc pz s1 σ1 H1 _ I1 (turn n σ1 H1 w1)) fun b s2 ⟨H2,I2,q2⟩=>?_)
 cases b with
 |true =>
  obtain⟨N,hN,q2⟩:=q2
  rw[if_pos rfl]
  refine jz hp (bD (hb pz s2 σ1 H2 _ I2 q2) fun f s3 q3=>?_)
  cases f with
  |next =>
   obtain⟨σ3,H3,I3,n3⟩:=q3
   obtain⟨m',hm,w3⟩:=hN σ3 H3 n3
   exact⟨m',hm,σ3,H3,I3,w3⟩
  |cont =>
   obtain⟨σ3,H3,I3,n3⟩:=q3
   obtain⟨m',hm,w3⟩:=hN σ3 H3 n3
   exact⟨m',hm,σ3,H3,I3,w3⟩
  |brk=>exact q3
  |ret v=>exact q3
 |false =>
  rw[if_neg e9]
  exact vj ⟨σ1,H2,I2,q2⟩
end
structure It where
 go:Nat->Hp->Prop
 yld:Nat->Hp->V->Hp->Prop
 stop:Nat->Hp->Prop
def oT (X:Cx)(pz:List (Addr×Obj))(H:Hp)(b:Addr):Prop :=
 H b=none/\b≠X.env.locals/\b∉X.fs/\(b∈X.ex∨X.s₀.heap.objs.size<=b)/\(∀ x c,X.env.cells.lookup x=some c->c≠b)/\∀ p∈X.pn++pz,p.1≠b
theorem Inv.Q4 {X:Cx}{pz:List (Addr×Obj)}{σ:St}{H H':Hp}{s:ag}{b:Addr}(I:Inv X pz σ H s)(hb:s.heap.objs.size<=b)(hn:H' b=none):oT X pz H' b:=by
 refine⟨hn,oe (br I.lt hb),I.Ji hb,.inr (c7 I.sz hb),fun x c e z=>?_,fun p hp z=>?_⟩
 ·obtain⟨v,q⟩:=I.cell x c e
  exact absurd (br q.lt (by rw[z];exact hb)) (fh _)
 ·exact absurd (br (bh (I.pin p hp).1) (by rw[z];exact hb)) (fh _)
structure Turn (P:bu)(w:de)(K:aa)(tg:Expr)(J:It)(fp:List Addr)(it:Addr)(tn:Nat->Heap->Prop):Prop where
 mem:it∈fp
 obj:∀ i h,tn i h->∀ b∈fp,∃ o,h.get? b=some o/\∀ v,o.data≠.cell v
 keep:∀ i h h',tn i h->(∀ b∈fp,∀ o,h.get? b=some o->h'.get? b=some o)->tn i h'
 item:∀(X:Cx),X.prog=P->X.w=w->X.K=K->X.calm=true->∀(i:Nat)(pz:List (Addr×Obj))(s:ag)(σ:St)(H:Hp)(E:ae->ag->Prop),Inv X pz σ H s->(∀ b∈fp,oT X pz H b)->tn i s.heap->J.go i H ->
 wpAny (model P w) X.A (ux (.ref it)) (fun r s1=>∃ u,r=some u /\
  wpAny (model P w) X.A (qe tg (.ref it) u) (fun _ s2=>∃ x H',Inv X pz σ H' s2/\RelV x u/\J.yld i H x H'/\tn (i+1) s2.heap/\∀ b∈fp,H' b=none) E s1) E s
 done:∀(X:Cx),X.prog=P->X.w=w->X.K=K->X.calm=true->∀(i:Nat)(pz:List (Addr×Obj))(s:ag)(σ:St)(H:Hp)(E:ae->ag->Prop),Inv X pz σ H s->(∀ b∈fp,oT X pz H b)->tn i s.heap->J.stop i H ->
 wpAny (model P w) X.A (ux (.ref it)) (fun r s1=>r=none/\Inv X pz σ H s1) E s
 self:∀(A:cb)(i:Nat)(s:ag)(Q:ae->ag->Prop)(E:ae->ag->Prop),tn i s.heap->Q (.ref it) s->wpAny (model P w) A (wb (.ref it)) Q E s
abbrev TI:=St->Hp->(It->Hp->Prop)->Prop
def YH (X:Cx)(pz:List (Addr×Obj))(σ:St)(tg:Expr)(R:It->Hp->Prop)(itv:ae)(s2:ag):Prop :=
 ∃(it:Addr)(fp:List Addr)(tn:Nat->Heap->Prop)(J:It)(H':Hp),itv=.ref it/\Inv X pz σ H' s2/\Turn X.prog X.w X.K tg J fp it tn/\tn 0 s2.heap/\(∀ b∈fp,oT X pz H' b)/\R J H'
def PI (X:Cx)(tg iter:Expr)(wi:TI):Prop :=
 ∀(pz:List (Addr×Obj))(s:ag)(σ:St)(H:Hp)(R:It->Hp->Prop),Inv X pz σ H s->wi σ H R ->
 wpAny (model X.prog X.w) X.A (eval iter X.env) (fun v s1=>wpAny (model X.prog X.w) X.A (wb v) (YH X pz σ tg R) X.xe s1) X.xe s
theorem J9 {M:Model}{A:cb}{E:ae->ag->Prop}{s:ag}{tg:Expr}{it:Addr}{u:ae}{o:Obj}{n:String}{vs:Array ae}{Q:Unit->ag->Prop}(ho:s.heap.get? it=some o)(hc:o.cls=.type n)(hd:o.data=.fields vs)
    (hn:["enumerate","zip","dict_itemiterator","dict_reverseitemiterator","odict_iterator","itertools.zip_longest","itertools.pairwise"].contains n=false)(hQ:Q () s):wpAny M A (qe tg (.ref it) u) Q E s:=by
  unfold qe
  cases tg<;>first
    |exact ar hQ
    |(cases u<;>first
        |exact ar hQ
        | (refine af (wpAny_load ho ?_)
           rw[hc,hd]
           show wpAny M A (if(["enumerate","zip","dict_itemiterator","dict_reverseitemiterator","odict_iterator","itertools.zip_longest","itertools.pairwise"].contains n&&vs[0]? == some (gp _))=true then _ else _) Q E s
           rw[if_neg (by intro h;rw[hn,ij]at h;cases h)]
           exact ar hQ))
noncomputable def YN (K:aa)(a:Addr):It :=
 ⟨fun i H=>∃ xs x,eT K H a xs/\xs[i]? = some x,fun i H x H'=>H'=H/\∀ xs,eT K H a xs->xs[i]? = some x,fun i H=>∃ xs,eT K H a xs/\xs.length<=i⟩
noncomputable def Js (K:aa)(a:Addr):It :=
 ⟨fun i H=>∃ xs x,eU K H a xs/\xs[i]? = some x,fun i H x H'=>H'=H/\∀ xs,eU K H a xs->xs[i]? = some x,fun i H=>∃ xs,eU K H a xs/\xs.length<=i⟩
noncomputable def Y5 (lo:Int)(n:Nat):It:=⟨fun i _=>i<n,fun i H x H'=>H'=H/\x=.int (lo+i),fun i _=>n<=i⟩
theorem US {P:bu}{w:de}{K:aa}{tg:Expr}(a it:Addr):Turn P w K tg (YN K a) [it] it (fun i h=>h.IsListIter it a i) where
 mem:=by simp
 obj:=fun i h st b hb=>by
  have e:b=it:=by simpa using hb
  subst e
  obtain⟨o,e,c,d⟩:=st
  exact⟨o,e,fun v z=>by rw[d]at z;cases z⟩
 keep:=fun i h h' st k=>st.at fun o e=>k it (by simp) o e
 item:=by
  intro X hP hw hK hc i pz s σ H E I hf st hg
  subst hP hw hK
  obtain⟨xs,x,hq,hx⟩:=hg
  obtain⟨aD,rv,p,hz⟩:=I.list hq
  obtain⟨u,hu,ru⟩:=rv.get hx
  obtain⟨f0,f1,f2,f3,f4,f5⟩:=hf it (by simp)
  refine wpAny_pyNext_list_item st p.isList (x:=u) (by simpa using hu) fun h' aA sb=>?_
  have I1:Inv X pz σ H { s with heap:=h' }:=I.turned (t':=s.toks) (fun b o hb e=>(sb.2 b hb).trans e) f0 f1 f3 f4 f5
  obtain⟨o,e,c,d⟩:=id aA
  exact⟨u,rfl,J9 (s:={ s with heap:=h' }) e c d (by decide) ⟨x,H,I1,ru,⟨rfl,fun ys hy=>by rw[I.sZ hy hq];exact hx⟩,aA,fun b hb=>(hf b hb).1⟩⟩
 done:=by
  intro X hP hw hK hc i pz s σ H E I hf st hg
  subst hP hw hK
  obtain⟨xs,hq,hx⟩:=hg
  obtain⟨aD,rv,p,hz⟩:=I.list hq
  obtain⟨f0,f1,f2,f3,f4,f5⟩:=hf it (by simp)
  have hl:=rv.length
  exact wpAny_pyNext_list_end (I.ok.hd hc) st p.isList (by simp;omega) fun h' eb=>⟨rfl,I.turned (t':=s.toks) (fun b o hb e=>eb b o hb e) f0 f1 f3 f4 f5⟩
 self:=fun _ _ _ _ _ st h=>wpAny_pyIter_listiter st h
theorem P9 {P:bu}{w:de}{K:aa}{tg:Expr}(a it:Addr):Turn P w K tg (Js K a) [it] it (fun i h=>h.IsTupleIter it a i) where
 mem:=by simp
 obj:=fun i h st b hb=>by
  have e:b=it:=by simpa using hb
  subst e
  obtain⟨o,e,c,d⟩:=st
  exact⟨o,e,fun v z=>by rw[d]at z;cases z⟩
 keep:=fun i h h' st k=>st.at fun o e=>k it (by simp) o e
 item:=by
  intro X hP hw hK hc i pz s σ H E I hf st hg
  subst hP hw hK
  obtain⟨xs,x,hq,hx⟩:=hg
  obtain⟨aD,rv,p,hz⟩:=I.tuple hq
  obtain⟨u,hu,ru⟩:=rv.get hx
  obtain⟨f0,f1,f2,f3,f4,f5⟩:=hf it (by simp)
  refine wpAny_pyNext_tuple_item st (show s.heap.IsTuple a aD.toArray from p) (x:=u) (by simpa using hu) fun h' aA sb=>?_
  have I1:Inv X pz σ H { s with heap:=h' }:=I.turned (t':=s.toks) (fun b o hb e=>(sb.2 b hb).trans e) f0 f1 f3 f4 f5
  obtain⟨o,e,c,d⟩:=id aA
  exact⟨u,rfl,J9 (s:={ s with heap:=h' }) e c d (by decide) ⟨x,H,I1,ru,⟨rfl,fun ys hy=>by rw[I.tV hy hq];exact hx⟩,aA,fun b hb=>(hf b hb).1⟩⟩
 done:=by
  intro X hP hw hK hc i pz s σ H E I hf st hg
  subst hP hw hK
  obtain⟨xs,hq,hx⟩:=hg
  obtain⟨aD,rv,p,hz⟩:=I.tuple hq
  obtain⟨f0,f1,f2,f3,f4,f5⟩:=hf it (by simp)
  have hl:=rv.length
  exact wpAny_pyNext_tuple_end (I.ok.hd hc) st (show s.heap.IsTuple a aD.toArray from p) (by simp;omega) fun h' eb=>⟨rfl,I.turned (t':=s.toks) (fun b o hb e=>eb b o hb e) f0 f1 f3 f4 f5⟩
 self:=fun _ _ _ _ _ st h=>wpAny_pyIter_tupleiter st h
theorem QP {P:bu}{w:de}{K:aa}{tg:Expr}(it:Addr)(lo:Int)(n:Nat):Turn P w K tg (Y5 lo n) [it] it (fun i h=>IsRangeIter h it (lo+(i:Nat)*1) ((n:Int)-(i:Nat)) 1) where
 mem:=by simp
 obj:=fun i h st b hb=>by
  have e:b=it:=by simpa using hb
  subst e
  exact⟨_,st,fun v z=>by
   have z':Data.fields _=Data.cell v:=z
   cases z'⟩
 keep:=fun i h h' st k=>k it (by simp) _ st
 item:=by
  intro X hP hw hK hc i pz s σ H E I hf st hg
  subst hP hw hK
  obtain⟨f0,f1,f2,f3,f4,f5⟩:=hf it (by simp)
  have W:=Walks.range (prog:=X.prog) (w:=X.w) (I.ok.hd hc) it lo 1 n
  refine W.item i s _ _ hg st fun v h' tk hv aA kk=>?_
  obtain⟨t,rfl⟩:=hv
  have I1:Inv X pz σ H { s with heap:=h',toks:=tk }:=I.turned (fun b o hb e=>kk b o (by simpa using hb) e) f0 f1 f3 f4 f5
  refine⟨_,rfl,J9 (s:={ s with heap:=h',toks:=tk }) (n :="range_iterator") aA rfl rfl (by decide) ⟨.int (lo+i),H,I1,⟨t,?_⟩,⟨rfl,rfl⟩,aA,fun b hb=>(hf b hb).1⟩⟩
  rw[Int.mul_one]
 done:=by
  intro X hP hw hK hc i pz s σ H E I hf st hg
  subst hP hw hK
  obtain⟨f0,f1,f2,f3,f4,f5⟩:=hf it (by simp)
  exact wpAny_pyNext_range_end (I.ok.hd hc) st (by have:n<=i:=hg;omega) fun h' eb=>⟨rfl,I.turned (t':=s.toks) (fun b o hb e=>eb b o hb e) f0 f1 f3 f4 f5⟩
 self:=fun _ _ _ _ _ st h=>wpAny_pyIter_rangeiter st h
end L2
namespace L2
open PySem PySem.Spec PyProof.Rows
section
variable {X:Cx}{tg:Expr}
theorem WE {pz:List (Addr×Obj)}{σ:St}{H:Hp}{s:ag}{R:It->Hp->Prop}{E:ae->ag->Prop}{lo hi:Int}{t u v:Tok}{tk:Nat}(I:Inv X pz σ H s) (h1 : -(2 ^ 62)<=lo)(h2:lo<2 ^ 62) (h3 : -(2 ^ 62)<=hi)(h4:hi<2 ^ 62)
  (q:R (Y5 lo (hi-lo).toNat) H):wpAny (model X.prog X.w) X.A (wb (.ref s.heap.objs.size)) (YH X pz σ tg R) E { s with heap:=s.heap.push { cls:=.type "range", data:=.fields #[.int lo t,.int hi u,.int 1 v] },toks:=tk }:=by
 refine wpAny_pyIter_range (IsRange.new ..) (small_one h1 h2 h3 h4) ?_
 have I1:Inv X pz σ H { s with heap:=s.heap.push { cls:=.type "range", data:=.fields #[.int lo t,.int hi u,.int 1 v] },toks:=tk }:=I.kept fun b o e=>ai _ e
 refine⟨(s.heap.push { cls:=.type "range", data:=.fields #[.int lo t,.int hi u,.int 1 v] }).objs.size,[(s.heap.push { cls:=.type "range", data:=.fields #[.int lo t,.int hi u,.int 1 v] }).objs.size],_,_,H,rfl,
  I1.kept (t':=tk) fun b o e=>ai _ e,QP _ lo (hi-lo).toNat,?_,fun b hb=>?_,q⟩
 ·have e1:lo+((0:Nat):Int)*1=lo:=by simp
  have e2:(((hi-lo).toNat:Nat):Int)-((0:Nat):Int)=Builtin.Range.rangeSize lo hi 1:=by rw[rangeSize_one];split<;>omega
  show IsRangeIter _ _ (lo+((0:Nat):Int)*1) ((((hi-lo).toNat:Nat):Int)-((0:Nat):Int)) 1
  rw[e1,e2]
  exact bj _ rfl
 ·have e:b=(s.heap.push { cls:=.type "range", data:=.fields #[.int lo t,.int hi u,.int 1 v] }).objs.size:=by simpa using hb
  subst e
  exact I1.Q4 (az _) (I1.bT.fresh (az _))
noncomputable def Mu (ta:TA):TI:=fun σ H R=>ta σ H fun vs H1=>∃ j:Int,vs=[.int j]/\-(2 ^ 62)<=j/\j<2 ^ 62/\R (Y5 0 j.toNat) H1
theorem SY {a:Expr}{ta:TA}{p pos:Pos}(hg:Gl X "range")(hm:X.mg "range" = none)(ha:PA X [a] ta)(hs:ao [a] X.env=[(false,eval a X.env)]:=by rfl):PI X tg (.Call (.Name "range" p) [a] [] pos) (Mu ta):=by
 intro pz s σ H R I h
 refine Call_ (qP I hg hm boot_range (gj (bD (ha pos pz s σ H _ I h) fun us s1 ⟨vs,H1,I1,r1,q1⟩=>?_) hs rfl))
 obtain⟨j,e,q1,q2,q⟩:=q1
 subst e
 cases r1 with
 |cons r rr =>
 cases rr
 obtain⟨t,rfl⟩:=r
 exact call_range_1 (WE I1 (by omega) (by omega) q1 q2 (by simpa using q))
noncomputable def Sd (wi:TI)(g:TG)(tb:TS):TS:=fun D σ H=>wi σ H fun J H1=>∃ W:Nat->Nat->St->Hp->Prop,(∃ m,W 0 m σ H1)/\∀ i m σ H,W i m σ H ->
 (J.stop i H/\D.nx σ H)∨(J.go i H/\∃ N:St->Hp->Prop,(∀ σ' H',N σ' H'->∃ m',m'<m/\W (i+1) m' σ' H')/\∀ x H',J.yld i H x H'->g x σ H' fun σ2 H2=>tb { D with nx:=N,ct:=N,bk:=D.nx } σ2 H2)
noncomputable def AS (fp:List Addr)(h:Heap):List (Addr×Obj):=fp.filterMap fun b=>(h.get? b).map fun o=>(b,o)
theorem yF {fp:List Addr}{h:Heap}{b:Addr}{o:Obj}(hb:b∈fp)(e:h.get? b=some o):(b,o)∈AS fp h:=List.mem_filterMap.mpr ⟨b,hb,by rw[e];rfl⟩
theorem TJ {fp:List Addr}{h:Heap}{p:Addr×Obj}(hp:p∈AS fp h):p.1∈fp/\h.get? p.1=some p.2:=by
 obtain⟨b,hb,e⟩:=List.mem_filterMap.mp hp
 cases q:h.get? b with
 |none=>rw[q]at e;cases e
 |some o =>
 rw[q]at e
 have e':(b,o)=p:=cw e
 subst e'
 exact⟨hb,q⟩
theorem Inv.pinned {pz:List (Addr×Obj)}{σ:St}{H:Hp}{s:ag}{fp:List Addr}(I:Inv X pz σ H s)(hf:∀ b∈fp,oT X pz H b)(ho:∀ b∈fp,∃ o,s.heap.get? b=some o/\∀ v,o.data≠.cell v):Inv X (pz++AS fp s.heap) σ H s :=
 I.OV fun p hp=>(List.mem_append.mp hp).elim (fun z=>I.pin p (fj _ z)) fun z=>by
 obtain⟨hb,e⟩:=TJ z
 obtain⟨f0,f1,f2,_⟩:=hf p.1 hb
 obtain⟨o,e',d⟩:=ho p.1 hb
 rw[e]at e';cases e'
 exact⟨e,f0,f1,f2,d⟩
theorem Inv.xT {pz pl:List (Addr×Obj)}{σ:St}{H:Hp}{s:ag}(I:Inv X (pz++pl) σ H s):Inv X pz σ H s:=I.OV fun p hp=>I.pin p (fj _ (px _ hp))
theorem Ik {iter:Expr}{body:List Stmt}{wi:TI}{g:TG}{tb:TS}{pos:Pos}(hp:qx (model X.prog X.w) X.A X.env X.xe)(hc:X.calm=true)(hi:PI X tg iter wi)(hg:PG X tg g)(hb:lQ X body tb)
  (hs:∀ x,gq iter X.env x=pure x:=by intro _;rfl):PS X (.For tg iter body [] pos) (Sd wi g tb):=by
 intro pz s σ H D I h
 refine wpAny_For (bD (hi pz s σ H _ I h) fun v s1 h1=>bD h1 fun itv s2 h2=>?_) hs
 obtain⟨it,fp,tn,J,H2,e,I2,T,aF,f2,W,⟨m0,w0⟩,turn⟩:=h2
 subst e
 have stat:∀{H':Hp},(∀ b∈fp,H' b=none)->∀ b∈fp,oT X pz H' b:=fun hn b hb=>⟨hn b hb,(f2 b hb).2⟩
 refine codeAny_forLoop_any (fun n s'=>∃ i σ' H',Inv X pz σ' H' s'/\tn i s'.heap/\(∀ b∈fp,H' b=none)/\W i n σ' H') ?_ m0 ⟨0,σ,H2,I2,aF,fun b hb=>(f2 b hb).1,w0⟩
 rintro n s3 ⟨i,σ3,H3,I3,aX,fr3,w3⟩
 rcases turn i n σ3 H3 w3 with⟨stop,qn⟩|⟨go,N,hN,step⟩
 ·refine jz hp (bD (T.done X rfl rfl rfl hc i pz s3 σ3 H3 X.xe I3 (stat fr3) aX stop) fun r s4 ⟨hr,I4⟩=>?_)
  subst hr
  exact vj ⟨σ3,H3,I4,qn⟩
 ·refine jz hp (bD (T.item X rfl rfl rfl hc i pz s3 σ3 H3 X.xe I3 (stat fr3) aX go) fun r s4 ⟨u,hr,h4⟩=>?_)
  subst hr
  refine jz hp (bD h4 fun _ s5 ⟨x,H5,I5,r5,y5,dF,fr5⟩=>?_)
  have I5':=I5.pinned (stat fr5) (T.obj _ _ dF)
  refine jz hp (bD (hg _ s5 σ3 H5 x u _ I5' r5 (step x H5 y5)) fun _ s6 ⟨σ6,H6,I6,q6⟩=>?_)
  refine jz hp (bD (hb _ s6 σ6 H6 _ I6 q6) fun f s7 q7=>?_)
  have again:∀{σ7:St}{H7:Hp},Inv X (pz++AS fp s5.heap) σ7 H7 s7->N σ7 H7->∃ m,m<n/\∃ i σ' H',Inv X pz σ' H' s7/\tn i s7.heap/\(∀ b∈fp,H' b=none)/\W i m σ' H':=fun{σ7 H7} I7 n7=>by
   obtain⟨m',hm,w7⟩:=hN σ7 H7 n7
   refine⟨m',hm,i+1,σ7,H7,I7.xT,T.keep _ _ _ dF fun b hb o e=>(I7.pin (b,o) (fj _ (fj _ (yF hb e)))).1,fun b hb=>?_,w7⟩
   obtain⟨o,e,d⟩:=T.obj _ _ dF b hb
   exact(I7.pin (b,o) (fj _ (fj _ (yF hb e)))).2.1
  cases f with
  |next=>obtain⟨σ7,H7,I7,n7⟩:=q7;exact again I7 n7
  |cont=>obtain⟨σ7,H7,I7,n7⟩:=q7;exact again I7 n7
  |brk=>obtain⟨σ7,H7,I7,q7⟩:=q7;exact⟨σ7,H7,I7.xT,q7⟩
  |ret v=>obtain⟨x7,σ7,H7,I7,r7,q7⟩:=q7;exact⟨x7,σ7,H7,I7.xT,r7,q7⟩
end
end L2
namespace L2
open PySem PySem.Spec PyProof.Rows
abbrev R2:=V->V->Hp->VK->Prop
def iT (X:Cx)(f:ae->ae->Sem ae)(r:R2):Prop :=
 ∀(pz:List (Addr×Obj))(s:ag)(σ:St)(H:Hp)(x y:V)(v u:ae)(Q:VK),Inv X pz σ H s->RelV x v->RelV y u->r x y H Q ->
 wpAny (model X.prog X.w) X.A (f v u) (EP X pz σ Q) X.xe s
def yC (X:Cx)(f:ae)(r:List V->Hp->VK->Prop):Prop :=
 ∀(pz:List (Addr×Obj))(s:ag)(σ:St)(H:Hp)(xs:List V)(us:List ae)(Q:VK),Inv X pz σ H s->aU xs us->r xs H Q ->
 wpAny (model X.prog X.w) X.A (call f us) (EP X pz σ Q) X.xe s
def Rg (X:Cx)(r:V->Hp->(Bool->Hp->Prop)->Prop):Prop :=
 ∀(pz:List (Addr×Obj))(s:ag)(σ:St)(H:Hp)(x:V)(v:ae)(Q:Bool->Hp->Prop),Inv X pz σ H s->RelV x v->r x H Q ->
 wpAny (model X.prog X.w) X.A (Wq v) (TP X pz σ Q) X.xe s
noncomputable def Ga (r:R2)(ta tb:TE):TE:=fun σ H Q=>ta σ H fun x H1=>tb σ H1 fun y H2=>r x y H2 Q
noncomputable def rI (C:Int->Int->Prop)(g:Int->Int->V):R2:=fun x y H Q=>∃ i j,x=.int i/\y=.int j/\C i j/\Q (g i j) H
noncomputable def L7 (g:Int->Int->V):R2:=fun x y H Q=>∃ i j,x=.int i/\y=.int j/\Q (g i j) H
section
variable {X:Cx}{a b c:Expr}{ta tb tc:TE}{pos:Pos}
theorem Ju (ha:PE X a ta)(hb:PE X b tb){pz:List (Addr×Obj)}{s:ag}{σ:St}{H:Hp}{R:V->V->Hp->Prop}(I:Inv X pz σ H s)
 (h:ta σ H fun x H1=>tb σ H1 fun y H2=>R x y H2){Q:ae->ag->Prop}{f:ae->ae->Sem ae}
 (hf:∀ v u s2 x y H2,Inv X pz σ H2 s2->RelV x v->RelV y u->R x y H2->wpAny (model X.prog X.w) X.A (f v u) Q X.xe s2):
 wpAny (model X.prog X.w) X.A (eval a X.env) (fun v s₁=>wpAny (model X.prog X.w) X.A (eval b X.env) (fun u s₂=>wpAny (model X.prog X.w) X.A (f v u) Q X.xe s₂) X.xe s₁) X.xe s:=by
 refine bD (ha pz s σ H _ I h) fun v s1 ⟨x,H1,I1,r1,q1⟩=>?_
 refine bD (hb pz s1 σ H1 _ I1 q1) fun u s2 ⟨y,H2,I2,r2,q2⟩=>?_
 exact hf v u s2 x y H2 I2 r1 r2 q2
theorem Mi {op:Operator}{r:R2}(ho:iT X (iq op) r)(ha:PE X a ta)(hb:PE X b tb):PE X (.BinOp a op b pos) (Ga r ta tb):=by
 intro pz s σ H Q I h
 exact wpAny_BinOp (Ju ha hb I h fun v u s2 x y H2 I2 rx ry q=>ho pz s2 σ H2 x y v u Q I2 rx ry q)
theorem ZE {f:ae->ae->Sem ae}{C:Int->Int->Prop}{g:Int->Int->Int}
 (rule:∀(i j:Int)(t u:Tok)(s:ag)(Q:ae->ag->Prop)(E:ae->ag->Prop),C i j->Q (.int (g i j) s.toks) { s with toks:=s.toks+1 }->wpAny (model X.prog X.w) X.A (f (.int i t) (.int j u)) Q E s):
 iT X f (rI C fun i j=>.int (g i j)):=by
 intro pz s σ H x y v u Q I rx ry h
 obtain⟨i,j,rfl,rfl,hc,q⟩:=h
 obtain⟨t,rfl⟩:=rx
 obtain⟨t',rfl⟩:=ry
 exact rule i j t t' s _ _ hc ⟨.int (g i j),H,I.tok _,⟨_,rfl⟩,q⟩
theorem Hm {f:ae->ae->Sem ae}{g:Int->Int->Int}
 (rule:∀(i j:Int)(t u:Tok)(s:ag)(Q:ae->ag->Prop)(E:ae->ag->Prop),Q (.int (g i j) s.toks) { s with toks:=s.toks+1 }->wpAny (model X.prog X.w) X.A (f (.int i t) (.int j u)) Q E s):
 iT X f (L7 fun i j=>.int (g i j)):=by
 intro pz s σ H x y v u Q I rx ry h
 obtain⟨i,j,rfl,rfl,q⟩:=h
 obtain⟨t,rfl⟩:=rx
 obtain⟨t',rfl⟩:=ry
 exact rule i j t t' s _ _ ⟨.int (g i j),H,I.tok _,⟨_,rfl⟩,q⟩
def Iv (i j:Int):Prop:=0<j/\j<1073741824
def Fs (i j:Int):Prop:=0<=j/\j<=1000000/\i.natAbs<2 ^ 64
def QT (i j:Int):Prop:=(-(2 ^ 64)<i/\i<2 ^ 64)∨(-(2 ^ 64)<j/\j<2 ^ 64)
theorem QT.ok {i j:Int}(h:QT i j):IntMulOk i j:=by
 rcases h with⟨h1,h2⟩|⟨h1,h2⟩
 ·exact .of_left (Vh h1 h2)
 ·exact .of_right (Vh h1 h2)
theorem Ie:iT X (iq .Add) (L7 fun i j=>.int (i+j)):=Hm fun _ _ _ _ _ _ _ q=>add_int q
theorem Iy:iT X (iq .Sub) (L7 fun i j=>.int (i-j)):=Hm fun _ _ _ _ _ _ _ q=>sub_int q
theorem Ek:iT X (iq .Mult) (rI QT fun i j=>.int (i*j)):=ZE fun _ _ _ _ _ _ _ hc q=>mul_int q hc.ok
theorem Cb:iT X (iq .FloorDiv) (rI Iv fun i j=>.int (i / j)):=ZE fun i j _ _ _ _ _ hc q=>by
 have h1:(0:Int)<j:=hc.1
 have h2:j<1073741824:=hc.2
 exact floordiv_int (by omega) (by rw[Int.fdiv_eq_ediv_of_nonneg i (by omega)];exact q) (.inl (PyProof.noPylong_small (by omega)))
theorem Ej:iT X (iq .Mod) (rI (fun _ j=>0<j) fun i j=>.int (i % j)):=ZE fun i j _ _ _ _ _ hc q=>by
 have h1:(0:Int)<j:=hc
 exact mod_int' (by omega) (by rw[Int.fmod_eq_emod_of_nonneg i (by omega)];exact q)
theorem Jd:iT X (iq .Pow) (rI Fs fun i j=>.int (i ^ j.toNat)):=ZE fun _ _ _ _ _ _ _ hc q=>pow_int_small hc.1 hc.2.1 hc.2.2 q
end
section
variable {X:Cx}{a b c:Expr}{ta tb tc:TE}{pos:Pos}
theorem Gc {pz:List (Addr×Obj)}{σ:St}{H:Hp}{s:ag}{Q:VK}{k k':Bool}(I:Inv X pz σ H s)(q:Q (.bl k) H)(e:k=k'):EP X pz σ Q (.bool k') s:=by
 subst e
 exact⟨.bl k,H,I,rfl,q⟩
theorem SD:iT X (tx .In) (fun x y H Q=>∃ i j,x=.str i/\y=.str j/\Q (.bl (!(nu j i 0 j.length 1).isEmpty)) H):=by
 intro pz s σ H x y v u Q I rx ry h
 obtain⟨i,j,rfl,rfl,q⟩:=h
 obtain⟨t,rfl⟩:=rx
 obtain⟨t',rfl⟩:=ry
 exact in_str (Gc I q rfl)
theorem iT.or {f:ae->ae->Sem ae}{r r':R2}(h:iT X f r)(h':iT X f r'):iT X f (fun x y H Q=>r x y H Q∨r' x y H Q):=by
 intro pz s σ H x y v u Q I rx ry q
 rcases q with q|q
 ·exact h pz s σ H x y v u Q I rx ry q
 ·exact h' pz s σ H x y v u Q I rx ry q
def WY (K:aa)(x:V)(H:Hp)(k:Bool):Prop :=
 match x with
 |.non=>k=false
 |.bl b=>k=b
 |.int i=>k=(i != 0)
 |.str y=>y.length<=sizeLine/\k=((y.length:Int) != 0)
 |.byt y=>y.size<=sizeLine/\k=((y.size:Int) != 0)
 |.ref p=>(∃ xs,eT K H p xs/\k = !xs.isEmpty)∨(∃ xs,eU K H p xs/\k = !xs.isEmpty)∨∃ iU,H p=some (.dK iU)/\k = !iU.isEmpty
 |_=>False
theorem QU {κ:Type}{iU:List (κ×V)}{vs:List (κ×Value)}(r:KV iU vs):(!vs.isEmpty) = !iU.isEmpty:=by
 cases r<;>rfl
theorem D0 {xs:List V}{aD:List ae}(r:aU xs aD):(!aD.toArray.isEmpty) = !xs.isEmpty:=by
 cases r<;>simp
theorem rZ:(sizeLine:Nat)<2 ^ 63:=by rw[j5];decide
theorem EH:Rg X (fun x H Q=>∃ k,WY X.K x H k/\Q k H):=by
 intro pz s σ H x v Q I rx h
 obtain⟨k,e,q⟩:=h
 have hl:=rZ
 have hs:sizeLine=16777216:=j5
 cases x with
 |non =>
 cases rx
 have e':k=false:=e
 subst e'
 exact truthy_none ⟨H,I,q⟩
 |bl b =>
 cases rx
 have e':k=b:=e
 subst e'
 exact lx ⟨H,I,q⟩
 |int i =>
 obtain⟨t,rfl⟩:=rx
 have e':k=(i != 0):=e
 subst e'
 exact PySem.P.truthy_int ⟨H,I,q⟩
 |str y =>
 obtain⟨t,rfl⟩:=rx
 obtain⟨hy,e'⟩:y.length<=sizeLine/\k=((y.length:Int) != 0):=e
 subst e'
 exact PySem.P.truthy_str (by omega) ⟨H,I.tok _,q⟩
 |byt y =>
 obtain⟨t,rfl⟩:=rx
 obtain⟨hy,e'⟩:y.size<=sizeLine/\k=((y.size:Int) != 0):=e
 subst e'
 exact PySem.W.truthy_bytes (by omega) ⟨H,I.tok _,q⟩
 |ref p =>
 cases rx
 have e':(∃ xs,eT X.K H p xs/\k = !xs.isEmpty)∨(∃ xs,eU X.K H p xs/\k = !xs.isEmpty)∨∃ iU,H p=some (.dK iU)/\k = !iU.isEmpty:=e
 rcases e' with⟨xs,hx,e'⟩|⟨xs,hx,e'⟩|⟨iU,hx,e'⟩
 ·subst e'
  obtain⟨aD,r,pl,hz⟩:=I.list hx
  have hlen:=r.length
  exact wpAny_truthy_list pl.isList (by simp only[av];omega) ⟨H,I.tok _,by rw[D0 r];exact q⟩
 ·subst e'
  obtain⟨aD,r,pl,hz⟩:=I.tuple hx
  have hlen:=r.length
  exact truthy_tuple pl (by simp only[av];omega) ⟨H,I.tok _,by rw[D0 r];exact q⟩
 ·subst e'
  obtain⟨hz,hS,vs,r,m⟩:iU.length<=sizeLine/\(p==ox)=false/\∃ vs,KV iU vs/\s.heap.DictOf (GQ X.prog X.w) p vs:=I.bT p _ hx
  have hlen:iU.length=vs.length:=Vg r
  exact wpAny_truthy_dict hS m (by omega) ⟨H,I.tok _,by rw[QU r];exact q⟩
 |_=>exact(show False from e).elim
theorem XU (ha:PE X a ta)(he:∀ whole,zk a X.env whole=(do let v <-whole;n5 a.pos;kg [v] (Wq v))):
 PT X a (fun σ H Q=>ta σ H fun x H'=>∃ k,WY X.K x H' k/\Q k H'):=by
 intro pz s σ H Q I h
 exact isTrue_plain (bD (ha pz s σ H _ I h) fun v s1 ⟨x,H1,I1,r1,q1⟩=>EH pz s1 σ H1 x v Q I1 r1 q1) (he _)
theorem QM:iT X (iq .Add) (fun x y H Q=>∃ i j,x=.str i/\y=.str j/\i.length+j.length<=sizeLine/\Q (.str (i++j)) H):=by
 intro pz s σ H x y v u Q I rx ry h
 obtain⟨i,j,rfl,rfl,hz,q⟩:=h
 obtain⟨t,rfl⟩:=rx
 obtain⟨t',rfl⟩:=ry
 exact add_str (fun t' tk=>⟨.str (i++j),H,I.tok _,⟨_,rfl⟩,q⟩) hz
theorem vals1 {x:V}{us:List ae}(r:aU [x] us):∃ u,us=[u]/\RelV x u:=by
 cases r with
 |cons r1 r2=>cases r2;exact⟨_,rfl,r1⟩
def Ei (K:aa)(x:V)(H:Hp)(n:Nat):Prop :=
 match x with
 |.str y=>y.length<=sizeLine/\n=y.length
 |.byt y=>y.size<=sizeLine/\n=y.size
 |.ref p=>(∃ xs,eT K H p xs/\n=xs.length)∨∃ xs,eU K H p xs/\n=xs.length
 |_=>False
theorem VX:yC X (.builtin "len") (fun xs H Q=>∃ x n,xs=[x]/\Ei X.K x H n/\Q (.int n) H):=by
 intro pz s σ H xs us Q I r h
 obtain⟨x,n,rfl,e,q⟩:=h
 obtain⟨u,rfl,rx⟩:=vals1 r
 have hl:=rZ
 have hs:sizeLine=16777216:=j5
 cases x with
 |str y =>
 obtain⟨t,rfl⟩:=rx
 obtain⟨hy,e'⟩:y.length<=sizeLine/\n=y.length:=e
 subst e'
 exact len_str (by omega) ⟨.int _,H,I.tok _,⟨_,rfl⟩,q⟩
 |byt y =>
 obtain⟨t,rfl⟩:=rx
 obtain⟨hy,e'⟩:y.size<=sizeLine/\n=y.size:=e
 subst e'
 exact PySem.W.len_bytes (by omega) ⟨.int _,H,I.tok _,⟨_,rfl⟩,q⟩
 |ref p =>
 cases rx
 have e':(∃ xs,eT X.K H p xs/\n=xs.length)∨∃ xs,eU X.K H p xs/\n=xs.length:=e
 rcases e' with⟨xs,hx,e'⟩|⟨xs,hx,e'⟩
 ·subst e'
  obtain⟨aD,r',pl,hz⟩:=I.list hx
  have hlen:=r'.length
  exact Calls.call_len_list pl.isList (by simp only[av];omega) ⟨.int xs.length,H,I.tok _,⟨_,by simp only[av];rw[hlen]⟩,q⟩
 ·subst e'
  obtain⟨aD,r',pl,hz⟩:=I.tuple hx
  have hlen:=r'.length
  exact Vn pl (by simp only[av];omega) ⟨.int xs.length,H,I.tok _,⟨_,by simp only[av];rw[hlen]⟩,q⟩
 |_=>exact(show False from e).elim
end
end L2
namespace L2
open PySem PySem.Spec PyProof.Rows
structure CV (h:Heap)(x dx C:Addr)(mA:Str->Option ae):Prop where
 obj:h.get? x=some (je C dx)
 ns:h.Ns1 dx mA
 ne:dx≠x
set_option tactic.hygienic true in
theorem UO {h:Heap}{dx:Addr}{mA:Str->Option ae}(n:h.Ns1 dx mA):∃ od,h.get? dx=some od/\∀ name,rb name od=some (mA name):=by
 obtain⟨o,es,ep,ho,hd,hk,_,hm⟩:=n
 refine⟨o,ho,fun name=>?_⟩
 have e:=hm name
 unfold nsFind findBy at e
 rw[<-Array.find?_toList]at e
 unfold rb
 rw[hd]
 dsimp only
 split
 ·rename_i y q
  rw[q]at e
  exact congrArg some e
 ·rename_i q
  rw[q]at e
  have a:es.toList.any (·.refKey)=false:=by
   rw[og]
   intro y hy
   obtain⟨z,t,hkey⟩:=hk y (Array.mem_toList_iff.mp hy)
   simp [DictEntry.refKey,hkey]
  have a':¬es.toList.any (·.refKey)=true:=by rw[a];exact e9
  rw[if_neg a']
  exact congrArg some e
theorem CV.look {h:Heap}{x dx C:Addr}{mA:Str->Option ae}(I:CV h x dx C mA):∃ od,PySem.W.InstAt h x (je C dx) C (some od)/\∀ name,rb name od=some (mA name) :=
 let⟨od,ho,hl⟩:=UO I.ns
 ⟨od,⟨I.obj,rfl,rfl,ho⟩,hl⟩
section
variable {prog:bu}{w:de}{A:cb}{E:ae->ag->Prop}{s:ag}{K:aa}{x dx C f:Addr}{mA:Str->Option ae}{name:Str}{v:ae}
theorem get_map {expr:Bool}{Q:ae->ag->Prop}(X:K.In s.heap)(I:CV s.heap x dx C mA)(hg:kh K C name=true)(hh:ly K C=true)
 (ha:ek K (.ref C) name=some none)(hv:mA name=some v)(hv':zl v=true)(h:Q v { s with toks:=s.toks+1 }):
 wpAny (model prog w) A (Wv (.ref x) name expr) Q E s:=by
 obtain⟨od,J,hl⟩:=I.look
 exact PySem.W.get_value X J (qk hg).1 (PySem.W.findObj_own hh ha rfl (by rw[hl,hv])) hv' h
theorem XT {pl:Sem Bool}{Q:Value×List ae->ag->Prop}(X:K.In s.heap)(I:CV s.heap x dx C mA)(hg:kh K C name=true)
 (hf:ek K (.ref C) name=some (some (.ref f)))(ht:qr K (.ref f)=true)(hv:mA name=none)(h:Q (.ref f,[.ref x]) s):
 wpAny (model prog w) A (tz (.ref x) name pl) Q E s:=by
 obtain⟨od,J,hl⟩:=I.look
 exact PySem.W.method_fn X J (qk hg).1 (qk hg).2 hf (beq_iff_eq.mp ht) (by show(rb name od).map (·.isSome)=some false;rw[hl,hv];rfl) h
theorem ZU {ns:List Str}{Q:Unit->ag->Prop}(X:K.In s.heap)(I:CV s.heap x dx C mA)
 (hs:ek K (.ref C) "__setattr__" = some (some (.builtin "object.__setattr__")))(hp:oh K C=true)(ht:vn K C name=some none)(hh:ly K C=true)
 (hw:yl mA ns)(lE:ns.length<=sizeLine)
 (h:∀ h',CV h' x dx C (fun y=>if y=name then some v else mA y)->kq dx s.heap h'->Q () { s with heap:=h',toks:=s.toks+2 }):
 wpAny (model prog w) A (setAttr (.ref x) name v) Q E s:=by
 obtain⟨od,J,hl⟩:=I.look
 refine PySem.W.set_plain X J hs (PySem.W.osa_open (s:={ s with toks:=s.toks+1 }) (r:=none) X J hp ht fun b=>?_)
 obtain⟨cd,hc,hd'⟩:=PySem.W.any_some hh
 have hx:s.heap.get? x=some ⟨.ref C,some dx,.plain,#[]⟩:=I.obj
 refine af (ar (af (af (wpAny_loadPart hx (af (PySem.W.Looks.here (s:={ s with toks:=s.toks+1 }) (PySem.W.looks_clsIn X hc) ?_))))))
 rw[hd']
 refine ar (a:=some dx) (af (ar (af ?_)))
 refine wpAny_nsSet1 (s:={ s with toks:=s.toks+1 }) I.ns fun h' hn2 hs2=>?_
 obtain⟨oD,esD,epD,hoD,hdD,hcD⟩:=hn2.count (PySem.Within.cons name v hw)
 refine af (wpAny_lookBehind hoD (by rw[hdD];exact pastItsLine_dict (c7 hcD (by rw[bf];omega))) ?_)
 exact ar (h _ ⟨(hs2.2 _ (ey I.ne)).trans I.obj,hn2,I.ne⟩ hs2)
theorem XI {R:Vt->ag->Prop}{vs:List ae}{kw:List (Str×Value)}(X:K.In s.heap)(hm:vp K C=true)
 (hi:ek K (.ref C) "__init__" = some (some (.ref f)))(hf:PySem.W.typeIn K (.ref f)=some (.type "function"))
 (h:ku (model prog w) (A.under (.builtin "type.__call__" ⟨.ref C::vs,kw⟩)) (.call (.ref f) ⟨.ref (s.heap.objs.size+1)::vs,kw⟩) (PySem.W.InitBack (s.heap.objs.size+1) R)
  { s with heap:=(s.heap.push gr).push (je C s.heap.objs.size) }):
 ku (model prog w) A (.call (.ref C) ⟨vs,kw⟩) R s:=by
 obtain⟨hh,g,d,t,os⟩:=s
 exact PySem.W.make_core (PySem.W.makes_of X hm) (PySem.W.looks_findIn X hi) (fun self=>PySem.W.bind_fn X self hf) (.inl rfl) h
end
noncomputable def jK (f:Str)(v:V):List (Str×V)->List (Str×V)
 |[]=>[(f,v)]
 |(g,x)::r=>if g=f then(g,v)::r else(g,x)::jK f v r
theorem CH (f g:Str)(v:V):∀ fs:List (Str×V),(jK f v fs).lookup g=if g=f then some v else fs.lookup g
 |[]=>by
  show gz g [(f,v)]=_
  by_cases h:g=f
  ·have hb:(g==f)=true:=beq_iff_eq.mpr h
   simp only[gz,hb,if_pos h]
  ·have hb:(g==f)=false:=beq_eq_false_iff_ne.mpr h
   simp only[gz,hb,if_neg h]
 |(k,x)::r=>by
  have ih:=CH f g v r
  rw[show jK f v ((k,x)::r)=(if k=f then(k,v)::r else(k,x)::jK f v r)from rfl]
  by_cases hk:k=f
  ·rw[if_pos hk]
   by_cases h:g=k
   ·have hb:(g==k)=true:=beq_iff_eq.mpr h
    simp only[gz,hb,if_pos (h.trans hk)]
   ·have hb:(g==k)=false:=beq_eq_false_iff_ne.mpr h
    simp only[gz,hb,if_neg (fun e:g=f=>h (e.trans hk.symm))]
  ·rw[if_neg hk]
   by_cases h:g=k
   ·have hb:(g==k)=true:=beq_iff_eq.mpr h
    simp only[gz,hb,if_neg (fun e:g=f=>hk (h.symm.trans e))]
   ·have hb:(g==k)=false:=beq_eq_false_iff_ne.mpr h
    simp only[gz,hb]
    exact ih
theorem AJ (f:Str)(v:V):∀ fs:List (Str×V),f∈(jK f v fs).map (·.1)/\∀ g,g∈fs.map (·.1)->g∈(jK f v fs).map (·.1)
 |[]=>⟨by simp [jK],fun g h=>by simp at h⟩
 |(k,x)::r=>by
  obtain⟨i1,i2⟩:=AJ f v r
  rw[show jK f v ((k,x)::r)=(if k=f then(k,v)::r else(k,x)::jK f v r)from rfl]
  by_cases hk:k=f
  ·rw[if_pos hk]
   subst hk
   exact⟨by simp,fun g h=>by simpa using h⟩
  ·rw[if_neg hk]
   refine⟨?_,fun g h=>?_⟩
   ·rw[ay]
    exact cj _ i1
   ·rw[ay]at h ⊢
    rcases List.mem_cons.mp h with e|e
    ·exact List.mem_cons.mpr (.inl e)
    ·exact cj _ (i2 g e)
theorem CN (f:Str)(v:V):∀ fs:List (Str×V),(jK f v fs).length<=fs.length+1
 |[]=>by simp [jK]
 |(k,x)::r=>by
  have ih:=CN f v r
  rw[show jK f v ((k,x)::r)=(if k=f then(k,v)::r else(k,x)::jK f v r)from rfl]
  by_cases hk:k=f
  ·rw[if_pos hk,bf,bf];omega
  ·rw[if_neg hk,bf,bf];omega
theorem vF.some_of {v:V}{o:Option ae}(r:vF (some v) o):∃ u,o=some u/\RelV v u:=by
 cases o with
 |none=>exact(show False from r).elim
 |some u=>exact⟨u,rfl,r⟩
theorem vF.none_of {o:Option ae}(r:vF none o):o=none:=by
 cases o with
 |none=>rfl
 |some u=>exact(show False from r).elim
theorem VL {v:V}{u:ae}(r:RelV v u):zl u=true:=by
 cases v with
 |non=>cases (show u=jd from r);rfl
 |bl b=>cases (show u=qy b from r);rfl
 |int i=>obtain⟨t,e⟩:=(show ∃ t,u=Vm i t from r);cases e;rfl
 |str x=>obtain⟨t,e⟩:=(show ∃ t,u=zj x t from r);cases e;rfl
 |byt b=>obtain⟨t,e⟩:=(show ∃ t,u=Vy b t from r);cases e;rfl
 |flt b=>obtain⟨t,e⟩:=(show ∃ t,u=Vz b t from r);cases e;rfl
 |ref a=>cases (show u=gx a from r);rfl
 |ty n=>cases (show u=fz n from r);rfl
section
variable {P:bu}{w:de}{H H':Hp}{h h':Heap}{a C dx:Addr}{fs fs':List (Str×V)}
theorem FT (bT:iL P w H h)(e:H a=some (.ins C dx fs)):∃ mA,CV h a dx C mA/\(∀ f,vF (fs.lookup f) (mA f))/\yl mA (fs.map (·.1))/\fs.length<=1000/\H dx=some (.own a):=by
 obtain⟨d,z,ne,ob,mA,n,r,q⟩:=(show kO P w H h a (.ins C dx fs)from bT a _ e)
 exact⟨mA,⟨ob,n,ne⟩,r,q,z,d⟩
end
structure wF (K:aa)(C:Addr):Prop where
 pg:kh K C Vo=true
 hd:ly K C=true
 po:oh K C=true
 sa:ek K (.ref C) "__setattr__" = some (some (.builtin "object.__setattr__"))
theorem wF.get {K:aa}{C:Addr}(c:wF K C)(f:Str):kh K C f=true:=c.pg
def sD (K:aa)(C:Addr)(f:Str):Prop:=ek K (.ref C) f=some none
theorem sD.Kx {K:aa}{C:Addr}{f:Str}(n:sD K C f):vn K C f=some none:=by
 unfold vn
 rw[show ek K (.ref C) f=some none from n]
 rfl
structure GX (K:aa)(C:Addr)(m:Str)(f:Addr):Prop where
 at_:ek K (.ref C) m=some (some (.ref f))
 fn:qr K (.ref f)=true
 kp:ff K (.ref f)=true
section
variable {X:Cx}{pz:List (Addr×Obj)}{σ:St}{H:Hp}{s:ag}{a C dx:Addr}{fs:List (Str×V)}{f:Str}{v:V}{A:cb}{E:ae->ag->Prop}
theorem RC {b:Bool}{Q:ae->ag->Prop}(I:Inv X pz σ H s)(e:H a=some (.ins C dx fs))(c:wF X.K C)(n:sD X.K C f)(l:fs.lookup f=some v)
 (h:∀ u s',Inv X pz σ H s'->RelV v u->Q u s'):wpAny (model X.prog X.w) A (Wv (.ref a) f b) Q E s:=by
 obtain⟨mA,O,r,_,_,_⟩:=FT I.bT e
 obtain⟨u,hu,ru⟩:=vF.some_of (v:=v) (o:=mA f) (by rw[<-l];exact r f)
 exact get_map I.jN O (c.get f) c.hd n hu (VL ru) (h u _ (I.tok _) ru)
theorem DN {m:Str}{g:Addr}{pl:Sem Bool}{Q:Value×List ae->ag->Prop}(I:Inv X pz σ H s)(e:H a=some (.ins C dx fs))(c:wF X.K C)(k:GX X.K C m g)(l:fs.lookup m=none)
 (h:Q (.ref g,[.ref a]) s):wpAny (model X.prog X.w) A (tz (.ref a) m pl) Q E s:=by
 obtain⟨mA,O,r,_,_,_⟩:=FT I.bT e
 have hn:mA m=none:=vF.none_of (by rw[<-l];exact r m)
 exact XT I.jN O (c.get m) k.at_ k.fn hn h
theorem RM {y:V}{u:ae}{Q:Unit->ag->Prop}(I:Inv X pz σ H s)(e:H a=some (.ins C dx fs))(c:wF X.K C)(n:sD X.K C f)(hl:fs.length<1000)(ry:RelV y u)
  (h:∀ s',Inv X pz σ (upd H a (.ins C dx (jK f y fs))) s'->Q () s'):wpAny (model X.prog X.w) A (setAttr (.ref a) f u) Q E s:=by
 obtain⟨mA,O,r,wi,_,ho⟩:=FT I.bT e
 have hz:(fs.map (·.1)).length<=sizeLine:=by rw[ab,j5];omega
 refine ZU I.jN O c.sa c.po n.Kx c.hd wi hz fun h' O' sb=>h _ ?_
 have hd:∃ o,h'.get? dx=some o:=let⟨o,_,_,e',_⟩:=O'.ns;⟨o,e'⟩
 refine I.write (x:=a) (e:=dx) (by rw[e];exact bz) (.inr ho) (fun b q hb z=>(sb.2 b hb).trans z) hd ?_
 refine⟨by rw[bI O.ne];exact ho,?_,O.ne,O'.obj,_,O'.ns,fun g=>?_,fun g hg=>?_⟩
 ·have:=CN f y fs;omega
 ·show vF ((jK f y fs).lookup g) (if g=f then some u else mA g)
  rw[CH]
  by_cases q:g=f
  ·rw[if_pos q,if_pos q];exact ry
  ·rw[if_neg q,if_neg q];exact r g
 ·by_cases q:g=f
  ·rw[q];exact(AJ f y fs).1
  ·refine(AJ f y fs).2 g (wi g fun z=>hg ?_)
   show(if g=f then some u else mA g)=none
   rw[if_neg q];exact z
theorem Inv.made (I:Inv X pz σ H s):Inv X pz σ (upd (upd H s.heap.objs.size (.own (s.heap.objs.size+1))) (s.heap.objs.size+1) (.ins C s.heap.objs.size []))
  { s with heap:=(s.heap.push gr).push (je C s.heap.objs.size) }:=by
 have e1:(s.heap.push gr).get? s.heap.objs.size=some gr:=bj s.heap rfl
 have e2:((s.heap.push gr).push (je C s.heap.objs.size)).get? (s.heap.objs.size+1)=some (je C s.heap.objs.size):=by
  have:=bj (s.heap.push gr) (o:=je C s.heap.objs.size) rfl
  rwa [jr]at this
 have e3:(s.heap.push gr).Ns s.heap.objs.size (fun _=>none):=⟨PySem.W.emptyDict,#[],_,e1,rfl,(fun e he=>absurd he (by simp)),fun _=>rfl⟩
 have I1:=I.laid (a:=s.heap.objs.size) (o:=.own (s.heap.objs.size+1)) (h':=s.heap.push gr) (t':=s.toks) (fun b u q=>ai _ q) (az _) ⟨_,e1⟩
 refine I1.laid (a:=s.heap.objs.size+1) (o:=.ins C s.heap.objs.size []) (t':=s.toks) (fun b u q=>ai _ q) (Vu (jr _ _)) ?_
 have ne:s.heap.objs.size≠s.heap.objs.size+1:=cg (gh _)
 refine⟨by rw[bI ne,dD],dm _,ne,e2,fun _=>none,(Heap.Ns1.of_empty e3).at fun o q=>ai _ q,fun _=>bz,fun y hy=>absurd rfl hy⟩
theorem Ae {prog:bu}{w:de}{env:Env}{e:Expr}{f:Str}{pos:Pos}{s:ag}{Q:ae->ag->Prop}(hb:f7 e f env (eval e env)=eval e env)
 (h:wpAny (model prog w) A (eval e env) (fun o s₁=>wpAny (model prog w) A (Wv o f true) Q E s₁) E s):wpAny (model prog w) A (eval (.Attribute e f pos) env) Q E s :=
 Attribute_any_ h (by rw[arm_eval_Attribute,hb])
end
noncomputable def Rp (K:aa)(ta:TE)(f:Str):TE:=fun σ H Q=>ta σ H fun x H1=>∃ a C dx fs v,x=.ref a/\H1 a=some (.ins C dx fs)/\wF K C/\sD K C f/\fs.lookup f=some v/\Q v H1
noncomputable def Qh (K:aa)(ta tv:TE)(f:Str):TS:=fun D σ H=>tv σ H fun y H1=>ta σ H1 fun x H2=>∃ a C dx fs,x=.ref a/\H2 a=some (.ins C dx fs)/\wF K C/\sD K C f/\fs.length<1000 /\
 D.nx σ (upd H2 a (.ins C dx (jK f y fs)))
section
variable {X:Cx}{o e value:Expr}{f:Str}{pos pos' tpos:Pos}{ta tv:TE}
theorem Hz (he:PE X e ta)(hb:f7 e f X.env (eval e X.env)=eval e X.env):PE X (.Attribute e f pos) (Rp X.K ta f):=by
 intro pz s σ H Q I h
 refine Ae hb (bD (he pz s σ H _ I h) fun u s1 ⟨x,H1,I1,rx,a,C,dx,fs,v,ex,ea,c,n,l,q⟩=>?_)
 subst ex
 obtain rfl:u=gx a:=rx
 exact RC I1 ea c n l fun u' s2 I2 ru=>⟨v,H1,I2,ru,q⟩
theorem Ff (ha:PE X o ta)(hv:PE X value tv)(hs:l5 value (some (.Attribute o f pos')) pos.line X.env=pure false):PS X (.Assign [.Attribute o f pos'] value pos) (Qh X.K ta tv f):=by
 intro pz s σ H D I h
 refine plainObj_wpAny_Assign_Attribute (bD (hv pz s σ H _ I h) fun u s1 ⟨y,H1,I1,ry,q⟩=>bD (ha pz s1 σ H1 _ I1 q) fun ov s2 ⟨x,H2,I2,rx,a,C,dx,fs,ex,ea,c,n,l,q2⟩=>?_) hs
 subst ex
 obtain rfl:ov=gx a:=rx
 exact RM I2 ea c n l ry fun s3 I3=>⟨σ,_,I3,q2⟩
theorem Kb {pl:Sem Bool}{m:Str}{apos:Pos}{args:List Expr}{pz:List (Addr×Obj)}{s:ag}{σ:St}{H:Hp}{Q:ae->ag->Prop}{te:TE}(he:PE X e te)(I:Inv X pz σ H s)
 (h:te σ H fun x H1=>∃ a C dx fs g,x=.ref a/\H1 a=some (.ins C dx fs)/\wF X.K C/\GX X.K C m g/\fs.lookup m=none /\
  ∀ s1,Inv X pz σ H1 s1->wpAny (model X.prog X.w) X.A (wc pos (.ref g) [.ref a] (du pos (ao args X.env)) (oi pos (j6 [] X.env))) Q X.xe s1)
 (ht:eval (.Call (.Attribute e m apos) args [] pos) X.env=(do
  let ov <-eval e X.env
  n5 apos.atName
  let(f,first) <-kg [ov] (tz ov m pl)
  wc pos f first (du pos (ao args X.env)) (oi pos (j6 [] X.env)))):
 wpAny (model X.prog X.w) X.A (eval (.Call (.Attribute e m apos) args [] pos) X.env) Q X.xe s:=by
 refine vy (pl:=pl) (bD (he pz s σ H _ I h) fun u s1 ⟨x,H1,I1,rx,a,C,dx,fs,g,ex,ea,c,k,l,q⟩=>?_) ht
 subst ex
 obtain rfl:u=gx a:=rx
 exact DN I1 ea c k l (q s1 I1)
end
end L2
namespace L2
open PySem PySem.Spec PyProof.Rows
structure dC (k:Nat)(A:cb):Prop where
 hd:A.handled=none
 dp:A.depth+3*k+5<recursionLimit
 un:A.units+16*k+200<cLine
theorem dC.mono {j k:Nat}{A:cb}(r:dC k A)(h:j<=k):dC j A:=⟨r.hd,by have:=r.dp;omega,by have:=r.un;omega⟩
theorem dC.deeper {k:Nat}{A:cb}(r:dC (k+1) A)(env:Env):dC k (A.deeper env) :=
 ⟨r.hd,by have:=r.dp;show A.depth+1+3*k+5<_;omega,by have:=r.un;show A.units+3+16*k+200<_;omega⟩
theorem PY {A:cb}{C:Addr}{us:List ae}{kw:List (Str×Value)}:(A.under (.builtin "type.__call__" ⟨.ref C::us,kw⟩)).depth=A.depth+1:=by
 first|rfl|simp [yp,Code.weight,Code.isCreation,Code.isGuard,Code.isCaller,Wc,yq,guardIds]
theorem P4 {A:cb}{C:Addr}{us:List ae}{kw:List (Str×Value)}:(A.under (.builtin "type.__call__" ⟨.ref C::us,kw⟩)).units=A.units+1:=by
 first|rfl|simp [yp,Code.cUnits,Wc,yq]
theorem dC.make {k:Nat}{A:cb}(r:dC (k+1) A)(C:Addr)(us:List ae)(kw:List (Str×Value)):dC k (A.under (.builtin "type.__call__" ⟨.ref C::us,kw⟩)) :=
 ⟨r.hd,by have:=r.dp;rw[PY];omega,by have:=r.un;rw[P4];omega⟩
theorem dC.depth {k:Nat}{A:cb}(r:dC k A):A.depth<recursionLimit:=by have:=r.dp;omega
noncomputable def Qk:TA:=fun _ H Q=>Q [] H
noncomputable def Lk (ta:TE)(tr:TA):TA:=fun σ H Q=>ta σ H fun x H1=>tr σ H1 fun xs H2=>Q (x::xs) H2
section
variable {X:Cx}{e:Expr}{es:List Expr}{te:TE}{t:TA}{pos:Pos}
theorem UZ:PA X [] Qk:=fun _ _ _ _ H Q I h=>oj ⟨[],H,I,.nil,h⟩
theorem FU (ha:PE X e te)(hr:PA X es t)(hs:ao (e::es) X.env=(false,eval e X.env)::ao es X.env:=by rfl):PA X (e::es) (Lk te t):=by
 intro pos pz s σ H Q I h
 rw[hs]
 show wpAny _ _ (ym ((false,eval e X.env)::du pos (ao es X.env))) _ _ s
 refine ju (bD (ha pz s σ H _ I h) fun u s1 ⟨x,H1,I1,r1,q1⟩=>?_)
 exact bD (hr pos pz s1 σ H1 _ I1 q1) fun us s2 ⟨xs,H2,I2,r2,q2⟩=>⟨x::xs,H2,I2,.cons r1 r2,q2⟩
noncomputable def Sb (t:TA):TE:=fun σ H Q=>t σ H fun xs H1=>xs.length<=sizeLine/\∀ p,H1 p=none->Q (.ref p) (upd H1 p (.tup xs))
noncomputable def Rn (t:TA):TE:=fun σ H Q=>t σ H fun xs H1=>xs.length<=sizeLine/\∀ p,H1 p=none->Q (.ref p) (upd H1 p (.lst xs))
theorem En {x1}(h:PA X es t):PE X (.Tuple es x1 pos) (Sb t):=by
 intro pz s σ H Q I hq
 refine wpAny_Tuple_spliced (bD (h pos pz s σ H _ I hq) fun us s1 ⟨xs,H1,I1,r,z,q⟩=>⟨by rw[<-r.length];exact z,?_⟩)
 have hf:H1 s1.heap.objs.size=none:=I1.bT.fresh (az _)
 refine⟨.ref s1.heap.objs.size,upd H1 s1.heap.objs.size (.tup xs),I1.laid (t':=s1.toks) (fun b u e=>ai _ e) (az _) ?_,rfl,q _ hf⟩
 exact⟨z,us,r,rH.new _ _⟩
theorem Fp (h:PA X es t):PE X (.List es pos) (Rn t):=by
 intro pz s σ H Q I hq
 refine wpAny_List_spliced (bD (h pos pz s σ H _ I hq) fun us s1 ⟨xs,H1,I1,r,z,q⟩=>⟨by rw[<-r.length];exact z,?_⟩)
 have hf:H1 s1.heap.objs.size=none:=I1.bT.fresh (az _)
 refine⟨.ref s1.heap.objs.size,upd H1 s1.heap.objs.size (.lst xs),I1.laid (t':=s1.toks) (fun b u e=>ai _ e) (az _) ?_,rfl,q _ hf⟩
 exact⟨z,us,0,r,bj _ rfl⟩
end
abbrev Sp:=List V->Hp->VK->XK->Prop
abbrev CD:=List Env->Hp->ag->XK->ae->ag->Prop
structure uX (P:bu)(w:de)(K:aa)(mg:Str->Option ae)(base:Heap)(A:cb)(outer:List Env)(s:ag)(H:Hp):Prop where
 frames:A.frames=some outer
 mod:Mod K mg base
 bs:∀ b o,base.get? b=some o->s.heap.get? b=some o/\H b=none
 bsz:base.objs.size<=s.heap.objs.size
 mK:s.heap.FunFrames base outer
 frf:∀ b∈vQ outer,H b=none
 bT:iL P w H s.heap
 bare:sh s.gens
inductive CE (outer:List Env)(P:bu)(w:de)(H:Hp)(s:ag)(Q:VK)(u:ae)(s':ag):Prop
 |mk (v:V)(H':Hp)(a:s'.os=s.os)(b:sh s'.gens)(c:Un (vQ outer) [] H H' s.heap s'.heap)(d:iL P w H' s'.heap)(r:RelV v u)(q:Q v H')
def CR (CX:CD)(outer:List Env)(P:bu)(w:de)(H:Hp)(s:ag)(Q:VK)(E:XK)(r:Vt)(s':ag):Prop :=
 match r with
 |.ok (.ret u)=>CE outer P w H s Q u s'
 |.ok _=>False
 |.error e=>CX outer H s E e s'
structure fS (P:bu)(w:de)(K:aa)(mg:Str->Option ae)(base:Heap)(CX:CD)(k:Nat)(f:Addr)(fd:gu)(ps:List Str)(sp:Sp):Prop where
 len:∀ vs H Q E,sp vs H Q E->vs.length=ps.length
 run:∀(A:cb)(outer:List Env)(s:ag)(H:Hp)(args:Args)(us:List ae)(vs:List V)(Q:VK)(E:XK),dC k A->uX P w K mg base A outer s H->yr s fd args (ps.zip us)->aU vs us->sp vs H Q E ->
 ku (model P w) A (.call (.ref f) args) (CR CX outer P w H s Q E) s
theorem uX.make {P:bu}{w:de}{K:aa}{mg:Str->Option ae}{base:Heap}{A:cb}{outer:List Env}{s:ag}{H:Hp}(e:uX P w K mg base A outer s H)(C:Addr)(us:List ae)(kw:List (Str×Value)):
 uX P w K mg base (A.under (.builtin "type.__call__" ⟨.ref C::us,kw⟩)) outer s H:=⟨by first|exact e.frames|(simpa [yp,Code.envs,yq,pushEnvs]using e.frames),e.mod,e.bs,e.bsz,e.mK,e.frf,e.bT,e.bare⟩
section
variable {X:Cx}{pz:List (Addr×Obj)}{σ:St}{H:Hp}{s s':ag}
theorem Inv.PZ (I:Inv X pz σ H s):uX X.prog X.w X.K X.mg X.base X.A X.stack s H :=
 ⟨I.ok.frames,I.ok.mod,I.bs,c7 I.ok.bsz I.sz,I.stack,I.OH,I.bT,I.bare⟩
theorem Inv.after {Q:VK}{u:ae}(I:Inv X pz σ H s)(h:CE X.stack X.prog X.w H s Q u s'):EP X pz σ Q u s':=by
 obtain⟨v,H',os,bare,un,bT,r,q⟩:=h
 obtain⟨hh,g,d,t,os'⟩:=s'
 obtain rfl:os'=s.os:=os
 exact⟨v,H',I.call (h':=hh) (g':=g) (d':=d) (t':=t) (ch:=[]) un bT bare (fun b z=>absurd z (by simp)),r,q⟩
end
noncomputable def Lp (sp:Sp)(dvs:List V)(E:XK)(t:TA):TE:=fun σ H Q=>t σ H fun vs H1=>sp (vs++dvs) H1 Q E
noncomputable def Kj (C:Addr)(m:Str)(sp:Sp)(dvs:List V)(E:XK)(ta:TE)(t:TA):TE:=fun σ H Q=>ta σ H fun x H1=>∃ a dx fs,x=.ref a/\H1 a=some (.ins C dx fs)/\fs.lookup m=none /\
 t σ H1 fun vs H2=>sp (x::(vs++dvs)) H2 Q E
noncomputable def Oy (C:Addr)(sp:Sp)(dvs:List V)(E:XK)(t:TA):TE:=fun σ H Q=>t σ H fun vs H1=>∀ x dx,H1 x=none->H1 dx=none->dx≠x ->
 sp (.ref x::(vs++dvs)) (upd (upd H1 dx (.own x)) x (.ins C dx [])) (fun v H2=>v=.non/\Q (.ref x) H2) E
def Binds (K:aa)(fd:gu)(ps:List Str)(ds:List ae):Prop :=
 ∀(s:ag)(us:List ae),K.In s.heap->(us++ds).length=ps.length->yr s fd ⟨us,[]⟩ (ps.zip (us++ds))
theorem Binds.all {K:aa}{fd:gu}{ps:List Str}(h:∀ us:List ae,us.length=ps.length->Uq fd ⟨us,[]⟩=pure (ps.zip us)):Binds K fd ps []:=fun s us _ hl=>by
 rw[eh]at hl ⊢
 exact .of_eq (h us hl)
def qM (CX:CD)(X:Cx)(E:XK):Prop:=∀(pz:List (Addr×Obj))(σ:St)(H:Hp)(s:ag)(e:ae)(s':ag),Inv X pz σ H s->CX X.stack H s E e s'->X.xe e s'
section
variable {X:Cx}{CX:CD}{k:Nat}{f C:Addr}{fd:gu}{ps:List Str}{sp:Sp}{dvs:List V}{ds:List ae}{E:XK}{x m:Str}{p pos apos:Pos}{e o:Expr}{es:List Expr}{ta:TE}{t:TA}
theorem UP {pz:List (Addr×Obj)}{σ:St}{H:Hp}{s:ag}{Q:VK}{us:List ae}{vs:List V}(F:fS X.prog X.w X.K X.mg X.base CX k f fd ps sp)(hr:dC k X.A)(hb:Binds X.K fd ps ds)(hd:aU dvs ds)(hx:qM CX X E)
 (I:Inv X pz σ H s)(r:aU vs us)(h:sp (vs++dvs) H Q E):wpAny (model X.prog X.w) X.A (call (.ref f) us) (EP X pz σ Q) X.xe s:=by
 have r2:aU (vs++dvs) (us++ds):=r.append hd
 have hl:(us++ds).length=ps.length:=by rw[<-r2.length];exact F.len _ _ _ _ h
 refine uy (kv (F.run X.A X.stack s H ⟨us,[]⟩ (us++ds) (vs++dvs) Q E hr I.PZ (hb s us I.jN hl) r2 h) fun r s' hq=>?_)
 cases r with
 |error e=>exact hx pz σ H s e s' I hq
 |ok fl =>
 cases fl with
 |ret u=>exact I.after hq
 |next=>exact dy hq
 |brk=>exact dy hq
 |cont=>exact dy hq
theorem Dc (F:fS X.prog X.w X.K X.mg X.base CX k f fd ps sp)(hr:dC k X.A)(hg:Gl X x)(hm:X.mg x=some (.ref f))(hk:ff X.K (.ref f)=true)(hb:Binds X.K fd ps ds)(hd:aU dvs ds)(hx:qM CX X E)
 (ha:PA X (e::es) t)(hdb:(x==("__debug__" : Str))=false:=by decide)(he:ao (e::es) X.env=(false,eval e X.env)::ao es X.env:=by rfl)(dA:(du pos (ao es X.env)).any (·.1)=false:=by rfl):
 PE X (.Call (.Name x p) (e::es) [] pos) (Lp sp dvs E t):=by
 intro pz s σ H Q I h
 refine fb (A8 I hg hm ?_ hdb)
 refine nh (h₀:=X.base) I.ok.mod.kin hk (bD (ha pos pz s σ H _ I h) fun us s1 ⟨vs,H1,I1,r,q⟩=>⟨I1.jN,?_⟩) he dA
 exact UP F hr hb hd hx I1 r q
theorem Bg {pl:Sem Bool}(he:PE X o ta)(c:wF X.K C)(hm:GX X.K C m f)(F:fS X.prog X.w X.K X.mg X.base CX k f fd ps sp)(hr:dC k X.A)(hb:Binds X.K fd ps ds)(hd:aU dvs ds)(hx:qM CX X E)(ha:PA X (e::es) t)
 (dN:ao (e::es) X.env=(false,eval e X.env)::ao es X.env:=by rfl)(dA:(du pos (ao es X.env)).any (·.1)=false:=by rfl)
 (ht:eval (.Call (.Attribute o m apos) (e::es) [] pos) X.env=(do
  let ov <-eval o X.env
  n5 apos.atName
  let(f,first) <-kg [ov] (tz ov m pl)
  wc pos f first (du pos (ao (e::es) X.env)) (oi pos (j6 [] X.env))):=by rfl):
 PE X (.Call (.Attribute o m apos) (e::es) [] pos) (Kj C m sp dvs E ta t):=by
 intro pz s σ H Q I h
 refine vy (pl:=pl) (bD (he pz s σ H _ I h) fun u s1 ⟨x,H1,I1,rx,a,dx,fs,ex,ea,l,q⟩=>?_) ht
 subst ex
 obtain rfl:u=gx a:=rx
 refine DN I1 ea c hm l ?_
 refine nh (first:=[.ref a]) (h₀:=X.base) I.ok.mod.kin hm.kp (bD (ha pos pz s1 σ H1 _ I1 q) fun us s2 ⟨vs,H2,I2,r,q2⟩=>⟨I2.jN,?_⟩) dN dA
 exact UP (us:=.ref a::us) (vs:=.ref a::vs) F hr hb hd hx I2 (.cons rfl r) q2
structure Mk (K:aa)(C f:Addr):Prop where
 makes:vp K C=true
 init:ek K (.ref C) "__init__" = some (some (.ref f))
 fn:qr K (.ref f)=true
 kp:ff K (.ref C)=true
theorem VP {pz:List (Addr×Obj)}{σ:St}{H:Hp}{s:ag}{Q:VK}{us:List ae}{vs:List V}(M:Mk X.K C f)(F:fS X.prog X.w X.K X.mg X.base CX k f fd ps sp)(hr:dC (k+1) X.A)(hb:Binds X.K fd ps ds)(hd:aU dvs ds)
  (hx:qM CX X E)(I:Inv X pz σ H s)(r:aU vs us)
  (h:∀ x dx,H x=none->H dx=none->dx≠x->sp (.ref x::(vs++dvs)) (upd (upd H dx (.own x)) x (.ins C dx [])) (fun v H2=>v=.non/\Q (.ref x) H2) E):
  wpAny (model X.prog X.w) X.A (call (.ref C) us) (EP X pz σ Q) X.xe s:=by
 have hq:=h (s.heap.objs.size+1) s.heap.objs.size (I.bT.fresh (we _)) (I.bT.fresh (az _)) (cg (gh _))
 have I2:=Inv.made (C:=C) I
 have r2:aU (V.ref (s.heap.objs.size+1)::(vs++dvs)) (gx (s.heap.objs.size+1)::(us++ds)):=.cons rfl (r.append hd)
 have hl:(gx (s.heap.objs.size+1)::us++ds).length=ps.length:=by
  have e:=r2.length
  rw[F.len _ _ _ _ hq]at e
  exact e.symm
 refine uy (XI (f:=f) I.jN M.makes M.init (beq_iff_eq.mp M.fn) (kv (F.run _ X.stack _ _ ⟨Value.ref (s.heap.objs.size+1)::us,[]⟩ (gx (s.heap.objs.size+1)::(us++ds)) _ _ E (hr.make C us [])
  (I2.PZ.make C us []) (hb _ (gx (s.heap.objs.size+1)::us) I2.jN hl) r2 hq) fun r s' hq'=>?_))
 cases r with
 |error e=>exact hx pz σ _ _ e s' I2 hq'
 |ok fl =>
  cases fl with
  |ret u =>
   obtain⟨v,H',I3,rv,ev,q3⟩:=I2.after hq'
   subst ev
   exact⟨rv,⟨V.ref (s.heap.objs.size+1),H',I3,rfl,q3⟩⟩
  |next=>exact dy hq'
  |brk=>exact dy hq'
  |cont=>exact dy hq'
theorem Cf (M:Mk X.K C f)(F:fS X.prog X.w X.K X.mg X.base CX k f fd ps sp)(hr:dC (k+1) X.A)(hg:Gl X x)(hm:X.mg x=some (.ref C))(hb:Binds X.K fd ps ds)(hd:aU dvs ds)(hx:qM CX X E)
 (ha:PA X (e::es) t)(hdb:(x==("__debug__" : Str))=false:=by decide)(he:ao (e::es) X.env=(false,eval e X.env)::ao es X.env:=by rfl)(dA:(du pos (ao es X.env)).any (·.1)=false:=by rfl):
 PE X (.Call (.Name x p) (e::es) [] pos) (Oy C sp dvs E t):=by
 intro pz s σ H Q I h
 refine fb (A8 I hg hm ?_ hdb)
 refine nh (h₀:=X.base) I.ok.mod.kin M.kp (bD (ha pos pz s σ H _ I h) fun us s1 ⟨vs,H1,I1,r,q⟩=>⟨I1.jN,?_⟩) he dA
 exact VP M F hr hb hd hx I1 r q
end
structure nN (N P:List Str)(sc:Scope):Prop where
 kind:sc.kind=.function
 co:sc.isCoroutine=false
 gen:sc.isGenerator=false
 nd:N.Nodup
 pre:N.take P.length=P
 par:∀ x∈P,sc.names.lookup x=some .local∨sc.names.lookup x=some .cell
 nofree:∀ y∈sc.names,y.2≠.free
theorem HW {kindOf:Str->Option ua}{x:Str}:∀{binds:List (Str×Value)}{m:Str->Option ae},(∀ v,(x,v)∉binds)->bindL kindOf binds m x=m x
 |[],_,_=>rfl
 |(n,v)::r,m,h=>by
  unfold bindL
  rw[HW fun w hw=>h w (cj _ hw)]
  split
  ·have:x≠n:=by rintro rfl;exact h v dh
   simp [this]
  ·rfl
theorem IB {kindOf:Str->Option ua}{x:Str}:∀{binds:List (Str×Value)}{m:Str->Option ae},(∀ v,(x,v)∉binds)->bindC kindOf binds m x=m x
 |[],_,_=>rfl
 |(n,v)::r,m,h=>by
  unfold bindC
  rw[IB fun w hw=>h w (cj _ hw)]
  split
  ·rfl
  ·have:x≠n:=by rintro rfl;exact h v dh
   simp [this]
theorem ID {kindOf:Str->Option ua}{x:Str}{v:ae}:∀{P:List Str}{vs:List ae}{i:Nat}{m:Str->Option ae},P.Nodup->P[i]? = some x->vs[i]? = some v->kindOf x=some .local ->
  bindL kindOf (P.zip vs) m x=some v
 |[],_,_,_,_,h,_,_=>by simp at h
 |_::_,[],_,_,_,_,h,_=>by simp at h
 |p::P,w::vs,0,m,nd,h1,h2,hk=>by
  simp at h1 h2;subst h1;subst h2
  show bindL kindOf ((p,w)::P.zip vs) m p=_
  unfold bindL
  rw[HW fun v hv=>(List.nodup_cons.mp nd).1 (mx hv).1,if_pos hk]
  simp
 |p::P,w::vs,i+1,m,nd,h1,h2,hk=>by
  show bindL kindOf ((p,w)::P.zip vs) m x=_
  unfold bindL
  exact ID (i:=i) (List.nodup_cons.mp nd).2 (by simpa using h1) (by simpa using h2) hk
theorem IV {kindOf:Str->Option ua}{x:Str}{v:ae}:∀{P:List Str}{vs:List ae}{i:Nat}{m:Str->Option ae},P.Nodup->P[i]? = some x->vs[i]? = some v->kindOf x≠some .local ->
  bindC kindOf (P.zip vs) m x=some v
 |[],_,_,_,_,h,_,_=>by simp at h
 |_::_,[],_,_,_,_,h,_=>by simp at h
 |p::P,w::vs,0,m,nd,h1,h2,hk=>by
  simp at h1 h2;subst h1;subst h2
  show bindC kindOf ((p,w)::P.zip vs) m p=_
  unfold bindC
  rw[IB fun v hv=>(List.nodup_cons.mp nd).1 (mx hv).1,if_neg hk]
  simp
 |p::P,w::vs,i+1,m,nd,h1,h2,hk=>by
  show bindC kindOf ((p,w)::P.zip vs) m x=_
  unfold bindC
  exact IV (i:=i) (List.nodup_cons.mp nd).2 (by simpa using h1) (by simpa using h2) hk
noncomputable def start (N:List Str)(vs:List V):St:=vs.map some++ak (N.length-vs.length) none
noncomputable def fI (CX:CD)(P:bu)(w:de)(K:aa)(mg:Str->Option ae)(base:Heap)(N:List Str)(qual:Str)(scope:Scope)(f:Addr)(cd:ae)(A:cb)(outer:List Env)(s:ag)(H:Hp)(E:XK):Cx where
 prog:=P
 w:=w
 K:=K
 mg:=mg
 base:=base
 A:=A.deeper (mi qual scope s.heap.objs.size f cd)
 N:=N
 s₀:=s
 H₀:=H
 env:=mi qual scope s.heap.objs.size f cd
 outer:=outer
 stack:=mi qual scope s.heap.objs.size f cd::outer
 ex:=[]
 calm:=true
 fn:=fun _=>true
 pn:=[]
 xe:=fun e s'=>wpAny (model P w) (A.deeper (mi qual scope s.heap.objs.size f cd)) (leaving (mi qual scope s.heap.objs.size f cd) e) (fun _ s''=>CX outer H s E e s'') (fun e' s''=>CX outer H s E e' s'') s'
theorem MA {sc:Scope}{n:Nat}{x:Str}(h:sc.names.lookup x=some .cell):∃ c,(Vp n sc.names []).lookup x=some c:=by
 have q:=uz sc.names n [] (.inl h)
 exact Option.isSome_iff_exists.mp q
theorem TM {CX:CD}{P:bu}{w:de}{K:aa}{mg:Str->Option ae}{base:Heap}{N ps:List Str}{qual:Str}{scope:Scope}{f:Addr}{cd:ae}{A:cb}{outer:List Env}{s s1:ag}{H:Hp}{E:XK}{us:List ae}{vs:List V}
  (S:nN N ps scope)(hd:A.handled=none)(e0:uX P w K mg base A outer s H)(hl:vs.length=ps.length)(r:aU vs us)
  (x:InCallC s s.heap.objs.size (bindL (mi qual scope s.heap.objs.size f cd).kindOf (ps.zip us) fun _=>none) (Vp (s.heap.objs.size+1) scope.names []) (bindC (mi qual scope s.heap.objs.size f cd).kindOf (ps.zip us) fun _=>none) s1):
  Inv (fI CX P w K mg base N qual scope f cd A outer s H E) [] (start N vs) H s1:=by
 have dA:ps.length<=N.length:=by have:=congrArg Wd S.pre;rw[oy]at this;omega
 obtain⟨h1,tk,rfl,hk⟩:=x.done
 have noA:∀ b:Addr,b∉(fI CX P w K mg base N qual scope f cd A outer s H E).ex:=fun b z=>absurd (show b∈([]:List Addr)from z) (by simp)
 refine⟨⟨e0.mod,S.kind,rfl,rfl,az _,fun y z c h1 h2=>?_,fun y hy=>?_,fun y c _ h=>?_,fun _=>hd,wg e0.frames,.inr ⟨rfl,rfl⟩,fun b z=>absurd z (noA b),e0.bs,e0.bsz,fun b _ _=>noA b,fun b z=>absurd z (noA b),e0.mK,e0.frf⟩,
  rfl,e0.bare,Un.kept hk,⟨_,x.toInCall.ns,fun i y v h1 h2 h3=>?_⟩,fun y c h=>⟨_,x.cell y c h⟩,e0.bT.fresh (az _),fun y c h=>?_,fun p hp=>absurd (show p∈([]:List (Addr×Obj))from hp) (by simp),e0.bT.kept hk,?_⟩
 ·exact name_of_addr x.apart (gy h1) (gy h2)
 ·have hy:scope.names.lookup y=some .cell∨scope.names.lookup y=some .free:=hy
  rcases hy with hy|hy
  ·exact MA hy
  ·exact absurd rfl (S.nofree _ (gy hy))
 ·exact qp (x.above y c (gy h))
 ·have hi:i<vs.length:=by
   unfold start at h2
   by_cases hi:i<vs.length
   ·exact hi
   ·rw[cp (by simpa using hi)]at h2
    rw[iu]at h2
    split at h2<;>cases h2
  have ha:vs[i]? = some v:=by
   unfold start at h2
   rw[bq (by simpa using hi),bc]at h2
   cases e:vs[i]? with
   |none=>rw[e]at h2;cases h2
   |some a=>rw[e]at h2;cases h2;rfl
  obtain⟨u,hu,rv⟩:=r.get ha
  have hp:ps[i]? = some y:=by
   rw[<-S.pre,List.getElem?_take_of_lt (by omega)];exact h1
  have ndP:ps.Nodup:=by rw[<-S.pre];exact S.nd.sublist (List.take_sublist _ _)
  refine⟨u,rv,?_⟩
  rcases S.par y (bg hp)with k|k
  ·exact .inl ⟨k,ID ndP hp hu k⟩
  ·obtain⟨c,e⟩:=MA (n:=s.heap.objs.size+1) k
   refine .inr ⟨.inl k,c,e,?_⟩
   have q:=x.cell y c e
   rw[IV ndP hp hu (by show scope.names.lookup y≠_;rw[k];decide)]at q
   exact q
 ·exact e0.bT.fresh (qp (x.above y c (gy h)))
 ·unfold start
  show _=N.length
  rw[bp,ab,ll]
  omega
theorem YK {CX:CD}{P:bu}{w:de}{K:aa}{mg:Str->Option ae}{base:Heap}{k:Nat}{f:Addr}{name qual:Str}{params:Arguments}{body:List Stmt}{scope:Scope}{dV kV doc pm bG ct oc:ae}{an od:Option Addr}
  {osl:Array (Option ae)}{N ps:List Str}{sp:Sp}(lk:K.lookup f=some ⟨oc,od,.func (g9 name qual params body scope dV kV doc pm an bG ct),osl⟩)(hcd:ki K bG qual=true)(S:nN N ps scope)
  (len:∀ vs H Q E,sp vs H Q E->vs.length=ps.length)
  (hbody:∀(A:cb)(outer:List Env)(s:ag)(H:Hp)(vs:List V)(Q:VK)(E:XK),dC k (A.deeper (mi qual scope s.heap.objs.size f bG))->sp vs H Q E ->
   ∃ t,lQ (fI CX P w K mg base N qual scope f bG A outer s H E) body t/\t { nx:=fun _ H'=>Q .non H',rt:=Q } (start N vs) H):
  fS P w K mg base CX (k+1) f (g9 name qual params body scope dV kV doc pm an bG ct) ps sp:=by
 refine⟨len,fun A outer s H args us vs Q E hr e0 hb r hsp=>?_⟩
 have hl:=len _ _ _ _ hsp
 have KX:K.In s.heap:=e0.mod.kin.keeps fun b o e=>(e0.bs b o e).1
 have lim:s.heap.NoLimit:=e0.mod.nolimit.keeps fun b o e=>(e0.bs b o e).1
 have hkind:∀ y∈ps.zip us,scope.names.lookup y.1=some .local∨(scope.names.lookup y.1=some .cell/\((Vp (s.heap.objs.size+1) scope.names []).lookup y.1).isSome=true):=fun⟨n,v⟩ hy=>by
  rcases S.par n (mx hy).1 with q|q
  ·exact .inl q
  ·exact .inr ⟨q,uz _ _ _ (.inl q)⟩
 refine codeAny_call_function hr.depth (KX _ _ lk) rfl S.co S.gen rfl (PySem.W.codeRec_of KX hcd) (hb _ _ _ _ ?_)
 refine wpAny_newFunctionEnv_cells S.kind hkind fun env he s1 x=>?_
 subst he
 refine⟨lim.keeps x.toInCall.keep,codeAny_func ?_⟩
 obtain⟨t,ht,hq⟩:=hbody A outer s H vs Q E (hr.deeper _) hsp
 have I:Inv (fI CX P w K mg base N qual scope f bG A outer s H E) [] (start N vs) H s1:=TM S hr.hd e0 hl r x
 refine jq (ht [] s1 (start N vs) H _ I hq) (fun fl s' hs=>?_) fun e s' hs=>hs
 have fin:∀{σ':St}{H':Hp}{v:V}{u:ae},Inv (fI CX P w K mg base N qual scope f bG A outer s H E) [] σ' H' s'->RelV v u->Q v H'->CE outer P w H s Q u s' :=
  fun{σ' H' v u} J rv q=>⟨v,H',J.os,J.bare,J.base,J.bT,rv,q⟩
 cases fl with
 |ret u =>
  obtain⟨v,σ',H',J,rv,q⟩:=hs
  exact fin J rv q
 |next =>
  obtain⟨σ',H',J,q⟩:=hs
  exact fin (v:=V.non) (u:=jd) J rfl q
 |brk =>
  obtain⟨_,_,_,q⟩:=hs
  exact dy q
 |cont =>
  obtain⟨_,_,_,q⟩:=hs
  exact dy q
end L2
namespace L2
open PySem PySem.Spec PyProof.Rows
section
variable {X:Cx}{x:Str}{p pos:Pos}{e:Expr}{es:List Expr}{t:TA}{id T:String}{r:List V->Hp->VK->Prop}
noncomputable def Je (r:List V->Hp->VK->Prop)(t:TA):TE:=fun σ H Q=>t σ H fun vs H1=>r vs H1 Q
theorem KA (hc:yC X (.builtin id) r)(hg:Gl X x)(hm:X.mg x=none)(hv:cz x=some (.builtin id))(ha:PA X (e::es) t)(hn:x ≠"__name__":=by decide)(hdb:(x==("__debug__" : Str))=false:=by decide)
 (he:ao (e::es) X.env=(false,eval e X.env)::ao es X.env:=by rfl)(dA:(du pos (ao es X.env)).any (·.1)=false:=by rfl):PE X (.Call (.Name x p) (e::es) [] pos) (Je r t):=by
 intro pz s σ H Q I h
 refine fb (qP I hg hm hv ?_ hn hdb)
 exact PyProof.Rows.callWith_builtin1 (bD (ha pos pz s σ H _ I h) fun us s1 ⟨vs,H1,I1,r1,q1⟩=>hc pz s1 σ H1 vs us Q I1 r1 q1) he dA
theorem TQ (hc:yC X (.type T) r)(hg:Gl X x)(hm:X.mg x=none)(hv:cz x=some (.type T))(ha:PA X (e::es) t)(hn:x ≠"__name__":=by decide)(hdb:(x==("__debug__" : Str))=false:=by decide)
 (he:ao (e::es) X.env=(false,eval e X.env)::ao es X.env:=by rfl)(dA:(du pos (ao es X.env)).any (·.1)=false:=by rfl):PE X (.Call (.Name x p) (e::es) [] pos) (Je r t):=by
 intro pz s σ H Q I h
 refine fb (qP I hg hm hv ?_ hn hdb)
 exact gj (bD (ha pos pz s σ H _ I h) fun us s1 ⟨vs,H1,I1,r1,q1⟩=>hc pz s1 σ H1 vs us Q I1 r1 q1) he dA
end
end L2
namespace HT
open PySem PyProof.Rows
section
variable {prog:bu}{w:de}{A:cb}{E:ae->ag->Prop}{s:ag}
theorem Z4 {t b:Addr}{vs ws:List ae}{Q:ae->ag->Prop}(ht:IsTup s.heap t vs.toArray)(hb:IsTup s.heap b ws.toArray)(hv:vs≠[])
  (h1:ws=[]->Q (.ref t) s)(h2:ws≠[]->Q (.ref s.heap.objs.size) { s with heap:=s.heap.push { cls:=.type "tuple", data:=.seq (vs++ws).toArray } })
  (lE:vs.length+ws.length<=sizeLine):wpAny (model prog w) A (iq .Add (.ref t) (.ref b)) Q E s:=by
 obtain⟨⟨cls,dd,data,sl⟩,ho,hc,n,hd⟩:=id ht
 obtain⟨⟨cls2,dd2,data2,sl2⟩,ho2,hc2,n2,hd2⟩:=id hb
 simp only at hc hd hc2 hd2
 subst hc hd hc2 hd2
 have e:vs.toArray++ws.toArray=(vs++ws).toArray:=by simp
 by_cases hw:ws=[]
 ·exact yt ⟨_,ho,rfl⟩ ⟨_,ho2,rfl⟩ ub xm om nv (mo _ _)
   (tuple_addW1 t b vs.toArray ws.toArray n n2 dd dd2 sl sl2 (by simpa using hv) (by simp [hw])) ⟨ho,ho2,h1 hw⟩
 ·refine yt ⟨_,ho,rfl⟩ ⟨_,ho2,rfl⟩ ub xm om nv (mo _ _)
   (tuple_addW2 t b vs.toArray ws.toArray n n2 dd dd2 sl sl2 (by simpa using hv) (by simpa using hw) (by rw[av,av];exact lE)) ⟨ho,ho2,?_⟩
  rw[e]
  exact h2 hw
noncomputable def cJ (n d:Nat):Option Int->Nat
 |none=>d
 |some v=>if v<0 then(v+(n:Int)).toNat else min v.toNat n
theorem Dz (n d:Nat)(hd:d<=n)(o:Option Int):cJ n d o<=n:=by
 cases o with
 |none=>exact hd
 |some v =>
 show(if v<0 then(v+(n:Int)).toNat else min v.toNat n)<=n
 by_cases hv:v<0
 ·rw[if_pos hv];omega
 ·rw[if_neg hv];exact Nat.min_le_right _ _
theorem PJ (v:Int)(n d:Nat):(if v<0 then max (v+(n:Int)) 0 else min v (n:Int))=((cJ n d (some v):Nat):Int):=by
 show(if v<0 then max (v+(n:Int)) 0 else min v (n:Int))=(((if v<0 then(v+(n:Int)).toNat else min v.toNat n):Nat):Int)
 by_cases hv:v<0
 ·simp only[if_pos hv];omega
 ·simp only[if_neg hv];omega
theorem RI (lo hi:Option Int)(n:Nat):me lo hi 1 (n:Int)=(((cJ n 0 lo:Nat):Int),((cJ n n hi:Nat):Int)):=by
 have h1:¬((1:Int)<0):=by omega
 unfold me
 simp only[h1,if_false]
 refine Prod.ext ?_ ?_
 ·cases lo with
 |none=>rfl
 |some v=>exact PJ v n 0
 ·cases hi with
 |none=>rfl
 |some v=>exact PJ v n n
theorem RL (i j:Nat):jy (i:Int) (j:Int) 1=j-i:=by
 unfold jy
 have h1:(1:Int)>0:=by omega
 simp only[h1,if_true,Int.ediv_one]
 split<;>omega
theorem E2 {v:ae}{o:Option Int}{Q:Option Int->ag->Prop}(p:va v o)(h:Q o s):wpAny (model prog w) A (Builtin.Slice.slicePartIndex v) Q E s:=by
 cases p with
 |none=>exact Ur h
 |int i t=>exact slicePart_int h
theorem tG {sl:Addr}{vl vu:ae}{lo hi:Option Int}{n:Nat}{Q:Int×Int×Nat->ag->Prop}(hs:s.heap.IsSliceOf sl vl vu .none)(pl:va vl lo)(pu:va vu hi)
 (h:Q (((cJ n 0 lo:Nat):Int),1,cJ n n hi-cJ n 0 lo) s):wpAny (model prog w) A (rf (.ref sl) (pure (n:Int))) Q E s:=by
 obtain⟨os,hos,hcs,hds⟩:=id hs
 unfold rf Builtin.Slice.sliceFields
 refine af (af (j7 hos hds (x:=vl) rfl (af (j7 hos hds (x:=vu) rfl (af (j7 hos hds (x:=.none) rfl (ar ?_)))))))
 refine af (Ur ?_)
 show wpAny _ _ (if((1:Int)==0)=true then _ else _) _ _ s
 rw[if_neg (by decide)]
 refine af (E2 pl (af (E2 pu (af (ar ?_)))))
 show wpAny _ _ (match me lo hi 1 (n:Int)with|(lo,hi)=>pure (lo,(1:Int),jy lo hi 1)) _ _ s
 rw[RI lo hi n]
 show wpAny _ _ (pure (((cJ n 0 lo:Nat):Int),(1:Int),jy ((cJ n 0 lo:Nat):Int) ((cJ n n hi:Nat):Int) 1)) _ _ s
 rw[RL]
 exact ar h
theorem WA (xs:Array ae)(i k:Nat):((bb k).filterMap fun(m:Nat)=>xs[((i:Int)+(m:Int)*1).toNat]?).toArray=((xs.toList.drop i).take k).toArray:=by
 have e:(fun(m:Nat)=>xs[((i:Int)+(m:Int)*1).toNat]?)=fun m=>xs[i+m]?:=by
  funext m
  have:((i:Int)+(m:Int)*1).toNat=i+m:=by omega
  rw[this]
 rw[e]
 have:=pick_run xs i k
 rw[List.filterMap_map]at this
 have e2:((fun x=>xs[x]?)∘fun x=>i+x)=fun m=>xs[i+m]?:=rfl
 rw[e2]at this
 rw[this]
theorem BZ {t sl:Addr}{items:Array ae}{vl vu:ae}{lo hi:Option Int}{Q:ae->ag->Prop}(ht:IsTup s.heap t items)(hs:s.heap.IsSliceOf sl vl vu .none)(pl:va vl lo)(pu:va vu hi)
  (hw:¬(cJ items.size 0 lo=0/\cJ items.size items.size hi=items.size))
  (h:Q (.ref s.heap.objs.size) { s with heap:=s.heap.push { cls:=.type "tuple", data:=.seq ((items.toList.drop (cJ items.size 0 lo)).take (cJ items.size items.size hi-cJ items.size 0 lo)).toArray } })
  (lE:items.size<=sizeLine):wpAny (model prog w) A (vb (.ref t) (.ref sl)) Q E s:=by
 have htake:sizeOk (.seq ((items.toList.drop (cJ items.size 0 lo)).take (cJ items.size items.size hi-cJ items.size 0 lo)).toArray):=by
  show((items.toList.drop (cJ items.size 0 lo)).take (cJ items.size items.size hi-cJ items.size 0 lo)).toArray.size<=sizeLine
  rw[av,oy,uc,jf]
  omega
 have hj:cJ items.size items.size hi<=items.size:=Dz _ _ (az _) hi
 obtain⟨os,hos,hcs,hds⟩:=id hs
 have hTs:s.TypeIs (.ref sl) "slice":=⟨os,hos,hcs⟩
 unfold vb
 try with_reducible refine gk ?_
 first|refine af (ar ?_)|skip
 refine af (si ht.typeIs (by decide) ?_)
 refine af (i5 (name:=j8 "__getitem__") ht.typeIs g7
  (fu g7 ht.typeIs xb ?_ (yd _ _)))
 show wpAny _ _ (gv (.ref t) >>= _) _ _ s
 refine af (xo ht ?_)
 refine af (vc hTs ?_)
 rw[if_pos (by decide)]
 refine af (tG hs pl pu ?_)
 have hno:¬((((cJ items.size 0 lo:Nat):Int)==0&&(1:Int)==1&&(cJ items.size items.size hi-cJ items.size 0 lo)==items.size)=true):=by
  intro q
  rw[aw,aw]at q
  have q1:((cJ items.size 0 lo:Nat):Int)=0:=eq_of_beq q.1.1
  have q2:cJ items.size items.size hi-cJ items.size 0 lo=items.size:=eq_of_beq q.2
  exact hw ⟨by omega,by omega⟩
 show wpAny _ _ (if(((cJ items.size 0 lo:Nat):Int)==0&&(1:Int)==1&&(cJ items.size items.size hi-cJ items.size 0 lo)==items.size)=true then _ else _) _ _ s
 rw[if_neg hno,WA]
 first
  |exact af (m:=gb _) (gw (ar ⟨_,rfl,ar h⟩) htake)
  |exact af (m:=gb _) (gw (af (ar (ar ⟨_,rfl,ar h⟩))) htake)
  |exact af (af (m:=gb _) (gw (ar (ar ⟨_,rfl,ar h⟩)) htake))
  |exact af (af (m:=gb _) (gw (ar ⟨_,rfl,ar h⟩) htake))
end
end HT
namespace L2
open PySem PySem.Spec PyProof.Rows
abbrev TO:=St->Hp->(Option Int->Hp->Prop)->Prop
def PO (X:Cx)(e:Option Expr)(t:TO):Prop :=
 ∀(pz:List (Addr×Obj))(s:ag)(σ:St)(H:Hp)(Q:Option Int->Hp->Prop),Inv X pz σ H s->t σ H Q ->
 wpAny (model X.prog X.w) X.A (evalPart e X.env) (fun u s'=>∃ o H',Inv X pz σ H' s'/\va u o/\Q o H') X.xe s
noncomputable def Z5:TO:=fun _ H Q=>Q none H
noncomputable def Kh (t:TE):TO:=fun σ H Q=>t σ H fun x H1=>∃ i,x=.int i/\Q (some i) H1
section
variable {X:Cx}{e:Expr}{te:TE}{lo hi:Option Expr}{tl th:TO}{pos p2:Pos}
theorem Df:PO X none Z5:=by
 intro pz s σ H Q I h
 rw[Vi]
 exact ar ⟨none,H,I,.none,h⟩
theorem Ag (h:PE X e te):PO X (some e) (Kh te):=by
 intro pz s σ H Q I hw
 rw[evalPart_some]
 refine bD (h pz s σ H _ I hw) fun u s1 ⟨x,H1,I1,r1,q1⟩=>?_
 obtain⟨i,rfl,q⟩:=q1
 obtain⟨t,rfl⟩:=r1
 exact⟨some i,H1,I1,.int i t,q⟩
def zR (X:Cx)(r:V->Option Int->Option Int->Hp->VK->Prop):Prop :=
 ∀(pz:List (Addr×Obj))(s:ag)(σ:St)(H:Hp)(x:V)(v vl vu:ae)(lo hi:Option Int)(sl:Addr)(Q:VK),Inv X pz σ H s->RelV x v->s.heap.IsSliceOf sl vl vu .none->va vl lo->va vu hi->r x lo hi H Q ->
 ∃ T id,rg (.type T) "__getitem__" = pure (some (.builtin id))/\s.TypeIs v T/\wpAny (model X.prog X.w) X.A (vb v (.ref sl)) (EP X pz σ Q) X.xe s
theorem zR.or {r r':V->Option Int->Option Int->Hp->VK->Prop}(h:zR X r)(h':zR X r'):zR X (fun x lo hi H Q=>r x lo hi H Q∨r' x lo hi H Q):=by
 intro pz s σ H x v vl vu lo hi sl Q I rx hs pl pu q
 rcases q with q|q
 ·exact h pz s σ H x v vl vu lo hi sl Q I rx hs pl pu q
 ·exact h' pz s σ H x v vl vu lo hi sl Q I rx hs pl pu q
noncomputable def Tb (r:V->Option Int->Option Int->Hp->VK->Prop)(te:TE)(tl th:TO):TE:=fun σ H Q=>te σ H fun x H1=>tl σ H1 fun l H2=>th σ H2 fun u H3=>r x l u H3 Q
theorem XA {r:V->Option Int->Option Int->Hp->VK->Prop}(hr:zR X r)(he:PE X e te)(hl:PO X lo tl)(hu:PO X hi th):PE X (.Subscript e (.Slice lo hi none p2) pos) (Tb r te tl th):=by
 intro pz s σ H Q I h
 refine Subscript_ (bD (he pz s σ H _ I h) fun v s1 ⟨x,H1,I1,r1,q1⟩=>?_)
 refine wpAny_Slice (bD (hl pz s1 σ H1 _ I1 q1) fun vl s2 ⟨l,H2,I2,pl,q2⟩=>bD (hu pz s2 σ H2 _ I2 q2) fun vu s3 ⟨u,H3,I3,pu,q3⟩=>?_)
 rw[Vi]
 refine ar ?_
 have I4:Inv X pz σ H3 { s3 with heap:=s3.heap.push { cls:=.type "slice", data:=.fields #[vl,vu,.none] } }:=I3.kept (t':=s3.toks) fun b ob q=>ai _ q
 obtain⟨T,id,hT,ht,hg⟩:=hr pz { s3 with heap:=s3.heap.push { cls:=.type "slice", data:=.fields #[vl,vu,.none] } } σ H3 x v vl vu l u s3.heap.objs.size Q I4 r1 (Heap.IsSliceOf.new ..) pl pu q3
 show wpAny (model X.prog X.w) X.A (Vj e (.Slice lo hi none p2) v (.ref s3.heap.objs.size)) (EP X pz σ Q) X.xe { s3 with heap:=s3.heap.push { cls:=.type "slice", data:=.fields #[vl,vu,.none] } }
 exact tail_any (ops:=[.ref s3.heap.objs.size,v]) ht hT hg (by with_unfolding_all rfl)
noncomputable def G5 (xs:List V)(lo hi:Option Int):List V:=(xs.drop (HT.cJ xs.length 0 lo)).take (HT.cJ xs.length xs.length hi-HT.cJ xs.length 0 lo)
theorem CP (xs:List V)(lo hi:Option Int):(G5 xs lo hi).length<=xs.length:=by
 unfold G5
 rw[oy,uc]
 omega
def Ip (K:aa):V->Option Int->Option Int->Hp->VK->Prop:=fun x lo hi H Q=>∃ a xs,x=.ref a/\eU K H a xs /\
 ¬(HT.cJ xs.length 0 lo=0/\HT.cJ xs.length xs.length hi=xs.length)/\∀ p,H p=none->Q (.ref p) (upd H p (.tup (G5 xs lo hi)))
theorem K1:zR X (Ip X.K):=by
 intro pz s σ H x v vl vu lo hi sl Q I rx hs pl pu h
 obtain⟨a,xs,rfl,hx,hw,q⟩:=h
 cases rx
 obtain⟨aD,r,ht,hz⟩:=I.tuple hx
 have hlen:aD.toArray.size=xs.length:=by rw[av];exact r.length.symm
 refine⟨"tuple", _,PyProof.Rows.slot_tuple_getitem.lookup,ht.typeIs,?_⟩
 refine HT.BZ ht hs pl pu (by rw[hlen];exact hw) ?_ (by rw[hlen];exact hz)
 rw[hlen]
 refine⟨.ref s.heap.objs.size,_,I.laid (t':=s.toks) (o:=.tup (G5 xs lo hi)) (fun b ob q=>ai _ q) (az _) ?_,rfl,q _ (I.bT.fresh (az _))⟩
 exact⟨Nat.le_trans (CP xs lo hi) hz,_,(r.drop (HT.cJ xs.length 0 lo)).take (HT.cJ xs.length xs.length hi-HT.cJ xs.length 0 lo),rH.new _ _⟩
noncomputable def YV (K:aa):R2:=fun x y H Q=>∃ a b xs ys,x=.ref a/\y=.ref b/\eU K H a xs/\eU K H b ys/\xs≠[]/\xs.length+ys.length<=sizeLine /\
 (ys=[]->Q (.ref a) H)/\(ys≠[]->∀ p,H p=none->Q (.ref p) (upd H p (.tup (xs++ys))))
theorem aU.A9 {xs:List V}{us:List ae}(r:aU xs us):us=[]↔xs=[]:=by
 cases r with
 |nil=>simp
 |cons _ _=>simp
theorem Bx:iT X (iq .Add) (YV X.K):=by
 intro pz s σ H x y v u Q I rx ry h
 obtain⟨a,b,xs,ys,rfl,rfl,ha,hb,hx,hz,q1,q2⟩:=h
 cases rx
 cases ry
 obtain⟨aD,r1,p1,_⟩:=I.tuple ha
 obtain⟨oZ,r2,p2,_⟩:=I.tuple hb
 refine HT.Z4 p1 p2 (fun z=>hx (r1.A9.mp z)) (fun z=>⟨.ref a,H,I,rfl,q1 (r2.A9.mp z)⟩) (fun z=>?_) (by rw[<-r1.length,<-r2.length];exact hz)
 refine⟨.ref s.heap.objs.size,_,I.laid (t':=s.toks) (o:=.tup (xs++ys)) (fun b ob q=>ai _ q) (az _) ?_,rfl,q2 (fun w=>z (r2.A9.mpr w)) _ (I.bT.fresh (az _))⟩
 exact⟨by rw[bp];exact hz,_,r1.append r2,rH.new _ _⟩
end
end L2
namespace L2
open PySem PySem.Spec PyProof.Rows
noncomputable def pD (n:Nat)(i:Int):Option Nat:=if 0<=i then(if i<n then some i.toNat else none)else if -(n:Int)<=i then some (i+n).toNat else none
noncomputable def gQ {α:Type}(xs:List α)(i:Int):Option α:=(pD xs.length i).bind fun j=>xs[j]?
theorem PK {n:Nat}{i:Int}{j:Nat}(h:pD n i=some j):seqIndex? i n=some j/\j<n/\-(n:Int)<=i/\i<n:=by
 unfold pD at h
 by_cases h0:0<=i
 ·rw[if_pos h0]at h
  by_cases h1:i<n
  ·rw[if_pos h1]at h
   have e:i.toNat=j:=cw h
   exact⟨by rw[wj h0 h1,e],by omega,by omega,h1⟩
  ·rw[if_neg h1]at h;cases h
 ·rw[if_neg h0]at h
  by_cases h1 : -(n:Int)<=i
  ·rw[if_pos h1]at h
   have e:(i+n).toNat=j:=cw h
   exact⟨by rw[yu (by omega) h1,e],by omega,h1,by omega⟩
  ·rw[if_neg h1]at h;cases h
theorem FY {α:Type}{xs:List α}{i:Int}{v:α}(h:gQ xs i=some v):∃ j,seqIndex? i xs.length=some j/\xs[j]? = some v/\j<xs.length/\-(xs.length:Int)<=i/\i<xs.length:=by
 unfold gQ at h
 cases e:pD xs.length i with
 |none=>rw[e]at h;cases h
 |some j =>
 rw[e]at h
 obtain⟨h1,h2,h3,h4⟩:=PK e
 exact⟨j,h1,h,h2,h3,h4⟩
theorem eJ {α:Type}{xs:List α}{j:Nat}{v:α}(h:xs[j]? = some v):gQ xs (j:Int)=some v:=by
 have hj:j<xs.length:=(List.getElem?_eq_some_iff.mp h).1
 have e:pD xs.length (j:Int)=some j:=by
  unfold pD
  rw[if_pos (by omega),if_pos (by omega)];simp
 unfold gQ;rw[e];exact h
def vI (b:Expr):Prop:=∀ o i,subscripted b false o i=operate [o,i] (vb o i)
def yR (X:Cx)(r:R2):Prop :=
 ∀(value slice:Expr)(pz:List (Addr×Obj))(s:ag)(σ:St)(H:Hp)(x y:V)(v u:ae)(Q:VK),Inv X pz σ H s->RelV x v->RelV y u->r x y H Q ->
 subscripted slice false v u=operate [v,u] (vb v u)->wpAny (model X.prog X.w) X.A (Vj value slice v u) (EP X pz σ Q) X.xe s
def Y8 (X:Cx)(id:String)(r:V->List V->Hp->VK->Prop):Prop :=
 ∀(pz:List (Addr×Obj))(s:ag)(σ:St)(H:Hp)(x:V)(xs:List V)(v:ae)(us:List ae)(Q:VK),Inv X pz σ H s->RelV x v->aU xs us->r x xs H Q ->
 wpAny (model X.prog X.w) X.A (call (.builtin id) (v::us)) (EP X pz σ Q) X.xe s
section
variable {X:Cx}{a b:Expr}{ta tb:TE}{pos:Pos}
theorem yR.or {r r':R2}(h:yR X r)(h':yR X r'):yR X (fun x y H Q=>r x y H Q∨r' x y H Q):=by
 intro value slice pz s σ H x y v u Q I rx ry q hs
 rcases q with q|q
 ·exact h value slice pz s σ H x y v u Q I rx ry q hs
 ·exact h' value slice pz s σ H x y v u Q I rx ry q hs
theorem ZA {r:R2}(hr:yR X r)(ha:PE X a ta)(hb:PE X b tb)(hs:vI b):PE X (.Subscript a b pos) (Ga r ta tb):=by
 intro pz s σ H Q I h
 exact Subscript_ (Ju ha hb I h fun v u s2 x y H2 I2 rx ry q=>hr a b pz s2 σ H2 x y v u Q I2 rx ry q (hs _ _))
noncomputable def Hh (K:aa):R2:=fun x y H Q=>∃ p xs i v,x=.ref p/\y=.int i/\eT K H p xs/\gQ xs i=some v/\Q v H
noncomputable def Gw (K:aa):R2:=fun x y H Q=>∃ p xs i v,x=.ref p/\y=.int i/\eU K H p xs/\gQ xs i=some v/\Q v H
noncomputable def Hs:R2:=fun x y H Q=>∃ z i c,x=.str z/\y=.int i/\z.length<=sizeLine/\gQ z.cps.toList i=some c/\Q (.str ⟨#[c]⟩) H
theorem Z3:yR X (Hh X.K):=by
 intro value slice pz s σ H x y v u Q I rx ry h hs
 obtain⟨p,xs,i,z,rfl,rfl,hq,he,q⟩:=h
 cases rx
 obtain⟨t,rfl⟩:=ry
 obtain⟨aD,r,pl,hz⟩:=I.list hq
 obtain⟨j,h1,h2,h3,h4,h5⟩:=FY he
 obtain⟨w,ew,rw'⟩:=r.get h2
 have hl:=r.length
 have hn:=rZ
 have fin:EP X pz σ Q w s:=⟨z,H,I,rw',q⟩
 by_cases h0:0<=i
 ·have hj:i.toNat=j:=by
   rw[wj h0 h5]at h1
   exact cw h1
  exact item_listR pl.isList h0 (by omega) (by rw[hj];simpa using ew) fin hs
 ·have hj:(i+(aD.toArray.size:Int)).toNat=j:=by
   rw[yu (by omega) h4]at h1
   rw[av,<-hl]
   exact cw h1
  exact oo (x:=w) pl.isList.typeIs slot_list_getitem.lookup
   (wpAny_getItem_list_neg (Q:=fun r s'=>r=w/\EP X pz σ Q r s') pl.isList (by omega) (by rw[av]<;>omega) (by omega) (by rw[hj];simpa using ew) ⟨rfl,fin⟩) hs
theorem mR:yR X (Gw X.K):=by
 intro value slice pz s σ H x y v u Q I rx ry h hs
 obtain⟨p,xs,i,z,rfl,rfl,hq,he,q⟩:=h
 cases rx
 obtain⟨t,rfl⟩:=ry
 obtain⟨aD,r,pl,hz⟩:=I.tuple hq
 obtain⟨j,h1,h2,h3,h4,h5⟩:=FY he
 obtain⟨w,ew,rw'⟩:=r.get h2
 have hl:=r.length
 have hn:=rZ
 have fin:EP X pz σ Q w s:=⟨z,H,I,rw',q⟩
 exact oo (x:=w) pl.typeIs slot_tuple_getitem.lookup
  (getItem_tuple (j:=j) (Q:=fun r s'=>r=w/\EP X pz σ Q r s') pl (by omega) (by omega) (by rw[av,<-hl];exact h1) (by simpa using ew) ⟨rfl,fin⟩) hs
theorem KL:yR X Hs:=by
 intro value slice pz s σ H x y v u Q I rx ry h hs
 obtain⟨z,i,c,rfl,rfl,hz,he,q⟩:=h
 obtain⟨t,rfl⟩:=rx
 obtain⟨t',rfl⟩:=ry
 obtain⟨j,h1,h2,h3,h4,h5⟩:=FY he
 have hl:z.cps.toList.length=z.length:=by simp [kc]
 rw[hl]at h1 h4 h5
 have hn:=rZ
 exact tail_any (typeIs_str s z t) slot_str_getitem.lookup (getItem_str (c:=c) (by
 have e1:decide (i < -(2 ^ 63:Int))=false:=decide_eq_false (by omega)
 have e2:decide (i ≥ 2 ^ 63)=false:=decide_eq_false (by omega)
 rw[e1,e2,xp]) (by rw[h1];simpa using h2) ⟨.str ⟨#[c]⟩,H,I.tok _,⟨_,rfl⟩,q⟩) hs
noncomputable def Pk (K:aa):R2:=fun x y H Q=>Hh K x y H Q∨Gw K x y H Q∨Hs x y H Q
theorem Fe:yR X (Pk X.K):=Z3.or (mR.or KL)
theorem QK (aD:List ae)(n j:Nat)(u:ae):jw (·.setIfInBounds j u) { cls:=.type "list", data:=.seq aD.toArray n } = { cls:=.type "list", data:=.seq (aD.set j u).toArray n }:=by
 simp [jw]
theorem Inv.lst {pz:List (Addr×Obj)}{σ:St}{H:Hp}{s:ag}{p:Addr}{xs:List V}(I:Inv X pz σ H s)(h:H p=some (.lst xs)):
 ∃(aD:List ae)(n:Nat),aU xs aD/\s.heap.get? p=some { cls:=.type "list", data:=.seq aD.toArray n }/\xs.length<=sizeLine:=by
 obtain⟨z,aD,n,r,e⟩:=I.bT p _ h
 exact⟨aD,n,r,e,z⟩
theorem Inv.Fz {pz:List (Addr×Obj)}{σ:St}{H:Hp}{s:ag}{p:Addr}{xs ys:List V}{aD mL:List ae}{n n':Nat}{f:Obj->Obj}(I:Inv X pz σ H s)(h:H p=some (.lst xs))
  (ho:s.heap.get? p=some { cls:=.type "list", data:=.seq aD.toArray n })(hf:f { cls:=.type "list", data:=.seq aD.toArray n } = { cls:=.type "list", data:=.seq mL.toArray n' })(r:aU ys mL)(hz:ys.length<=sizeLine)(t:Nat):
  Inv X pz σ (upd H p (.lst ys)) { s with heap:=s.heap.update p f,toks:=t }:=by
 have e:(s.heap.update p f).get? p=some { cls:=.type "list", data:=.seq mL.toArray n' }:=by
  rw[g8 f ho (by rw[hf]<;>rfl),hf]
 refine I.write (x:=p) (e:=p) (by rw[h];trivial) (.inl rfl) (fun b u hb q=>(fv _ _ (ey hb)).trans q) ⟨_,e⟩ ?_
 exact⟨hz,mL,n',r,e⟩
def Mg:V->V->V->Hp->(Hp->Prop)->Prop:=fun o i v H Q=>∃ p xs k j,o=.ref p/\i=.int k/\H p=some (.lst xs)/\pD xs.length k=some j/\Q (upd H p (.lst (xs.set j v)))
theorem set_list:Ep X Mg:=by
 intro pz s σ H o i v ov iv u Q I ro ri rv h
 obtain⟨p,xs,k,j,rfl,rfl,hp,hj,q⟩:=h
 cases ro
 obtain⟨t,rfl⟩:=ri
 obtain⟨aD,n,r,ho,hz⟩:=I.lst hp
 obtain⟨h1,h2,h3,h4⟩:=PK hj
 have hl:=r.length
 have hn:=rZ
 have I':Inv X pz σ (upd H p (.lst (xs.set j v))) { s with heap:=s.heap.update p (jw (·.setIfInBounds j u)) } :=
  I.Fz hp ho (QK aD n j u) (r.set rv j) (by rw[Uh];exact hz) s.toks
 by_cases h0:0<=k
 ·have hk:k.toNat=j:=by
   rw[wj h0 h4]at h1
   exact cw h1
  exact PySem.W.ki_setAt ho h0 (by omega) (by rw[av,<-hl];exact h4) (by rw[hk];exact⟨_,I',q⟩)
 ·have hk:(k+(aD.toArray.size:Int)).toNat=j:=by
   rw[yu (by omega) h3]at h1
   rw[av,<-hl]
   exact cw h1
  exact PySem.W.ki_setBack ho (by omega) (by rw[av,<-hl];exact h3) (by omega) (by rw[hk];exact⟨_,I',q⟩)
theorem ME (lo hi:Option Int)(n:Nat):(ny lo hi none n).1=((HT.cJ n 0 lo:Nat):Int)/\(ny lo hi none n).2.1=((HT.cJ n n hi:Nat):Int)/\(ny lo hi none n).2.2=1:=by
 refine⟨?_,?_,rfl⟩
 ·cases lo with
 |none=>simp [ny,HT.cJ]
 |some i =>
  simp only[ny,HT.cJ,zm,show(1:Int)>0 by decide,if_true]
  by_cases h:i<0
  ·simp only[h,if_true]<;>omega
  ·simp only[h,if_false]<;>omega
 ·cases hi with
 |none=>simp [ny,HT.cJ]
 |some i =>
  simp only[ny,HT.cJ,zm,show(1:Int)>0 by decide,if_true]
  by_cases h:i<0
  ·simp only[h,if_true]<;>omega
  ·simp only[h,if_false]<;>omega
theorem JX (aD:List ae)(lo hi:Option Int):slicePick aD.toArray lo hi none=((aD.drop (HT.cJ aD.length 0 lo)).take (HT.cJ aD.length aD.length hi-HT.cJ aD.length 0 lo)).toArray:=by
 obtain⟨h1,h2,h3⟩:=ME lo hi aD.toArray.size
 unfold slicePick
 rw[h1,h2,h3]
 simp only[sliceRange_one,pick_run,av]<;>rfl
def Gi (K:aa):V->Option Int->Option Int->Hp->VK->Prop:=fun x lo hi H Q=>∃ a xs,x=.ref a/\eT K H a xs/\∀ p,H p=none->Q (.ref p) (upd H p (.lst (G5 xs lo hi)))
theorem Bj:zR X (Gi X.K):=by
 intro pz s σ H x v vl vu lo hi sl Q I rx hs pl pu h
 obtain⟨a,xs,rfl,hx,q⟩:=h
 cases rx
 obtain⟨aD,r,ht,hz⟩:=I.list hx
 have hlen:=r.length
 refine⟨"list", _,slot_list_getitem.lookup,ht.isList.typeIs,?_⟩
 refine wpAny_getItem_list_slice ht.isList hs pl pu .none (by simp) ?_ (by rw[av]<;>omega)
 rw[JX,<-hlen]
 refine⟨.ref s.heap.objs.size,_,I.laid (t':=s.toks) (o:=.lst (G5 xs lo hi)) (fun b ob q=>ai _ q) (az _) ?_,rfl,q _ (I.bT.fresh (az _))⟩
 exact⟨Nat.le_trans (CP xs lo hi) hz,_,0,(r.drop (HT.cJ xs.length 0 lo)).take (HT.cJ xs.length xs.length hi-HT.cJ xs.length 0 lo),bj _ rfl⟩
theorem L8:iT X (tx .NotIn) (fun x y H Q=>∃ i j,x=.str i/\y=.str j/\Q (.bl (!(!(nu j i 0 j.length 1).isEmpty))) H):=by
 intro pz s σ H x y v u Q I rx ry h
 obtain⟨i,j,rfl,rfl,q⟩:=h
 obtain⟨t,rfl⟩:=rx
 obtain⟨t',rfl⟩:=ry
 exact notIn_str ⟨.bl _,H,I,rfl,q⟩
theorem MD:yC X (.type "list") (fun xs H Q=>∃ p ys,xs=[.ref p]/\(eT X.K H p ys∨eU X.K H p ys)/\∀ l,H l=none->Q (.ref l) (upd H l (.lst ys))):=by
 intro pz s σ H xs us Q I r h
 obtain⟨p,ys,rfl,hq,q⟩:=h
 obtain⟨u,rfl,rx⟩:=vals1 r
 cases rx
 have fin:∀(aD:List ae),aU ys aD->ys.length<=sizeLine->∀(h':Heap)(c':Nat),(∀ b o',s.heap.get? b=some o'->h'.get? b=some o') ->
   h'.get? s.heap.objs.size=some { cls:=.type "list", dict:=none,data:=.seq aD.toArray c',slots:=#[] }->EP X pz σ Q (.ref s.heap.objs.size) { s with heap:=h' }:=fun aD r' hz h' c' kp e =>
  ⟨.ref s.heap.objs.size,_,I.laid (t':=s.toks) kp (az _) (show kO X.prog X.w _ h' _ (.lst ys)from⟨hz,aD,c',r',e⟩),rfl,q _ (I.bT.fresh (az _))⟩
 rcases hq with hq|hq
 ·obtain⟨aD,r',pl,hz⟩:=I.list hq
  have hlen:=r'.length
  obtain⟨o,ho,hc,n,hd⟩:=pl.isList
  exact Vk p (.inl rfl) ho hc hd (fun h' c' kp e=>fin aD r' hz h' c' kp e) (by simp only[av]<;>omega)
 ·obtain⟨aD,r',pl,hz⟩:=I.tuple hq
  have hlen:=r'.length
  obtain⟨o,ho,hc,n,hd⟩:=pl
  exact Vk p (.inr rfl) ho hc hd (fun h' c' kp e=>fin aD r' hz h' c' kp e) (by simp only[av]<;>omega)
theorem yT:yC X (.type "tuple") (fun xs H Q=>∃ p ys,xs=[.ref p]/\((eT X.K H p ys/\∀ l,H l=none->Q (.ref l) (upd H l (.tup ys)))∨(eU X.K H p ys/\Q (.ref p) H))):=by
 intro pz s σ H xs us Q I r h
 obtain⟨p,ys,rfl,h⟩:=h
 obtain⟨u,rfl,rx⟩:=vals1 r
 cases rx
 rcases h with⟨hq,q⟩|⟨hq,q⟩
 ·obtain⟨aD,r',pl,hz⟩:=I.list hq
  have hlen:=r'.length
  refine call_tuple_list pl.isList (fun h' kp=>?_) (by simp only[av]<;>omega)
  have I1:Inv X pz σ H { s with heap:=h' }:=I.kept (t':=s.toks) kp
  have I2:Inv X pz σ (upd H h'.objs.size (.tup ys)) { s with heap:=h'.push { cls:=.type "tuple", data:=.seq aD.toArray } } :=
   I1.laid (t':=s.toks) (fun b o e=>ai _ e) (az _) (show kO X.prog X.w _ _ _ (.tup ys)from⟨hz,aD,r',rH.new _ _⟩)
  exact⟨.ref h'.objs.size,_,I2,rfl,q _ (I1.bT.fresh (az _))⟩
 ·obtain⟨aD,r',pl,hz⟩:=I.tuple hq
  exact call_tuple_same pl ⟨.ref p,H,I,rfl,q⟩
def VD (K:aa)(T:String)(x:V)(H:Hp):Prop:=match x with
 |.str _=>T ="str"
 |.int _=>T ="int"
 |.ref p=>(T ="list" /\ ∃ xs,eT K H p xs)∨(T ="tuple" /\ ∃ o,K.lookup p=some o/\o.cls=.type "tuple" /\ o.dict=none) ∨
  (T ="dict" /\ ((∃ iU,H p=some (.dK iU))∨∃ iU,H p=some (.dT iU)))∨(T ="set" /\ ∃ S n,H p=some (.set S n))
 |_=>False
theorem TX {pz:List (Addr×Obj)}{σ:St}{H:Hp}{s:ag}{T:String}{x:V}{v:ae}(I:Inv X pz σ H s)(r:RelV x v)(ty:VD X.K T x H):
  s.TypeIs v T/\∀ a,v=.ref a->∃ ob,s.heap.get? a=some ob/\ob.dict=none:=by
 cases x with
 |str z =>
  obtain⟨t,rfl⟩:=r
  cases (show T ="str" from ty)
  exact⟨typeIs_str s z t,fun _ e=>nomatch e⟩
 |int i =>
  obtain⟨t,rfl⟩:=r
  cases (show T ="int" from ty)
  exact⟨typeIs_int s i t,fun _ e=>nomatch e⟩
 |ref p =>
  cases r
  rcases ty with⟨rfl,xs,hq⟩|⟨rfl,o,hk,hc,hd⟩|⟨rfl,hk⟩|⟨rfl,S,n,hk⟩
  ·obtain⟨aD,_,pl,_⟩:=I.list hq
   refine⟨pl.isList.typeIs,fun a e=>?_⟩
   cases e
   obtain⟨o,n,e,c,hd,_⟩:=pl
   exact⟨o,e,hd⟩
  ·refine⟨⟨o,I.jN p o hk,hc⟩,fun a e=>?_⟩
   cases e
   exact⟨o,I.jN _ o hk,hd⟩
  ·have z:∃ o,s.heap.get? p=some o/\o.ExactDict:=by
    rcases hk with⟨iU,hk⟩|⟨iU,hk⟩
    ·obtain⟨_,_,_,_,o,_,_,e,ex,_⟩:=I.bT p _ hk
     exact⟨o,e,ex⟩
    ·obtain⟨_,_,_,_,o,_,_,e,ex,_⟩:=I.bT p _ hk
     exact⟨o,e,ex⟩
   obtain⟨o,e,ex⟩:=z
   refine⟨⟨o,e,ex.1⟩,fun a e2=>?_⟩
   cases e2
   exact⟨o,e,ex.2.1⟩
  ·obtain⟨o,_,_,_,e,ex,_⟩:=I.bT p _ hk
   refine⟨⟨o,e,ex.1⟩,fun a e2=>?_⟩
   cases e2
   exact⟨o,e,ex.2.1⟩
 |_=>exact dy ty
noncomputable def Ql (K:aa)(T:String)(r:V->List V->Hp->VK->Prop)(to:TE):TE:=fun σ H Q=>to σ H fun x H1=>VD K T x H1/\r x [] H1 Q
noncomputable def To (K:aa)(T:String)(r:V->List V->Hp->VK->Prop)(to:TE)(t:TA):TE:=fun σ H Q=>to σ H fun x H1=>VD K T x H1/\t σ H1 fun xs H2=>r x xs H2 Q
variable {o e:Expr}{es:List Expr}{to:TE}{t:TA}{name:Str}{apos lI:Pos}{T id:String}{r:V->List V->Hp->VK->Prop}
theorem Fd (pa:PlainAttrs T)(slot:Slot T name id)(hty:Wr (.builtin id)=pure (.type "method_descriptor"))(hm:Y8 X id r)(ho:PE X o to)
 (kU:f7 o name X.env (eval o X.env)=eval o X.env:=by rfl)(kW:(apos.endLine==lI.line)=true:=by rfl):PE X (.Call (.Attribute o name apos) [] [] lI) (Ql X.K T r to):=by
 intro pz s σ H Q I h
 refine wpAny_Call_method0_late kU kW (bD (ho pz s σ H _ I h) fun v s1 ⟨x,H1,I1,r1,ty,q1⟩=>?_)
 obtain⟨h1,h2⟩:=TX I1 r1 ty
 exact⟨T,id,pa,slot,hty,h1,h2,kx rfl (PySem.evalArgs_none (hm pz s1 σ H1 x [] v [] Q I1 r1 .nil q1))⟩
theorem Kf (pa:PlainAttrs T)(slot:Slot T name id)(hty:Wr (.builtin id)=pure (.type "method_descriptor"))(hm:Y8 X id r)(ho:PE X o to)(ha:PA X (e::es) t)
 (kU:f7 o name X.env (eval o X.env)=eval o X.env:=by rfl)
 (vG:((du lI (ao (e::es) X.env)).all (fun x=>!x.1)&&(oi lI (j6 [] X.env)).all (fun x=>x.1.isSome)
  && decide ((e::es).length+([]:List qs).length+(if([]:List qs).isEmpty then 0 else 1)<30))=true:=by rfl)
 (kW:(apos.endLine==lI.line)=true:=by rfl)(hs:ao (e::es) X.env=(false,eval e X.env)::ao es X.env:=by rfl)(tP:(du lI (ao es X.env)).any (·.1)=false:=by rfl):
 PE X (.Call (.Attribute o name apos) (e::es) [] lI) (To X.K T r to t):=by
 intro pz s σ H Q I h
 refine vd kU vG kW rfl (bD (ho pz s σ H _ I h) fun v s1 ⟨x,H1,I1,r1,ty,q1⟩=>?_)
 obtain⟨h1,h2⟩:=TX I1 r1 ty
 refine⟨T,id,pa,slot,hty,h1,h2,?_⟩
 have hA:=ha lI pz s1 σ H1 _ I1 q1
 rw[hs]at hA ⊢
 refine kx (by show(false||(du lI (ao es X.env)).any (·.1))=false;rw[tP]<;>rfl) (p0 ?_)
 exact bD hA fun us s2 ⟨vs,H2,I2,r2,q2⟩=>hm pz s2 σ H2 x vs v us Q I2 r1 r2 q2
end
end L2
namespace L2
open PySem PySem.Spec PyProof.Rows
def Dw (X:Cx)(id:String)(r:V->List V->Hp->VK->Prop):Prop :=
 ∀(pz:List (Addr×Obj))(s:ag)(σ:St)(H:Hp)(x:V)(xs:List V)(v:ae)(us:List ae)(Q:VK),Inv X pz σ H s->RelV x v->aU xs us->r x xs H Q ->
 wpAny (model X.prog X.w) X.A (call (.builtin id) (v::us)) (EP X pz σ Q) X.xe s
theorem aU.one:∀{x:V}{us:List ae},aU [x] us->∃ u,us=[u]/\RelV x u
 |_,_,.cons r .nil=>⟨_,rfl,r⟩
theorem aU.zero:∀{us:List ae},aU [] us->us=[]
 |_,.nil=>rfl
theorem aU.dropLast {xs:List V}{us:List ae}(h:aU xs us):aU xs.dropLast us.dropLast:=by
 induction h with
 |nil=>exact .nil
 |cons r t ih =>
 cases t with
 |nil=>exact .nil
 |cons q t'=>exact .cons r ih
theorem aU.reverse {xs:List V}{us:List ae}(h:aU xs us):aU xs.reverse us.reverse:=by
 induction h with
 |nil=>exact .nil
 |cons r t ih=>rw[i7,i7];exact aU.append ih (.cons r .nil)
theorem aU.rep {xs:List V}{us:List ae}(h:aU xs us):∀ k:Nat,aU (ak k xs).flatten (ak k us).flatten
 |0=>.nil
 |k+1=>by
  rw[jh,jh,lz,lz]
  exact aU.append h (aU.rep h k)
theorem P7 {α:Type}(l:List α):l.eraseIdx (l.length-1)=l.dropLast:=by
 induction l with
 |nil=>rfl
 |cons a r ih =>
  cases r with
  |nil=>rfl
  |cons b r =>
   have e:(a::b::r).length-1=((b::r).length-1)+1:=by
    have h1:(a::b::r).length=r.length+2:=rfl
    have h2:(b::r).length=r.length+1:=rfl
    omega
   rw[e,List.eraseIdx_cons_succ,ih]
   all_goals rfl
theorem w9 (aD:List ae):∀(k:Nat)(acc:List ae),
  oz (fun x1 x2=>x1++x2) acc.toArray (ak k aD.toArray)=(acc++(ak k aD).flatten).toArray
 |0,acc=>by simp
 |k+1,acc=>by
  have e:acc.toArray++aD.toArray=(acc++aD).toArray:=by simp
  have e2:(acc++aD)++(ak k aD).flatten=acc++(ak (k+1) aD).flatten:=by
   rw[jh,lz,oq]
  rw[<-e2,<-w9 aD k (acc++aD),<-e,jh,lb]
section
variable {X:Cx}{pz:List (Addr×Obj)}{σ:St}{H:Hp}{s:ag}{l b:Addr}{xs ys zs:List V}
theorem Inv.RN {aD mL:List ae}{n:Nat}{f:Array ae->Array ae}{t':Nat}(I:Inv X pz σ H s)(hH:H l=some (.lst xs))
 (e:s.heap.get? l=some { cls:=.type "list", data:=.seq aD.toArray n })(hf:f aD.toArray=mL.toArray)(hv:aU ys mL)(hz:ys.length<=sizeLine):
 Inv X pz σ (upd H l (.lst ys)) { s with heap:=s.heap.update l (jw f),toks:=t' }:=by
 have q:=PySem.IsL.update e f
 rw[hf]at q
 refine I.write (x:=l) (e:=l) (by rw[hH];exact trivial) (.inl rfl) (fun b' u hb hu=>(fv s.heap (jw f) (ey hb)).trans hu) ⟨_,q⟩ ?_
 exact⟨hz,mL,_,hv,q⟩
theorem Inv.VV {aD:List ae}{t':Nat}(I:Inv X pz σ H s)(hv:aU ys aD)(hz:ys.length<=sizeLine):
 Inv X pz σ (upd H s.heap.objs.size (.lst ys)) { s with heap:=s.heap.push { cls:=.type "list", data:=.seq aD.toArray },toks:=t' } :=
 I.laid (fun _ _ q=>ai _ q) (az _) ⟨hz,aD,0,hv,bj _ rfl⟩
theorem Inv.fresh (I:Inv X pz σ H s):H s.heap.objs.size=none:=I.bT.fresh (az _)
theorem Inv.yD (I:Inv X pz σ H s)(hH:H l=some (.lst xs)):xs.length<=sizeLine/\∃(aD:List ae)(n:Nat),aU xs aD/\xs.length=aD.length/\s.heap.get? l=some { cls:=.type "list", data:=.seq aD.toArray n }:=by
 obtain⟨z,aD,n,r,e⟩:=I.bT l _ hH
 exact⟨z,aD,n,r,r.length,e⟩
theorem C2 {n:Nat}(h:n<=sizeLine):dz n=false:=by
 unfold dz
 exact decide_eq_false (by omega)
end
section
variable {X:Cx}
def Ah:V->List V->Hp->VK->Prop:=fun x vs H Q=>∃ l xs y,x=.ref l/\vs=[y]/\H l=some (.lst xs)/\xs.length<sizeLine/\Q .non (upd H l (.lst (xs++[y])))
theorem uS:Dw X "list.append" Ah:=by
 intro pz s σ H x vs v us Q I rx rv h
 obtain⟨l,xs,y,rfl,rfl,hH,hz,q⟩:=h
 cases rx
 obtain⟨u,rfl,ru⟩:=rv.one
 obtain⟨z,aD,n,r,hl,e⟩:=I.yD hH
 refine ni F.slot_list_append ⟨_,e,rfl⟩ F.entry_list_append (F.args_list_append_2 _ _) (PySem.list_append l aD.toArray n u (by rw[av];omega)) ⟨e,?_⟩
 refine⟨.non,_,I.RN (mL:=aD++[u]) hH e (by simp) (r.append (.cons ru .nil)) ?_,rfl,q⟩
 rw[bp,List.length_singleton]
 omega
def Cz:V->List V->Hp->VK->Prop:=fun x vs H Q=>∃ l b xs zs,x=.ref l/\vs=[.ref b]/\H l=some (.lst xs)/\H b=some (.lst zs)/\xs.length+zs.length<=sizeLine/\Q .non (upd H l (.lst (xs++zs)))
theorem zE:Dw X "list.extend" Cz:=by
 intro pz s σ H x vs v us Q I rx rv h
 obtain⟨l,b,xs,zs,rfl,rfl,hH,hB,hz,q⟩:=h
 cases rx
 obtain⟨u,rfl,ru⟩:=rv.one
 cases ru
 obtain⟨z,aD,n,r,hl,e⟩:=I.yD hH
 obtain⟨z2,oZ,n2,r2,hl2,e2⟩:=I.yD hB
 have lE:aD.toArray.size+oZ.toArray.size<=sizeLine:=by rw[av,av];omega
 have hlong:¬(!aD.toArray.isEmpty&&dz (aD.toArray.size+oZ.toArray.size))=true:=by
  rw[C2 lE,cq]
  exact e9
 refine ni ye ⟨_,e,rfl⟩ xf (wm _ _)
  (AutoSeq1.list_extend_list_list_0 l aD.toArray n b oZ.toArray n2 hlong (by rw[av];omega) (by omega)) ⟨e,e2,?_⟩
 refine⟨.non,_,I.RN (mL:=aD++oZ) hH e (by simp) (r.append r2) ?_,rfl,q⟩
 rw[bp]
 omega
def Ru:V->List V->Hp->VK->Prop:=fun x vs H Q=>∃ l xs y,x=.ref l/\vs=[]/\H l=some (.lst xs)/\xs[xs.length-1]? = some y/\Q y (upd H l (.lst xs.dropLast))
theorem MZ:Dw X "list.pop" Ru:=by
 intro pz s σ H x vs v us Q I rx rv h
 obtain⟨l,xs,y,rfl,rfl,hH,hy,q⟩:=h
 cases rx
 have hus:=rv.zero
 subst hus
 obtain⟨z,aD,n,r,hl,e⟩:=I.yD hH
 obtain⟨u,hu,ru⟩:=r.get hy
 have hy':aD.toArray[aD.toArray.size-1]? = some u:=by
  show aD.toArray[aD.length-1]? = some u
  rw[<-Array.getElem?_toList,<-hl]
  exact hu
 refine ni F.slot_list_pop ⟨_,e,rfl⟩ F.entry_list_pop (F.args_list_pop_1 _) (MeetsSeq.list_pop_last l aD.toArray n u hy' (by rw[av];omega)) ⟨e,?_⟩
 refine⟨y,_,I.RN (mL:=aD.dropLast) hH e ?_ r.dropLast ?_,ru,q⟩
 ·show aD.toArray.eraseIdxIfInBounds (aD.toArray.size-1)=aD.dropLast.toArray
  rw[av,List.eraseIdxIfInBounds_toArray,P7]
 ·rw[List.length_dropLast]
  omega
noncomputable def Hw:R2:=fun x y H Q=>∃ l b xs zs,x=.ref l/\y=.ref b/\H l=some (.lst xs)/\H b=some (.lst zs)/\xs.length+zs.length<=sizeLine/\∀ p,H p=none->Q (.ref p) (upd H p (.lst (xs++zs)))
theorem Gb:iT X (iq .Add) Hw:=by
 intro pz s σ H x y v u Q I rx ry h
 obtain⟨l,b,xs,zs,rfl,rfl,hH,hB,hz,q⟩:=h
 cases rx
 cases ry
 obtain⟨z,aD,n,r,hl,e⟩:=I.yD hH
 obtain⟨z2,oZ,n2,r2,hl2,e2⟩:=I.yD hB
 refine PySem.P.add_list e e2 ?_ (by rw[av,av];omega)
 have ea:aD.toArray++oZ.toArray=(aD++oZ).toArray:=by simp
 rw[ea]
 exact⟨.ref _,_,I.VV (t':=s.toks) (r.append r2) (by rw[bp];omega),rfl,q _ I.fresh⟩
noncomputable def Dr:R2:=fun x y H Q=>∃ l k xs,x=.ref l/\y=.int k/\H l=some (.lst xs)/\-(2 ^ 63)<=k/\k<2 ^ 63/\xs.length*k.toNat<=sizeLine /\
 ∀ p,H p=none->Q (.ref p) (upd H p (.lst (ak k.toNat xs).flatten))
theorem len_rep {α:Type}(xs:List α)(k:Nat):(ak k xs).flatten.length=k*xs.length:=by
 induction k with
 |zero=>simp
 |succ k ih=>rw[jh,lz,bp,ih,Nat.succ_mul,Nat.add_comm]
theorem Dh:iT X (iq .Mult) Dr:=by
 intro pz s σ H x y v u Q I rx ry h
 obtain⟨l,k,xs,rfl,rfl,hH,h1,h2,hz,q⟩:=h
 cases rx
 obtain⟨t,rfl⟩:=ry
 obtain⟨z,aD,n,r,hl,e⟩:=I.yD hH
 have hlen:aD.toArray.size*k.toNat<=sizeLine:=by rw[av,<-hl];exact hz
 have hcap:¬aD.toArray.size*k.toNat>(2 ^ 63-1) / 8:=by
  have:(sizeLine:Nat)<=(2 ^ 63-1) / 8:=by decide
  omega
 have pA:¬(!Builtin.List.listFitsIndex k)=true:=by
  rw[Us h1 h2]
  exact e9
 have hlong:¬dz (aD.toArray.size*k.toNat)=true:=by
  rw[C2 hlen]
  exact e9
 have hnew:oz (fun x1 x2=>x1++x2) #[] (ak (if aD.toArray.isEmpty=true then 0 else k.toNat) aD.toArray)=(ak k.toNat aD).flatten.toArray:=by
  have f0:∀ m:Nat,oz (fun x1 x2=>x1++x2) #[] (ak m aD.toArray)=(ak m aD).flatten.toArray:=fun m=>by
   have:=w9 aD m []
   rw[a9]at this
   exact this
  rw[f0]
  cases aD with
  |nil=>simp
  |cons a r'=>rw[if_neg (by simp)]
 refine rq (T :="list") (U :="int") (by decide) ⟨_,e,rfl⟩ (fun s'=>yf s' k t) noFill_list_mul F.fills_int_mul Ui repeat_list F.slot_int_index.lookup
  (ni Ui (yf s k t) F.entry_int_rmul (F.args_int_rmul_2 _ _) (int___rmul___int_list k t l aD.toArray n)
   ⟨e,rfl,⟨_,e,rfl⟩,ni F.slot_list_mul ⟨_,e,rfl⟩ F.entry_list_mul (F.args_list_mul_2 _ _) (AutoListH.list___mul___list_int_3 l aD.toArray n k t pA hcap hlong) ⟨e,?_⟩⟩)
 rw[hnew]
 exact⟨.ref _,_,I.VV (t':=s.toks) (r.rep k.toNat) (by rw[len_rep,Nat.mul_comm];exact hz),rfl,q _ I.fresh⟩
end
end L2
namespace Att
open PySem PySem.W PySem.Calls PyProof.Rows
theorem EV {P:Params}{h:Heap}:∀(ns:List Int)(vs:List ae),WellAll P h vs (ns.map WData.int)->ve vs ns:=by
 intro ns
 induction ns with
 |nil =>
 intro vs w
 rw[fe]at w
 cases w
 exact .nil
 |cons n ns ih =>
 intro vs w
 rw[ay]at w
 cases w with
 |cons a b =>
  cases a
  exact .cons _ _ (ih _ b)
theorem UR {l:Ww}{n:Nat}(hn:l.most=some n){P:Params}{h:Heap}{args:List WData}{vals:List ae}
  (hpre:l.row.toRowW.claim.pre args=true)(hwl:WellAll P h vals args):
  ∃ a vs ns,vals=[gx a]/\args=[WData.list (ns.map WData.int)]/\h.get? a=some { cls:=.type "list", data:=.seq vs.toArray }/\ve vs ns/\ns.length<=n:=by
 have hsh:WShape.hasAll [] args [.list .int]=true:=(pre_splitW hpre).1
 have hc:l.pre.holds [] { args:=args }=true:=(pre_splitW hpre).2
 obtain⟨d,r,rfl,h1,h2⟩:=hasAllW_cons hsh
 obtain rfl:=hasAllW_nil h2
 obtain⟨xs,rfl,h3⟩:=hasW_list h1
 obtain⟨ns,rfl⟩:=items_int h3
 have hlen:ns.length<=n:=by
  unfold OpenLaw.pre at hc
  have h4:(WTm.not (.lt (.lit (.int (n:Int))) (.len (.arg 0)))).holds [] { args:=[.list (ns.map .int)] }=true:=by
   have h4:=(holds_andW hc).1
   rw[hn]at h4
   exact h4
  have h5:=condW_of h4 (w_not (w_lt w_lit (w_len_list (w_arg rfl))))
  rw[ab]at h5
  refine zo fun q=>?_
  have q':(n:Int)<((ns.length:Nat):Int):=by omega
  first
   |(rw[decide_eq_true q']at h5;exact absurd h5 (by decide))
   |(simp at h5;omega)
 cases hwl with
 |cons w1 w2 =>
  cases w2
  cases w1 with
  |list ho rN=>exact⟨_,_,ns,rfl,rfl,ho,EV ns _ rN,hlen⟩
theorem UQ (l:Ww)(args:List WData):l.row.toRowW.claim.post args (.bool true) args=true :=
 postW_of (r:=l.row.toRowW) (X:=(true==true))
 (show WShape.has [] (.bool true) .bool=true by first|rfl|decide|simp [WShape.has,WShape.arms,WShape.armsAll])
 (show(WTm.eq .res (.lit (.bool true))).value [] { args:=args,res:=some (.bool true),after:=args }=some (.bool (true==true))from w_eq_bool (w_res rfl) w_lit) rfl
theorem NT {l:Ww}{n:Nat}{q:bu}{loose:List Str}{XP:(Str->Option ae)->Heap->Prop}{YP:de->Heap->Prop}{d:DefRec}
 (hn:l.most=some n)(hdf:d.params.defaults=[])
 (call:∀(w:de)(s₀ s₁:ag)(mg mb:Str->Option ae)(fa:Addr)(o:Obj)(pm cd doc:ae)(a:Addr)(vs:List ae)(ns:List Int),
  Ground q loose [] XP w s₀ mg mb s₁.heap->YP w s₁.heap ->
  s₁.heap.get? fa=some o->o.data=.func (docDef d.name d.params d.body d.scope pm cd doc)->s₁.heap.CodeRec cd d.name->mg d.name=some (.ref fa) ->
  s₁.heap.get? a=some { cls:=.type "list", data:=.seq vs.toArray }->ve vs ns->ns.length<=n->s₁.gens = #[] ->
  ku (model l.prog w) xa (.call (.ref fa) ⟨[.ref a],[]⟩) (fun r s'=>r=.ok (.ret (.bool true))/\OldK s₁.heap s'.heap/\s'.os=s₁.os/\sh s'.gens) s₁):
 WalkO q loose XP YP l.row.toRowW d [] (fun f vs=>PySem.call f vs):=by
 intro w s₀ s₁ mg mb G Y fa o pm cd doc dV kV ho hd hcd hD hmg hg args vals as hpre hlay hrd hwl hlo
 obtain rfl:dV=.none:=Dflts.none hD hdf
 obtain rfl:kV=.none:=Dflts.noKw hD
 obtain⟨a,vs,ns,rfl,rfl,hobj,hints,hlen⟩:=UR hn hpre hwl
 refine enter_call (kv (call w s₀ s₁ mg mb fa o pm cd doc a vs ns G Y ho (fd_plain hd) hcd hmg hobj hints hlen hg) fun r s' hq=>?_)
 obtain⟨rfl,h2,h3,h4⟩:=hq
 exact⟨.inl ⟨.bool true,.bool true,[],rfl,fun _=>rfl,.bool true,UQ l _,fun _=>⟨List.Pairwise.nil,fun _ hm=>(nomatch hm)⟩⟩,h2,h3,h4⟩
end Att
namespace L2
open PySem PySem.Spec PyProof.Rows
theorem HI:∀{vs:List ae}{ns:List Int},ve vs ns->aU (ns.map V.int) vs
 |_,_,.nil=>.nil
 |_,_,.cons n t h=>.cons ⟨t,rfl⟩ (HI h)
end L2
namespace L2
open PySem PySem.Spec PyProof.Rows
noncomputable def mD (s:Stmt):Arguments:=match s with
 |.FunctionDef _ a _ _ _ _ _ _ _ _=>a
 |_=>{ posonlyargs:=[],args:=[],vararg:=none,kwonlyargs:=[],kw_defaults:=[],kwarg:=none,defaults:=[] }
noncomputable def fH (s:Stmt):List Stmt:=match s with
 |.FunctionDef _ _ b _ _ _ _ _ _ _=>b
 |_=>[]
noncomputable def aH (s:Stmt):Scope:=match s with
 |.FunctionDef _ _ _ _ _ _ sc _ _ _=>sc
 |_=>{ kind:=.function,names:=[],isGenerator:=false,isCoroutine:=false }
noncomputable abbrev dP:CD:=fun _ _ _ _ _ _=>False
noncomputable abbrev E0:XK:=fun _ _ _=>False
theorem JZ {X:Cx}:qM dP X E0:=fun _ _ _ _ _ _ _ h=>h.elim
structure AW (K:aa)(x qual:Str)(st:Stmt)(f:Addr)(fd:gu):Prop where
 ex:∃(oc:ae)(od:Option Addr)(kV doc pm:ae)(an:Option Addr)(bG ct:ae)(osl:Array (Option ae)),
 fd=g9 x qual (mD st) (fH st) (aH st) .none kV doc pm an bG ct/\K.lookup f=some ⟨oc,od,.func fd,osl⟩/\ki K bG qual=true
 kp:ff K (.ref f)=true
section
variable {P:bu}{w:de}{K:aa}{mg:Str->Option ae}{base:Heap}
theorem AW.ok {x qual:Str}{st:Stmt}{f:Addr}{fd:gu}{N ps:List Str}{k:Nat}{sp:Sp}(F:AW K x qual st f fd)(S:nN N ps (aH st))(len:∀ vs H Q E,sp vs H Q E->vs.length=ps.length)
 (hbody:∀(bG:ae)(A:cb)(outer:List Env)(s:ag)(H:Hp)(vs:List V)(Q:VK)(E:XK),dC k (A.deeper (mi qual (aH st) s.heap.objs.size f bG))->sp vs H Q E ->
  ∃ t,lQ (fI dP P w K mg base N qual (aH st) f bG A outer s H E).jG (fH st) t/\t { nx:=fun _ H'=>Q .non H',rt:=Q } (start N vs) H):fS P w K mg base dP (k+1) f fd ps sp:=by
 obtain⟨oc,od,kV,doc,pm,an,bG,ct,osl,rfl,lk,hcd⟩:=F.ex
 refine YK lk hcd S len fun A outer s H vs Q E hr hsp=>?_
 obtain⟨t,h,q⟩:=hbody bG A outer s H vs Q E hr hsp
 exact⟨t,h.jG,q⟩
theorem AW.binds {x qual:Str}{st:Stmt}{f:Addr}{fd:gu}{ps:List Str}(F:AW K x qual st f fd)
 (h:∀(kV doc pm:ae)(an:Option Addr)(bG ct:ae)(us:List ae),us.length=ps.length->Uq (g9 x qual (mD st) (fH st) (aH st) .none kV doc pm an bG ct) ⟨us,[]⟩=pure (ps.zip us)):Binds K fd ps []:=by
 obtain⟨oc,od,kV,doc,pm,an,bG,ct,osl,rfl,lk,hcd⟩:=F.ex
 exact .all (h kV doc pm an bG ct)
theorem DX {x qual:Str}{st:Stmt}{f:Addr}{oc:ae}{od an:Option Addr}{osl:Array (Option ae)}{kV doc pm bG ct:ae}(l:K.lookup f=some ⟨oc,od,.func (g9 x qual (mD st) (fH st) (aH st) .none kV doc pm an bG ct),osl⟩)
 (c:ki K bG qual=true)(k:ff K (.ref f)=true):AW K x qual st f (g9 x qual (mD st) (fH st) (aH st) .none kV doc pm an bG ct):=⟨⟨oc,od,kV,doc,pm,an,bG,ct,osl,rfl,l,c⟩,k⟩
end
theorem TZ {n:Nat}(h:n<=1000):n<sizeLine:=rh h (by decide)
section
variable {X:Cx}
theorem pv (i:Nat){x:Str}{pos:Pos}(hN:X.N[i]? = some x:=by rfl)(hv:YW X.env.scope x:=by first|exact Or.inl rfl|exact Or.inr (Or.inl rfl)|exact Or.inr (Or.inr rfl))(hd:(x==("__debug__" : Str))=false:=by decide)
 (hcd:(x==("__classdict__" : Str))=false:=by decide):PE X (.Name x pos) (XX i):=S3 hN hv hd hcd
end
end L2
end
section
namespace L3
inductive D where
 |non|bl (b:Bool)|int (i:Int)|str (x:List Nat)|tup (ds:List D)|ref (a:Nat)|dE (ks vs:List D)|bO (ds:List D)|exc (c:Nat)
structure CK where
 c:Nat
 ln:Nat
 col:Nat
 q:List Nat
inductive MO where
 |lst (ds:List D)
 |dic (ks vs:List D)
 /-- an instance of the class of this name: aD attributes -/
 |ins (c:List Nat)(fs:List (List Nat×D))
 /-- a dict that is filled: aD keys are tuples of texts and of such tuples -/
 |tab (ks vs:List D)
 /-- a def that was made in a def: aD number, what it caught -/
 |fn (f:Nat)(cs:List D)
 /-- the table of a code -/
 |cod (κ:CK)
noncomputable abbrev aB:=Nat->Option MO
noncomputable def put (st:aB)(a:Nat)(o:MO):aB:=fun b=>if b=a then some o else st b
inductive vP where
 |add|sub|mul|fdiv|mod|pow
inductive sT where
 |eq|ne|lt|le|gt|ge|is_|isnot|in_|kX
inductive Ty where
 |int|str|bool|list|tuple|dict|err (c:Nat)
inductive BI where
 |len|all|any|max|min|sum|abs|list|tuple|int|str|bool|tQ|sorted
inductive MT where
 |append|extend|pop|index|count|join|split|get|insert|remove
inductive IK where
 |range|zip|enum|rev|items|keys|values
inductive Ex where
 |c (d:D)|v (i:Nat)
 |tup (es:List Ex)|lst (es:List Ex)
 |bin (op:vP)(a b:Ex)|neg (a:Ex)
 |cmp (op:sT)(a b:Ex)|chain (op op':sT)(a b c:Ex)
 |and_ (a b:Ex)|or_ (a b:Ex)|not_ (a:Ex)|ite (c a b:Ex)
 |call (f:Nat)(es:List Ex)|bi (f:BI)(es:List Ex)|isi (a:Ex)(ts:List Ty)
 |cT (m:MT)(o:Ex)(es:List Ex)
 |ix (a b:Ex)|sl (a:Ex)(lo hi:List Ex)
 /-- f(g(..)), g what is walked on the spot -/
 |bit (f:BI)(k:IK)(es:List Ex)
 |comp (n:Nat)(aJ:List Nat)(tg:List Nat)(one:Bool)(k:Option IK)(aD:List Ex)(ifs:List Ex)(elt:Ex)
 |dic (ks vs:List Ex)
 /-- o.f of an instance of the class c; C(..), f aD __init__; o.m(..), f the def -/
 |fld (c f:List Nat)(o:Ex)|mk (c:List Nat)(f:Nat)(es:List Ex)|mcl (c m:List Nat)(f:Nat)(o:Ex)(es:List Ex)
 /-- {}; k in d; d[k] -/
 |cv (i:Nat)(es:List Ex)|callL (f:Nat)(es:List Ex)(g:Nat)(aJ:List Nat)(κ:CK)
 |dnew|d1 (k v:Ex)|din (neg:Bool)(k d:Ex)|dix (d k:Ex)
inductive Tg where
 |nm (i:Nat)|tp (is:List Nat)|ix (o i:Ex)|fl (c f:List Nat)(o:Ex)|dk (o i:Ex)
inductive Sx where
 |ex (e:Ex)|asg (t:Tg)(e:Ex)|aug (i:Nat)(op:vP)(e:Ex)
 |iff (c:Ex)(a b:List Sx)|whl (c:Ex)(b:List Sx)|mB (t:Tg)(k:Option IK)(aD:List Ex)(b:List Sx)
 |ret (e:Ex)|brk|cnt|pass|rais (c:Nat)(es:List Ex)
 |tryy (b:List Sx)(c:Nat)(n:Option Nat)(h:List Sx)
structure Fn where
 np:Nat
 nl:Nat
 body:List Sx
structure Prog where
 fns:Nat->Option Fn
 /-- class c is class c' or stands under it -/
 sub:Nat->Nat->Bool
noncomputable abbrev St:=List (Option D)
abbrev VK:=D->aB->Prop
abbrev XK:=Nat->aB->Prop
abbrev bE:=Nat->List D->aB->VK->XK->Prop
noncomputable abbrev bH:Nat:=16777216
noncomputable abbrev jY:Nat:=80
def W (x:String):List Nat:=x.toList.map Char.toNat
def Ext (st aA:aB):Prop:=∀ a o,st a=some o->aA a=some o
def eF (σ:St)(i:Nat)(Q:D->Prop):Prop:=match σ[i]? with
 |some (some d)=>Q d
 |_=>False
def rT (σ:St):List Nat->(List D->Prop)->Prop
 |[],Q=>Q []
 |i::is,Q=>eF σ i fun d=>rT σ is fun ds=>Q (d::ds)
def AN:D->aB->(Nat->Nat->List D->Prop)->Prop
 |.ref a,st,K=>match st a with
  |some (.fn f cs)=>K a f cs
  |_=>False
 |_,_,_=>False
noncomputable def del (st:aB)(a:Nat):aB:=fun b=>if b=a then none else st b
mutual
noncomputable def bM:D->D->Bool
 |.non,.non=>true
 |.bl a,.bl b=>a==b
 |.bl a,.int b=>(if a then 1 else 0)==b
 |.int a,.bl b=>a==(if b then 1 else 0)
 |.int a,.int b=>a==b
 |.str a,.str b=>a==b
 |.tup as,.tup bs=>gB as bs
 |_,_=>false
noncomputable def gB:List D->List D->Bool
 |[],[]=>true
 |a::as,b::bs=>bM a b&&gB as bs
 |_,_=>false
end
mutual
noncomputable def bK:D->Bool
 |.non=>true
 |.bl _=>true
 |.int _=>true
 |.str _=>true
 |.tup ds=>bY ds
 |_=>false
noncomputable def bY:List D->Bool
 |[]=>true
 |d::ds=>bK d&&bY ds
end
mutual
noncomputable def cS:D->Nat
 |.tup ds=>cW ds+1
 |_=>0
noncomputable def cW:List D->Nat
 |[]=>0
 |d::ds=>max (cS d) (cW ds)
end
def plain (d:D):Prop:=bK d=true/\cS d<=jY
def wH (ds:List D):Prop:=bY ds=true/\cW ds<=jY
noncomputable def YI:Option MO->Bool
 |some (.lst ds)=>bY ds&&decide (cW ds<=jY)
 |_=>false
mutual
noncomputable def hJ (st:aB):D->Bool
 |.non=>true
 |.bl _=>true
 |.int _=>true
 |.str _=>true
 |.tup ds=>iR st ds
 |.ref a=>YI (st a)
 |.bO ds=>bY ds&&decide (cW ds<=jY)
 |_=>false
noncomputable def iR (st:aB):List D->Bool
 |[]=>true
 |d::ds=>hJ st d&&iR st ds
end
noncomputable def DT:Option MO->Option MO->Bool
 |some (.lst xs),some (.lst ys)=>gB xs ys
 |_,_=>false
mutual
noncomputable def bV (st:aB):D->D->Bool
 |.non,.non=>true
 |.bl a,.bl b=>a==b
 |.bl a,.int b=>(if a then 1 else 0)==b
 |.int a,.bl b=>a==(if b then 1 else 0)
 |.int a,.int b=>a==b
 |.str a,.str b=>a==b
 |.tup as,.tup bs=>kQ st as bs
 |.ref a,.ref b=>DT (st a) (st b)
 |.bO xs,.ref b=>DT (some (.lst xs)) (st b)
 |.ref a,.bO ys=>DT (st a) (some (.lst ys))
 |.bO xs,.bO ys=>gB xs ys
 |_,_=>false
noncomputable def kQ (st:aB):List D->List D->Bool
 |[],[]=>true
 |a::as,b::bs=>bV st a b&&kQ st as bs
 |_,_=>false
end
def plainS (st:aB)(d:D):Prop:=hJ st d=true/\cS d<=jY
def dR (st:aB)(ds:List D):Prop:=iR st ds=true/\cW ds<=jY
def Y1 (x y:D)(st:aB)(P:Bool->Prop):Prop:=plainS st x/\plainS st y/\P (bV st x y)
noncomputable def occurs (x:List Nat):List Nat->Bool
 |[]=>x.isEmpty
 |c::r=>x.isPrefixOf (c::r)||occurs x r
def cR (st:aB)(a:Nat)(K:List D->Prop):Prop:=match st a with
 |some (.lst ds)=>K ds
 |_=>False
def dG {α:Type}(o:Option α)(K:α->Prop):Prop:=match o with
 |some x=>K x
 |none=>False
def dX (st:aB)(a:Nat)(K:List D->Prop)(M:List D->List D->Prop):Prop:=match st a with
 |some (.lst ds)=>K ds
 |some (.dic ks vs)=>M ks vs
 |_=>False
def MY:D->D->aB->(Bool->Prop)->Prop
 |x,.tup ds,st,P=>plainS st x/\dR st ds/\P (ds.any fun d=>bV st d x)
 |x,.ref a,st,P=>dX st a (fun ds=>plainS st x/\dR st ds/\P (ds.any fun d=>bV st d x)) fun ks _=>plain x/\wH ks/\P (ks.any fun d=>bM d x)
 |.str w,.dE ks _,_,P=>P (ks.any fun d=>bM d (.str w))
 |x,.bO ds,st,P=>plainS st x/\dR st ds/\P (ds.any fun d=>bV st d x)
 |.str w,.str z,_,P=>P (occurs w z)
 |_,_,_,_=>False
def xW (f:Int->Int->Bool):D->D->(Bool->Prop)->Prop
 |.int i,.int j,P=>P (f i j)
 |_,_,_=>False
noncomputable def J0:D->Bool
 |.non=>true
 |_=>false
noncomputable def WB (b:Bool):D->Bool
 |.bl c=>c==b
 |_=>false
def D1:D->D->(Bool->Prop)->Prop
 |x,.non,P=>P (J0 x)
 |x,.bl b,P=>P (WB b x)
 |_,_,_=>False
def dJ:sT->D->D->aB->(Bool->Prop)->Prop
 |.eq,x,y,st,P=>Y1 x y st P
 |.ne,x,y,st,P=>Y1 x y st fun b=>P (!b)
 |.lt,x,y,_,P=>xW (fun i j=>decide (i<j)) x y P
 |.le,x,y,_,P=>xW (fun i j=>decide (i<=j)) x y P
 |.gt,x,y,_,P=>xW (fun i j=>decide (j<i)) x y P
 |.ge,x,y,_,P=>xW (fun i j=>decide (j<=i)) x y P
 |.is_,x,y,_,P=>D1 x y P
 |.isnot,x,y,_,P=>D1 x y fun b=>P (!b)
 |.in_,x,y,st,P=>MY x y st P
 |.kX,x,y,st,P=>MY x y st fun b=>P (!b)
def qN (i:Int):Prop:=-18446744073709551616<i/\i<18446744073709551616
def iP (ds:List D)(st:aB)(Q:VK):Prop:=ds.length<=bH/\∀ p,st p=none->Q (.ref p) (put st p (.lst ds))
def iM:vP->D->D->aB->VK->Prop
 |.add,.int i,.int j,st,Q=>Q (.int (i+j)) st
 |.add,.str a,.str b,st,Q=>a.length+b.length<=bH/\Q (.str (a++b)) st
 |.add,.tup a,.tup b,st,Q=>a.length+b.length<=bH/\Q (.tup (a++b)) st
 |.add,.ref a,.ref b,st,Q=>cR st a fun xs=>cR st b fun ys=>iP (xs++ys) st Q
 |.sub,.int i,.int j,st,Q=>Q (.int (i-j)) st
 |.mul,.int i,.int j,st,Q=>(qN i∨qN j)/\Q (.int (i*j)) st
 |.mul,.ref a,.int k,st,Q=>cR st a fun xs=>xs.length*k.toNat<=bH/\(-9223372036854775808<=k/\k<9223372036854775808)/\iP (ak k.toNat xs).flatten st Q
 |.mul,.tup xs,.int k,st,Q=>(0<xs.length/\xs.length<=1000/\1<=k/\k<1000)/\Q (.tup (ak k.toNat xs).flatten) st
 |.fdiv,.int i,.int j,st,Q=>(0<j/\j<1073741824)/\Q (.int (i / j)) st
 |.mod,.int i,.int j,st,Q=>0<j/\Q (.int (i % j)) st
 |.pow,.int i,.int j,st,Q=>(0<=j/\j<=1000000/\i.natAbs<18446744073709551616)/\Q (.int (i ^ j.toNat)) st
 |_,_,_,_,_=>False
def FV:D->aB->VK->Prop
 |.int i,st,Q=>Q (.int (-i)) st
 |_,_,_=>False
noncomputable def bN:List (List Nat×D)->List Nat->Option D
 |[],_=>none
 |(g,d)::r,f=>if g=f then some d else bN r f
noncomputable def tB (f:List Nat)(d:D):List (List Nat×D)->List (List Nat×D)
 |[]=>[(f,d)]
 |(g,x)::r=>if g=f then(g,d)::r else(g,x)::tB f d r
def oR (st:aB)(a:Nat)(K:List Nat->List (List Nat×D)->Prop):Prop:=match st a with
 |some (.ins c fs)=>K c fs
 |_=>False
def tabAt (st:aB)(a:Nat)(K:List D->List D->Prop):Prop:=match st a with
 |some (.tab ks vs)=>K ks vs
 |_=>False
def qZ (c f:List Nat):D->aB->VK->Prop
 |.ref a,st,Q=>oR st a fun c' fs=>c'=c/\dG (bN fs f) fun d=>Q d st
 |_,_,_=>False
def E3 (c f:List Nat)(v:D):D->aB->(aB->Prop)->Prop
 |.ref a,st,Q=>oR st a fun c' fs=>c'=c/\fs.length<900/\Q (put st a (.ins c (tB f v fs)))
 |_,_,_=>False
mutual
noncomputable def jI:D->Bool
 |.str _=>true
 |.bl _=>true
 |.tup ds=>jR ds
 |_=>false
noncomputable def jR:List D->Bool
 |[]=>true
 |d::ds=>jI d&&jR ds
end
def keyed:D->Prop
 |.tup ds=>jR ds=true/\cW ds<=7
 |_=>False
noncomputable def lL:List D->List D->D->Option D
 |k::ks,v::vs,x=>if bM k x then some v else lL ks vs x
 |_,_,_=>none
def xG (x:D):D->aB->(Bool->Prop)->Prop
 |.ref a,st,P=>tabAt st a fun ks _=>keyed x/\P (ks.any fun k=>bM k x)
 |_,_,_=>False
def tE (x:D):D->aB->VK->Prop
 |.ref a,st,Q=>tabAt st a fun ks vs=>keyed x/\dG (lL ks vs x) fun d=>Q d st
 |_,_,_=>False
def zQ (x v:D):D->aB->(aB->Prop)->Prop
 |.ref a,st,Q=>tabAt st a fun ks vs=>keyed x/\(ks.any fun k=>bM k x)=false/\ks.length<10000/\Q (put st a (.tab (ks++[x]) (vs++[v])))
 |_,_,_=>False
def GZ (c m:List Nat):D->aB->Prop
 |.ref a,st=>oR st a fun c' fs=>c'=c/\bN fs m=none
 |_,_=>False
def eS:D->aB->(Bool->Prop)->Prop
 |.non,_,P=>P false
 |.bl b,_,P=>P b
 |.int i,_,P=>P (i != 0)
 |.str x,_,P=>x.length<=bH/\P (!x.isEmpty)
 |.tup ds,_,P=>P (!ds.isEmpty)
 |.ref a,st,P=>dX st a (fun ds=>P (!ds.isEmpty)) fun ks _=>P (!ks.isEmpty)
 |.bO ds,_,P=>P (!ds.isEmpty)
 |_,_,_=>False
def iY (sub:Nat->Nat->Bool):D->aB->Ty->(Bool->Prop)->Prop
 |.non,_,_,P=>P false
 |.bl _,_,.bool,P=>P true
 |.bl _,_,.int,P=>P true
 |.bl _,_,_,P=>P false
 |.int _,_,.int,P=>P true
 |.int _,_,_,P=>P false
 |.str _,_,.str,P=>P true
 |.str _,_,_,P=>P false
 |.tup _,_,.tuple,P=>P true
 |.tup _,_,_,P=>P false
 |.ref a,st,.list,P=>dX st a (fun _=>P true) fun _ _=>P false
 |.ref a,st,.dict,P=>dX st a (fun _=>P false) fun _ _=>P true
 |.ref a,st,_,P=>dX st a (fun _=>P false) fun _ _=>P false
 |.bO _,_,.list,P=>P true
 |.bO _,_,_,P=>P false
 |.exc c,_,.err c',P=>P (sub c c')
 |_,_,_,_=>False
def xC (sub:Nat->Nat->Bool)(d:D)(st:aB):List Ty->(Bool->Prop)->Prop
 |[],_=>False
 |[t],P=>iY sub d st t P
 |t::u::ts,P=>iY sub d st t fun b=>if b=true then P true else xC sub d st (u::ts) P
noncomputable def pD (n:Nat)(i:Int):Option Nat:=if 0<=i then(if i<n then some i.toNat else none)else if -(n:Int)<=i then some (i+n).toNat else none
noncomputable def gQ {α:Type}(xs:List α)(i:Int):Option α:=(pD xs.length i).bind fun j=>xs[j]?
noncomputable def wW:List D->List D->D->Option D
 |k::ks,v::vs,x=>if bM k x then some v else wW ks vs x
 |_,_,_=>none
def nU:D->D->aB->VK->Prop
 |.tup ds,.int i,st,Q=>dG (gQ ds i) fun d=>Q d st
 |.bO ds,.int i,st,Q=>dG (gQ ds i) fun d=>Q d st
 |.str z,.int i,st,Q=>z.length<=bH/\dG (gQ z i) fun c=>Q (.str [c]) st
 |.dE ks vs,.str w,st,Q=>dG (wW ks vs (.str w)) fun d=>Q d st
 |.ref a,y,st,Q=>dX st a (fun ds=>match y with
  |.int i=>dG (gQ ds i) fun d=>Q d st
  |_=>False) fun ks vs=>plain y/\wH ks/\dG (wW ks vs y) fun d=>Q d st
 |_,_,_,_=>False
noncomputable def cJ (n d:Nat):Option Int->Nat
 |none=>d
 |some v=>if v<0 then(v+(n:Int)).toNat else min v.toNat n
noncomputable def cut {α:Type}(xs:List α)(lo hi:Option Int):List α:=(xs.drop (cJ xs.length 0 lo)).take (cJ xs.length xs.length hi-cJ xs.length 0 lo)
def pS:List D->(Option Int->Prop)->Prop
 |[],P=>P none
 |[.int i],P=>P (some i)
 |_,_=>False
def EW:D->Option Int->Option Int->aB->VK->Prop
 |.tup ds,lo,hi,st,Q=>Q (.tup (cut ds lo hi)) st
 |.ref a,lo,hi,st,Q=>cR st a fun ds=>∀ p,st p=none->Q (.ref p) (put st p (.lst (cut ds lo hi)))
 |_,_,_,_,_=>False
def dY:D->aB->(List Nat->List D->Prop)->Prop
 |.tup ds,_,K=>K [] ds
 |.ref a,st,K=>cR st a fun ds=>K [a] ds
 |.bO ds,_,K=>K [] ds
 |_,_,_=>False
def pZ:D->aB->(List Nat->List D->Prop)->Prop
 |.tup ds,_,K=>K [] ds
 |.str x,_,K=>x.length<=bH/\K [] (x.map fun c=>.str [c])
 |.ref a,st,K=>cR st a fun ds=>K [a] ds
 |.bO ds,_,K=>K [] ds
 |_,_,_=>False
noncomputable def zip2:List D->List D->List D
 |x::xs,y::ys=>.tup [x,y]::zip2 xs ys
 |_,_=>[]
noncomputable def Y6:Nat->List D->List D
 |_,[]=>[]
 |i,x::xs=>.tup [.int i,x]::Y6 (i+1) xs
noncomputable def iZ (lo:Int)(n:Nat):List D:=(bb n).map fun k=>.int (lo+(k:Nat))
noncomputable def Ce (hi:Int)(n:Nat):List D:=(bb n).map fun k=>.int (hi-(k:Nat))
def iF (i:Int):Prop:=-4611686018427387904<=i/\i<4611686018427387904
def jS:Option IK->List D->aB->(List Nat->List D->Prop)->Prop
 |none,[x],st,P=>pZ x st P
 |some .range,[.int j],_,P=>iF j/\P [] (iZ 0 j.toNat)
 |some .range,[.int i,.int j],_,P=>iF i/\iF j/\P [] (iZ i (j-i).toNat)
 |some .range,[.int i,.int j,.int c],_,P=>c = -1/\iF i/\iF j/\P [] (Ce i (i-j).toNat)
 |some .zip,[.ref a,.ref b],st,P=>cR st a fun xs=>cR st b fun ys=>P [a,b] (zip2 xs ys)
 |some .enum,[.ref a],st,P=>cR st a fun xs=>P [a] (Y6 0 xs)
 |some .rev,[x],st,P=>dY x st fun as xs=>P as xs.reverse
 |_,_,_,_=>False
noncomputable def boolsOf:List D->Option (List Bool)
 |[]=>some []
 |.bl b::r=>(boolsOf r).map (b :: ·)
 |_=>none
noncomputable def intsOf:List D->Option (List Int)
 |[]=>some []
 |.int i::r=>(intsOf r).map (i :: ·)
 |_=>none
def rD:D->aB->(Nat->Prop)->Prop
 |.tup ds,_,P=>P ds.length
 |.str x,_,P=>x.length<=bH/\P x.length
 |.ref a,st,P=>dX st a (fun ds=>P ds.length) fun ks _=>P ks.length
 |.bO ds,_,P=>P ds.length
 |_,_,_=>False
noncomputable def Gh:Int->List Int->Int
 |m,[]=>m
 |m,i::r=>Gh (if i>m then i else m) r
noncomputable def Jb:Int->List Int->Int
 |m,[]=>m
 |m,i::r=>Jb (if i<m then i else m) r
def fL:BI->List D->aB->VK->Prop
 |.all,xs,st,Q=>dG (boolsOf xs) fun bs=>Q (.bl (bs.all id)) st
 |.any,xs,st,Q=>dG (boolsOf xs) fun bs=>Q (.bl (bs.any id)) st
 |.max,xs,st,Q=>dG (intsOf xs) fun is=>match is with
  |i::r=>Q (.int (Gh i r)) st
  |[]=>False
 |.min,xs,st,Q=>dG (intsOf xs) fun is=>match is with
  |i::r=>Q (.int (Jb i r)) st
  |[]=>False
 |.sum,xs,st,Q=>dG (intsOf xs) fun is=>Q (.int is.sum) st
 |.list,xs,st,Q=>iP xs st Q
 |.tuple,xs,st,Q=>xs.length<=bH/\Q (.tup xs) st
 |_,_,_,_=>False
noncomputable def strsOf:List D->Option (List (List Nat))
 |[]=>some []
 |.str w::r=>(strsOf r).map (w :: ·)
 |_=>none
noncomputable def AV:List (List Nat)->List (List Nat)->Nat
 |_,[]=>0
 |seen,w::r=>(if seen.any (·== w)then 0 else 1)+AV (seen++[w]) r
def iA:BI->List D->aB->VK->Prop
 |.len,[d],st,Q=>rD d st fun n=>Q (.int (n:Nat)) st
 |.tQ,[.tup ds],st,Q=>dG (strsOf ds) fun ws=>ws.length<4000/\Q (.int (AV [] ws:Nat)) st
 |.max,[.int i,.int j],st,Q=>Q (.int (if j>i then j else i)) st
 |.min,[.int i,.int j],st,Q=>Q (.int (if j<i then j else i)) st
 |.abs,[.int i],st,Q=>Q (.int (if i<0 then -i else i)) st
 |.int,[.int i],st,Q=>Q (.int i) st
 |.int,[.bl b],st,Q=>Q (.int (if b then 1 else 0)) st
 |.bool,[.int i],st,Q=>Q (.bl (i != 0)) st
 |.bool,[.bl b],st,Q=>Q (.bl b) st
 |f,[d],st,Q=>dY d st fun _ xs=>fL f xs st Q
 |_,_,_,_=>False
def zH:D->aB->(List D->Prop)->Prop
 |.tup ds,_,K=>K ds
 |.ref a,st,K=>cR st a K
 |_,_,_=>False
noncomputable def findD (st:aB)(d:D):List D->Option Nat
 |[]=>none
 |e::r=>if bV st e d=true then some 0 else(findD st d r).map (·+ 1)
def kP:MT->D->List D->aB->VK->Prop
 |.append,.ref a,[d],st,Q=>cR st a fun xs=>xs.length<bH/\Q .non (put st a (.lst (xs++[d])))
 |.extend,.ref a,[d],st,Q=>cR st a fun xs=>zH d st fun ys=>xs.length+ys.length<=bH/\Q .non (put st a (.lst (xs++ys)))
 |.pop,.ref a,[],st,Q=>cR st a fun xs=>dG (xs[xs.length-1]?) fun d=>Q d (put st a (.lst xs.dropLast))
 |.index,x,[d],st,Q=>dY x st fun _ ds=>plainS st d/\dR st ds/\dG (findD st d ds) fun i=>Q (.int (i:Nat)) st
 |_,_,_,_,_=>False
def A0:MT->D->aB->Prop
 |.append,.ref a,st=>cR st a fun _=>True
 |.extend,.ref a,st=>cR st a fun _=>True
 |.pop,.ref a,st=>cR st a fun _=>True
 |.index,x,st=>dY x st fun _ _=>True
 |_,_,_=>False
def lK:Bool->List Nat->D->St->(St->Prop)->Prop
 |true,[i],x,σ,P=>P (σ.set i (some x))
 |false,is,.tup ds,σ,P=>ds.length=is.length/\P ((is.zip ds).foldl (fun σ p=>σ.set p.1 (some p.2)) σ)
 |_,_,_,_,_=>False
def kG (g:aB->Prop)(turn:D->aB->(Option D->aB->Prop)->Prop):List D->List D->aB->(List D->aB->Prop)->Prop
 |[],acc,st,R=>g st/\R acc st
 |x::xs,acc,st,R=>g st/\acc.length<bH/\turn x st fun o aA=>kG g turn xs (match o with|none=>acc|some d=>acc++[d]) aA R
def same (as:List Nat)(st aA:aB):Prop:=∀ a∈as,aA a=st a
mutual
def aG (C:bE)(sub:Nat->Nat->Bool)(E:XK):Ex->St->aB->VK->Prop
 |.c d,_,st,Q=>Q d st
 |.v i,σ,st,Q=>eF σ i fun d=>Q d st
 |.tup es,σ,st,Q=>bQ C sub E es σ st fun ds aA=>Q (.tup ds) aA
 |.lst es,σ,st,Q=>bQ C sub E es σ st fun ds aA=>iP ds aA Q
 |.bin op a b,σ,st,Q=>aG C sub E a σ st fun x aC=>aG C sub E b σ aC fun y aF=>iM op x y aF Q
 |.neg a,σ,st,Q=>aG C sub E a σ st fun x aC=>FV x aC Q
 |.cmp op a b,σ,st,Q=>aG C sub E a σ st fun x aC=>aG C sub E b σ aC fun y aF=>dJ op x y aF fun k=>Q (.bl k) aF
 |.chain op op' a b c,σ,st,Q=>aG C sub E a σ st fun x aC=>aG C sub E b σ aC fun y aF=>dJ op x y aF fun k =>
  if k=true then aG C sub E c σ aF fun z aX=>dJ op' y z aX fun k=>Q (.bl k) aX else Q (.bl false) aF
 |.and_ a b,σ,st,Q=>aG C sub E a σ st fun x aC=>eS x aC fun k=>if k=true then aG C sub E b σ aC Q else Q x aC
 |.or_ a b,σ,st,Q=>aG C sub E a σ st fun x aC=>eS x aC fun k=>if k=true then Q x aC else aG C sub E b σ aC Q
 |.not_ a,σ,st,Q=>aG C sub E a σ st fun x aC=>eS x aC fun k=>Q (.bl (!k)) aC
 |.ite c a b,σ,st,Q=>aG C sub E c σ st fun x aC=>eS x aC fun k=>if k=true then aG C sub E a σ aC Q else aG C sub E b σ aC Q
 |.call f es,σ,st,Q=>bQ C sub E es σ st fun ds aA=>C f ds aA Q E
 |.bi f es,σ,st,Q=>bQ C sub E es σ st fun ds aA=>iA f ds aA Q
 |.isi a ts,σ,st,Q=>aG C sub E a σ st fun x aC=>xC sub x aC ts fun k=>Q (.bl k) aC
 |.cT m o es,σ,st,Q=>aG C sub E o σ st fun x aC=>A0 m x aC/\bQ C sub E es σ aC fun ds aF=>kP m x ds aF Q
 |.ix a b,σ,st,Q=>aG C sub E a σ st fun x aC=>aG C sub E b σ aC fun y aF=>nU x y aF Q
 |.sl a lo hi,σ,st,Q=>aG C sub E a σ st fun x aC=>bQ C sub E lo σ aC fun ls aF=>pS ls fun l=>bQ C sub E hi σ aF fun hs aX=>pS hs fun h=>EW x l h aX Q
 |.bit f k es,σ,st,Q=>bQ C sub E es σ st fun ds aC=>jS (some k) ds aC fun _ xs=>fL f xs aC Q
 |.comp n aJ tg one k aD ifs elt,σ,st,Q=>bQ C sub E aD σ st fun ds aC=>jS k ds aC fun as xs =>
  kG (same as aC) (fun x aF K=>lK one tg x (ak n none++aJ.map fun i=>(σ[i]?).getD none) fun σ' =>
  iW C sub E ifs σ' aF fun b aX=>if b=true then aG C sub E elt σ' aX fun d cN=>K (some d) cN else K none aX) xs [] aC fun ds dF=>iP ds dF Q
 |.dic _ _,_,_,_=>False
 |.fld c f o,σ,st,Q=>aG C sub E o σ st fun x aC=>qZ c f x aC Q
 |.mk c f es,σ,st,Q=>bQ C sub E es σ st fun ds aC=>∀ p,aC p=none->C f (.ref p::ds) (put aC p (.ins c [])) (fun d aF=>d=.non/\Q (.ref p) aF) E
 |.mcl c m f o es,σ,st,Q=>aG C sub E o σ st fun x aC=>GZ c m x aC/\bQ C sub E es σ aC fun ds aF=>C f (x::ds) aF Q E
 |.cv i es,σ,st,Q=>eF σ i fun d=>AN d st (fun _ _ _=>True)/\bQ C sub E es σ st fun ds aA=>AN d aA fun a f cs=>C f (cs++ds) (del aA a) (fun d2 aF=>Q d2 (put aF a (.fn f cs))) (fun c aF=>E c (put aF a (.fn f cs)))
 |.callL f es g aJ κ,σ,st,Q=>bQ C sub E es σ st fun ds aC=>(∃ P,aC P=some (.cod κ))/\rT σ aJ fun cs=>∀ a,aC a=none->C f (ds++[.ref a]) (put aC a (.fn g cs)) (fun d aF=>Q d (del aF a)) (fun c aF=>E c (del aF a))
 |.dnew,σ,st,Q=>∀ p,st p=none->Q (.ref p) (put st p (.tab [] []))
 |.d1 k v,σ,st,Q=>∀ p,st p=none->aG C sub E k σ (put st p (.tab [] [])) fun x aC=>aG C sub E v σ aC fun y aF=>zQ x y (.ref p) aF fun aX=>Q (.ref p) aX
 |.din neg k d,σ,st,Q=>aG C sub E k σ st fun x aC=>aG C sub E d σ aC fun y aF=>xG x y aF fun b=>Q (.bl (if neg=true then !b else b)) aF
 |.dix d k,σ,st,Q=>aG C sub E d σ st fun y aC=>aG C sub E k σ aC fun x aF=>tE x y aF Q
def bQ (C:bE)(sub:Nat->Nat->Bool)(E:XK):List Ex->St->aB->(List D->aB->Prop)->Prop
 |[],_,st,Q=>Q [] st
 |e::es,σ,st,Q=>aG C sub E e σ st fun d aA=>bQ C sub E es σ aA fun ds aZ=>Q (d::ds) aZ
/-- all tests, one after another -/
def iW (C:bE)(sub:Nat->Nat->Bool)(E:XK):List Ex->St->aB->(Bool->aB->Prop)->Prop
 |[],_,st,Q=>Q true st
 |e::es,σ,st,Q=>aG C sub E e σ st fun d aA=>eS d aA fun k=>if k=true then iW C sub E es σ aA Q else Q false aA
end
structure gZ where
 nx:St->aB->Prop
 rt:D->aB->Prop
 bk:St->aB->Prop
 ct:St->aB->Prop
 ex:Nat->St->aB->Prop
def notRef:D->Prop
 |.ref _=>False
 |_=>True
def C9:D->D->D->aB->(aB->Prop)->Prop
 |.ref a,.int k,v,st,Q=>cR st a fun xs=>dG (pD xs.length k) fun j=>Q (put st a (.lst (xs.set j v)))
 |_,_,_,_,_=>False
def nZ (C:bE)(sub:Nat->Nat->Bool)(E:XK):Tg->D->St->aB->(St->aB->Prop)->Prop
 |.nm i,d,σ,st,Q=>Q (σ.set i (some d)) st
 |.tp is,d,σ,st,Q=>lK false is d σ fun σ'=>Q σ' st
 |.ix o i,d,σ,st,Q=>aG C sub E o σ st fun x aC=>aG C sub E i σ aC fun y aF=>C9 x y d aF fun aX=>Q σ aX
 |.fl c f o,d,σ,st,Q=>aG C sub E o σ st fun x aC=>E3 c f d x aC fun aF=>Q σ aF
 |.dk o i,d,σ,st,Q=>aG C sub E o σ st fun x aC=>aG C sub E i σ aC fun y aF=>zQ y d x aF fun aX=>Q σ aX
def zO (g:aB->Prop)(turn:D->(St->aB->Prop)->St->aB->Prop)(N:St->aB->Prop):List D->St->aB->Prop
 |[],σ,st=>g st/\N σ st
 |x::xs,σ,st=>g st/\turn x (zO g turn N xs) σ st
def qC (turn:(St->aB->Prop)->St->aB->Prop):Nat->St->aB->Prop
 |0,_,_=>False
 |n+1,σ,st=>turn (qC turn n) σ st
noncomputable def GI (n:Option Nat)(o:Option D)(σ:St):St:=match n with
 |some i=>σ.set i o
 |none=>σ
noncomputable def Ri (sub:Nat->Nat->Bool)(c:Nat)(n:Option Nat)(P:gZ)(h:gZ->St->aB->Prop):gZ :=
 ⟨P.nx,P.rt,P.bk,P.ct,fun c' σ' aA=>if sub c' c=true then
 h ⟨fun σ2 aF=>P.nx (GI n none σ2) aF,P.rt,fun _ _=>False,fun _ _=>False,fun _ _ _=>False⟩ (GI n (some (.exc c')) σ') aA else P.ex c' σ' aA⟩
noncomputable def MW:bE:=fun _ _ _ _ _=>False
mutual
def wpS (C:bE)(sub:Nat->Nat->Bool):Sx->gZ->St->aB->Prop
 |.ex e,P,σ,st=>aG C sub (fun c aA=>P.ex c σ aA) e σ st fun _ aA=>P.nx σ aA
 |.asg t e,P,σ,st=>aG C sub (fun c aA=>P.ex c σ aA) e σ st fun d aA=>nZ C sub (fun c aA=>P.ex c σ aA) t d σ aA P.nx
 |.aug i op e,P,σ,st=>eF σ i fun x=>aG C sub (fun c aA=>P.ex c σ aA) e σ st fun y aA=>notRef x/\iM op x y aA fun d aZ=>P.nx (σ.set i (some d)) aZ
 |.iff c a b,P,σ,st=>aG C sub (fun c aA=>P.ex c σ aA) c σ st fun d aA=>eS d aA fun k=>if k=true then cY C sub a P σ aA else cY C sub b P σ aA
 |.whl c b,P,σ,st=>∃ n,qC (fun next σ st=>aG C sub (fun c aA=>P.ex c σ aA) c σ st fun d aA=>eS d aA fun k =>
  if k=true then cY C sub b { P with nx:=next,ct:=next,bk:=P.nx } σ aA else P.nx σ aA) n σ st
 |.mB t k aD b,P,σ,st=>bQ C sub (fun c aA=>P.ex c σ aA) aD σ st fun ds aC=>jS k ds aC fun as xs=>zO (same as aC) (fun x next σ st=>nZ C sub (fun c aA=>P.ex c σ aA) t x σ st fun σ' aA=>cY C sub b { P with nx:=next,ct:=next,bk:=P.nx } σ' aA) P.nx xs σ aC
 |.ret e,P,σ,st=>aG C sub (fun c aA=>P.ex c σ aA) e σ st P.rt
 |.brk,P,σ,st=>P.bk σ st
 |.cnt,P,σ,st=>P.ct σ st
 |.pass,P,σ,st=>P.nx σ st
 |.rais c es,P,σ,st=>bQ C sub (fun c aA=>P.ex c σ aA) es σ st fun _ aA=>P.ex c σ aA
 |.tryy b c n h,P,σ,st=>cY C sub b (Ri sub c n P fun P' σ' aA=>cY MW sub h P' σ' aA) σ st
def cY (C:bE)(sub:Nat->Nat->Bool):List Sx->gZ->St->aB->Prop
 |[],P,σ,st=>P.nx σ st
 |s::ss,P,σ,st=>wpS C sub s { P with nx:=cY C sub ss P } σ st
end
noncomputable def start (np nl:Nat)(ds:List D):St:=ds.map some++ak (nl-np) none
noncomputable def aI (G:Prog):Nat->bE
 |0=>fun _ _ _ _ _=>False
 |k+1=>fun f ds st Q E=>match G.fns f with
 |none=>False
 |some fn=>ds.length=fn.np/\cY (aI G k) G.sub fn.body ⟨fun _ aA=>Q .non aA,Q,fun _ _=>False,fun _ _=>False,fun c _ aA=>E c aA⟩ (start fn.np fn.nl ds) st
theorem tZ {σ:St}{i:Nat}{Q Q':D->Prop}(h:∀ d,Q d->Q' d):eF σ i Q->eF σ i Q':=by
 unfold eF;split
 ·exact h _
 ·exact id
theorem D7 {σ:St}:∀{is:List Nat}{Q Q':List D->Prop},(∀ d,Q d->Q' d)->rT σ is Q->rT σ is Q'
 |[],_,_,h=>h _
 |_::_,_,_,h=>tZ fun _=>D7 fun _=>h _
theorem WU {d:D}{st:aB}{K K':Nat->Nat->List D->Prop}(h:∀ a f cs,K a f cs->K' a f cs):AN d st K->AN d st K':=by
 cases d<;>first|exact id|skip
 unfold AN
 simp only
 split
 ·exact h _ _ _
 ·exact id
theorem oM {st:aB}{a:Nat}{K K':List D->Prop}{M M':List D->List D->Prop}(h:∀ ds,K ds->K' ds)(h':∀ ks vs,M ks vs->M' ks vs):dX st a K M->dX st a K' M':=by
 unfold dX;split
 ·exact h _
 ·exact h' _ _
 ·exact id
theorem dQ {st:aB}{a:Nat}{K K':List D->Prop}(h:∀ ds,K ds->K' ds):cR st a K->cR st a K':=by
 unfold cR;split
 ·exact h _
 ·exact id
theorem fG {α:Type}{o:Option α}{K K':α->Prop}(h:∀ x,K x->K' x):dG o K->dG o K':=by
 unfold dG;split
 ·exact h _
 ·exact id
theorem kB {d:D}{st:aB}{P P':Bool->Prop}(h:∀ b,P b->P' b):eS d st P->eS d st P':=by
 unfold eS;split
 all_goals first|exact h _|exact id|exact(fun x=>⟨x.1,h _ x.2⟩)|exact oM (fun _=>h _) fun _ _=>h _
theorem qI {ds:List D}{st:aB}{Q Q':VK}(h:∀ d st,Q d st->Q' d st):iP ds st Q->iP ds st Q':=fun x=>⟨x.1,fun p hp=>h _ _ (x.2 p hp)⟩
theorem IE {op:vP}{x y:D}{st:aB}{Q Q':VK}(h:∀ d st,Q d st->Q' d st):iM op x y st Q->iM op x y st Q':=by
 unfold iM
 split
 all_goals first|exact h _ _|exact id|exact(fun z=>⟨z.1,h _ _ z.2⟩)|exact dQ (fun _=>dQ fun _=>qI h)|exact dQ (fun _ z=>⟨z.1,z.2.1,qI h z.2.2⟩)
theorem RX {x:D}{st:aB}{Q Q':VK}(h:∀ d st,Q d st->Q' d st):FV x st Q->FV x st Q':=by
 unfold FV;split
 ·exact h _ _
 ·exact id
theorem KH {x y:D}{st:aB}{P P':Bool->Prop}(h:∀ b,P b->P' b):Y1 x y st P->Y1 x y st P':=fun z=>⟨z.1,z.2.1,h _ z.2.2⟩
theorem MV {x y:D}{st:aB}{P P':Bool->Prop}(h:∀ b,P b->P' b):MY x y st P->MY x y st P':=by
 unfold MY
 split
 all_goals first|exact(fun z=>⟨z.1,z.2.1,h _ z.2.2⟩)|exact h _|exact id|exact oM (fun _ z=>⟨z.1,z.2.1,h _ z.2.2⟩) fun _ _ z=>⟨z.1,z.2.1,h _ z.2.2⟩
theorem uD {f:Int->Int->Bool}{x y:D}{P P':Bool->Prop}(h:∀ b,P b->P' b):xW f x y P->xW f x y P':=by
 unfold xW;split
 ·exact h _
 ·exact id
theorem LC {x y:D}{P P':Bool->Prop}(h:∀ b,P b->P' b):D1 x y P->D1 x y P':=by
 unfold D1
 split
 all_goals first|exact h _|exact id
theorem zY {op:sT}{x y:D}{st:aB}{P P':Bool->Prop}(h:∀ b,P b->P' b):dJ op x y st P->dJ op x y st P':=by
 cases op
 ·exact KH h
 ·exact KH fun b=>h (!b)
 ·exact uD h
 ·exact uD h
 ·exact uD h
 ·exact uD h
 ·exact LC h
 ·exact LC fun b=>h (!b)
 ·exact MV h
 ·exact MV fun b=>h (!b)
theorem D3 {sub:Nat->Nat->Bool}{x:D}{st:aB}{t:Ty}{P P':Bool->Prop}(h:∀ b,P b->P' b):iY sub x st t P->iY sub x st t P':=by
 unfold iY
 split
 all_goals first|exact h _|exact id|exact oM (fun _=>h _) fun _ _=>h _
theorem JC {sub:Nat->Nat->Bool}{x:D}{st:aB}{P P':Bool->Prop}(h:∀ b,P b->P' b):∀{ts:List Ty},xC sub x st ts P->xC sub x st ts P'
 |[]=>id
 |[t]=>D3 h
 |t::u::ts=>by
  unfold xC
  refine D3 fun b=>?_
  split
  ·exact h _
  ·exact JC h
theorem XH {x y:D}{st:aB}{Q Q':VK}(h:∀ d st,Q d st->Q' d st):nU x y st Q->nU x y st Q':=by
 unfold nU
 split
 all_goals first|exact id|exact fG (fun _=>h _ _)|exact(fun z=>⟨z.1,fG (fun _=>h _ _) z.2⟩)|exact(fun z=>⟨z.1,z.2.1,fG (fun _=>h _ _) z.2.2⟩)|skip
 refine oM (fun _=>?_) (fun _ _ z=>⟨z.1,z.2.1,fG (fun _=>h _ _) z.2.2⟩)
 split
 ·exact fG fun _=>h _ _
 ·exact id
theorem DM {ds:List D}{P P':Option Int->Prop}(h:∀ o,P o->P' o):pS ds P->pS ds P':=by
 unfold pS;split
 all_goals first|exact h _|exact id
theorem WK {x:D}{lo hi:Option Int}{st:aB}{Q Q':VK}(h:∀ d st,Q d st->Q' d st):EW x lo hi st Q->EW x lo hi st Q':=by
 unfold EW
 split
 ·exact h _ _
 ·exact dQ fun _ z p hp=>h _ _ (z p hp)
 ·exact id
theorem QN {d:D}{st:aB}{K K':List Nat->List D->Prop}(h:∀ as xs,K as xs->K' as xs):pZ d st K->pZ d st K':=by
 unfold pZ
 split
 all_goals first|exact h _ _|exact id|exact(fun z=>⟨z.1,h _ _ z.2⟩)|exact dQ (fun _=>h _ _)
theorem zW {d:D}{st:aB}{K K':List Nat->List D->Prop}(h:∀ as xs,K as xs->K' as xs):dY d st K->dY d st K':=by
 unfold dY
 split
 all_goals first|exact h _ _|exact id|exact dQ (fun _=>h _ _)
theorem zP {k:Option IK}{ds:List D}{st:aB}{P P':List Nat->List D->Prop}(h:∀ as xs,P as xs->P' as xs):jS k ds st P->jS k ds st P':=by
 unfold jS
 split
 ·exact QN h
 ·exact fun z=>⟨z.1,h _ _ z.2⟩
 ·exact fun z=>⟨z.1,z.2.1,h _ _ z.2.2⟩
 ·exact fun z=>⟨z.1,z.2.1,z.2.2.1,h _ _ z.2.2.2⟩
 ·exact dQ fun _=>dQ fun _=>h _ _
 ·exact dQ fun _=>h _ _
 ·exact zW fun _ _=>h _ _
 ·exact id
theorem SM {d:D}{st:aB}{P P':Nat->Prop}(h:∀ n,P n->P' n):rD d st P->rD d st P':=by
 unfold rD
 split
 all_goals first|exact h _|exact id|exact(fun z=>⟨z.1,h _ z.2⟩)|exact oM (fun _=>h _) fun _ _=>h _
theorem B4 {f:BI}{xs:List D}{st:aB}{Q Q':VK}(h:∀ d st,Q d st->Q' d st):fL f xs st Q->fL f xs st Q':=by
 unfold fL
 split
 all_goals first|exact id|exact qI h|exact(fun z=>⟨z.1,h _ _ z.2⟩)|exact fG (fun _=>h _ _)|skip
 all_goals refine fG fun is=>?_
 all_goals cases is
 all_goals first|exact id|exact h _ _
theorem X3 {f:BI}{ds:List D}{st:aB}{Q Q':VK}(h:∀ d st,Q d st->Q' d st):iA f ds st Q->iA f ds st Q':=by
 unfold iA
 split
 all_goals first|exact id|exact h _ _|exact SM (fun _=>h _ _)|exact zW (fun _ _=>B4 h)|exact fG (fun _ z=>⟨z.1,h _ _ z.2⟩)
theorem RV {d:D}{st:aB}{K K':List D->Prop}(h:∀ xs,K xs->K' xs):zH d st K->zH d st K':=by
 unfold zH
 split
 all_goals first|exact h _|exact id|exact dQ h
theorem QZ {m:MT}{o:D}{ds:List D}{st:aB}{Q Q':VK}(h:∀ d st,Q d st->Q' d st):kP m o ds st Q->kP m o ds st Q':=by
 unfold kP
 split
 ·exact dQ fun _ z=>⟨z.1,h _ _ z.2⟩
 ·exact dQ fun _=>RV fun _ z=>⟨z.1,h _ _ z.2⟩
 ·exact dQ fun _=>fG fun _=>h _ _
 ·exact zW fun _ _ z=>⟨z.1,z.2.1,fG (fun _=>h _ _) z.2.2⟩
 ·exact id
theorem E4 {one:Bool}{tg:List Nat}{x:D}{σ:St}{P P':St->Prop}(h:∀ σ,P σ->P' σ):lK one tg x σ P->lK one tg x σ P':=by
 unfold lK
 split
 ·exact h _
 ·exact fun z=>⟨z.1,h _ z.2⟩
 ·exact id
theorem FA {g:aB->Prop}{turn uT:D->aB->(Option D->aB->Prop)->Prop}{R R':List D->aB->Prop}
 (ht:∀ x st K K',(∀ o st,K o st->K' o st)->turn x st K->uT x st K')(h:∀ ds st,R ds st->R' ds st):∀{xs acc:List D}{st:aB},kG g turn xs acc st R->kG g uT xs acc st R'
 |[],_,_,z=>⟨z.1,h _ _ z.2⟩
 |_::_,_,_,z=>⟨z.1,z.2.1,ht _ _ _ _ (fun _ _ y=>FA ht h y) z.2.2⟩
theorem DZ {st:aB}{a:Nat}{K K':List Nat->List (List Nat×D)->Prop}(h:∀ c fs,K c fs->K' c fs):oR st a K->oR st a K':=by
 unfold oR;split
 ·exact h _ _
 ·exact id
theorem xK {st:aB}{a:Nat}{K K':List D->List D->Prop}(h:∀ c fs,K c fs->K' c fs):tabAt st a K->tabAt st a K':=by
 unfold tabAt;split
 ·exact h _ _
 ·exact id
theorem SJ {c f:List Nat}{x:D}{st:aB}{Q Q':VK}(h:∀ d st,Q d st->Q' d st):qZ c f x st Q->qZ c f x st Q':=by
 unfold qZ;split
 ·exact DZ fun _ _ z=>⟨z.1,fG (fun _=>h _ _) z.2⟩
 ·exact id
theorem VZ {c f:List Nat}{v x:D}{st:aB}{Q Q':aB->Prop}(h:∀ st,Q st->Q' st):E3 c f v x st Q->E3 c f v x st Q':=by
 unfold E3;split
 ·exact DZ fun _ _ z=>⟨z.1,z.2.1,h _ z.2.2⟩
 ·exact id
theorem R5 {x y:D}{st:aB}{P P':Bool->Prop}(h:∀ b,P b->P' b):xG x y st P->xG x y st P':=by
 unfold xG;split
 ·exact xK fun _ _ z=>⟨z.1,h _ z.2⟩
 ·exact id
theorem TU {x y:D}{st:aB}{Q Q':VK}(h:∀ d st,Q d st->Q' d st):tE x y st Q->tE x y st Q':=by
 unfold tE;split
 ·exact xK fun _ _ z=>⟨z.1,fG (fun _=>h _ _) z.2⟩
 ·exact id
theorem MJ {x v y:D}{st:aB}{Q Q':aB->Prop}(h:∀ st,Q st->Q' st):zQ x v y st Q->zQ x v y st Q':=by
 unfold zQ;split
 ·exact xK fun _ _ z=>⟨z.1,z.2.1,z.2.2.1,h _ z.2.2.2⟩
 ·exact id
def bZ (C C':bE):Prop:=∀ f ds st Q Q' E E',(∀ d st,Q d st->Q' d st)->(∀ c st,E c st->E' c st)->C f ds st Q E->C' f ds st Q' E'
mutual
theorem aY {C C':bE}{sub}{E E':XK}(hC:bZ C C')(hE:∀ c st,E c st->E' c st):∀(e:Ex){σ:St}{st:aB}{Q Q':VK},(∀ d st,Q d st->Q' d st)->aG C sub E e σ st Q->aG C' sub E' e σ st Q'
 |.c d,σ,st,Q,Q',h=>by exact h _ _
 |.v i,σ,st,Q,Q',h=>by exact tZ fun d=>h _ _
 |.tup es,σ,st,Q,Q',h=>by exact cZ hC hE es fun _ _=>h _ _
 |.lst es,σ,st,Q,Q',h=>by exact cZ hC hE es fun _ _=>qI h
 |.bin op a b,σ,st,Q,Q',h=>by exact aY hC hE a fun _ _=>aY hC hE b fun _ _=>IE h
 |.neg a,σ,st,Q,Q',h=>by
  exact aY hC hE a fun _ _=>RX h
 |.cmp op a b,σ,st,Q,Q',h=>by exact aY hC hE a fun _ _=>aY hC hE b fun _ _=>zY fun _=>h _ _
 |.chain op op' a b c,σ,st,Q,Q',h=>by
  refine aY hC hE a fun _ _=>aY hC hE b fun _ _=>zY fun k=>?_
  split
  ·exact aY hC hE c fun _ _=>zY fun _=>h _ _
  ·exact h _ _
 |.and_ a b,σ,st,Q,Q',h=>by
  refine aY hC hE a fun _ _=>kB fun k=>?_
  split
  ·exact aY hC hE b h
  ·exact h _ _
 |.or_ a b,σ,st,Q,Q',h=>by
  refine aY hC hE a fun _ _=>kB fun k=>?_
  split
  ·exact h _ _
  ·exact aY hC hE b h
 |.not_ a,σ,st,Q,Q',h=>by exact aY hC hE a fun _ _=>kB fun k=>h _ _
 |.ite c a b,σ,st,Q,Q',h=>by
  refine aY hC hE c fun _ _=>kB fun k=>?_
  split
  ·exact aY hC hE a h
  ·exact aY hC hE b h
 |.call f es,σ,st,Q,Q',h=>by exact cZ hC hE es fun _ _=>hC _ _ _ _ _ _ _ h hE
 |.bi f es,σ,st,Q,Q',h=>by exact cZ hC hE es fun _ _=>X3 h
 |.isi a ts,σ,st,Q,Q',h=>by exact aY hC hE a fun _ _=>JC fun _=>h _ _
 |.cT m o es,σ,st,Q,Q',h=>by exact aY hC hE o fun _ _ z=>⟨z.1,cZ hC hE es (fun _ _=>QZ h) z.2⟩
 |.ix a b,σ,st,Q,Q',h=>by exact aY hC hE a fun _ _=>aY hC hE b fun _ _=>XH h
 |.sl a lo hi,σ,st,Q,Q',h=>by exact aY hC hE a fun _ _=>cZ hC hE lo fun _ _=>DM fun _=>cZ hC hE hi fun _ _=>DM fun _=>WK h
 |.bit f k es,σ,st,Q,Q',h=>by exact cZ hC hE es fun _ _=>zP fun _ _=>B4 h
 |.comp n aJ tg one k aD ifs elt,σ,st,Q,Q',h=>by
  refine cZ hC hE aD fun d aC=>zP fun as xs=>?_
  intro z
  refine FA (fun x st K K' hK=>?_) (fun _ _=>qI h) z
  refine E4 fun σ'=>HE hC hE ifs fun b st=>?_
  split
  ·exact aY hC hE elt fun _ _=>hK _ _
  ·exact hK _ _
 |.dic _ _,σ,st,Q,Q',h=>by exact id
 |.fld c f o,σ,st,Q,Q',h=>by exact aY hC hE o fun _ _=>SJ h
 |.mk c f es,σ,st,Q,Q',h=>by exact cZ hC hE es fun _ _ z p hp=>hC _ _ _ _ _ _ _ (fun _ _ y=>⟨y.1,h _ _ y.2⟩) hE (z p hp)
 |.mcl c m f o es,σ,st,Q,Q',h=>by exact aY hC hE o fun _ _ z=>⟨z.1,cZ hC hE es (fun _ _=>hC _ _ _ _ _ _ _ h hE) z.2⟩
 |.cv i es,σ,st,Q,Q',h=>by exact tZ fun _ z=>⟨z.1,cZ hC hE es (fun _ _=>WU fun _ _ _=>hC _ _ _ _ _ _ _ (fun _ _=>h _ _) (fun _ _=>hE _ _)) z.2⟩
 |.callL f es g aJ κ,σ,st,Q,Q',h=>by exact cZ hC hE es fun _ _ z=>⟨z.1,D7 (fun _ y a ha=>hC _ _ _ _ _ _ _ (fun _ _=>h _ _) (fun _ _=>hE _ _) (y a ha)) z.2⟩
 |.dnew,σ,st,Q,Q',h=>by exact fun z p hp=>h _ _ (z p hp)
 |.d1 k v,σ,st,Q,Q',h=>by exact fun z p hp=>aY hC hE k (fun _ _=>aY hC hE v fun _ _=>MJ fun _=>h _ _) (z p hp)
 |.din neg k d,σ,st,Q,Q',h=>by exact aY hC hE k fun _ _=>aY hC hE d fun _ _=>R5 fun _=>h _ _
 |.dix d k,σ,st,Q,Q',h=>by exact aY hC hE d fun _ _=>aY hC hE k fun _ _=>TU h
theorem cZ {C C':bE}{sub}{E E':XK}(hC:bZ C C')(hE:∀ c st,E c st->E' c st):∀(es:List Ex){σ:St}{st:aB}{Q Q':List D->aB->Prop},(∀ d st,Q d st->Q' d st)->bQ C sub E es σ st Q->bQ C' sub E' es σ st Q'
 |[],σ,st,Q,Q',h=>by exact h _ _
 |e::es,σ,st,Q,Q',h=>by exact aY hC hE e fun _ _=>cZ hC hE es fun _ _=>h _ _
theorem HE {C C':bE}{sub}{E E':XK}(hC:bZ C C')(hE:∀ c st,E c st->E' c st):∀(es:List Ex){σ:St}{st:aB}{Q Q':Bool->aB->Prop},(∀ d st,Q d st->Q' d st)->iW C sub E es σ st Q->iW C' sub E' es σ st Q'
 |[],σ,st,Q,Q',h=>by exact h _ _
 |e::es,σ,st,Q,Q',h=>by
  refine aY hC hE e fun _ _=>kB fun k=>?_
  split
  ·exact HE hC hE es h
  ·exact h _ _
end
structure gZ.Le (P P':gZ):Prop where
 nx:∀ σ st,P.nx σ st->P'.nx σ st
 rt:∀ d st,P.rt d st->P'.rt d st
 bk:∀ σ st,P.bk σ st->P'.bk σ st
 ct:∀ σ st,P.ct σ st->P'.ct σ st
 ex:∀ c σ st,P.ex c σ st->P'.ex c σ st
theorem UX {o i v:D}{st:aB}{Q Q':aB->Prop}(h:∀ st,Q st->Q' st):C9 o i v st Q->C9 o i v st Q':=by
 unfold C9
 split
 ·exact dQ fun _=>fG fun _=>h _
 ·exact id
theorem xM {C C':bE}{sub}{E E':XK}(hC:bZ C C')(hE:∀ c st,E c st->E' c st){d:D}{Q Q':St->aB->Prop}(h:∀ σ st,Q σ st->Q' σ st):∀(t:Tg){σ:St}{st:aB},nZ C sub E t d σ st Q->nZ C' sub E' t d σ st Q'
 |.nm i,_,_=>by exact h _ _
 |.tp is,_,_=>by exact E4 fun _=>h _ _
 |.ix o i,_,_=>by exact aY hC hE o fun _ _=>aY hC hE i fun _ _=>UX fun _=>h _ _
 |.fl c f o,_,_=>by exact aY hC hE o fun _ _=>VZ fun _=>h _ _
 |.dk o i,_,_=>by exact aY hC hE o fun _ _=>aY hC hE i fun _ _=>MJ fun _=>h _ _
theorem HX {g:aB->Prop}{turn uT:D->(St->aB->Prop)->St->aB->Prop}{N N':St->aB->Prop}
 (ht:∀ x M M' σ st,(∀ σ st,M σ st->M' σ st)->turn x M σ st->uT x M' σ st)(h:∀ σ st,N σ st->N' σ st):∀{xs:List D}{σ:St}{st:aB},zO g turn N xs σ st->zO g uT N' xs σ st
 |[],_,_,z=>⟨z.1,h _ _ z.2⟩
 |_::_,_,_,z=>⟨z.1,ht _ _ _ _ _ (fun _ _=>HX ht h) z.2⟩
theorem CL {turn uT:(St->aB->Prop)->St->aB->Prop}(ht:∀ M M' σ st,(∀ σ st,M σ st->M' σ st)->turn M σ st->uT M' σ st):∀{n:Nat}{σ:St}{st:aB},qC turn n σ st->qC uT n σ st
 |0,_,_,z=>z
 |n+1,_,_,z=>ht _ _ _ _ (fun _ _=>CL ht) z
theorem NP:bZ MW MW:=fun _ _ _ _ _ _ _ _ _ x=>x
mutual
theorem wpS_mono {C C':bE}{sub}(hC:bZ C C'):∀(s:Sx){P P':gZ}{σ:St}{st:aB},P.Le P'->wpS C sub s P σ st->wpS C' sub s P' σ st
 |.ex e,P,P',σ,st,h=>by exact aY hC (fun _ _=>h.ex _ _ _) e fun _ _=>h.nx _ _
 |.asg t e,P,P',σ,st,h=>by exact aY hC (fun _ _=>h.ex _ _ _) e fun _ _=>xM hC (fun _ _=>h.ex _ _ _) h.nx t
 |.aug i op e,P,P',σ,st,h=>by
  exact tZ fun x=>aY hC (fun _ _=>h.ex _ _ _) e fun _ _ z=>⟨z.1,IE (fun _ _=>h.nx _ _) z.2⟩
 |.iff c a b,P,P',σ,st,h=>by
  refine aY hC (fun _ _=>h.ex _ _ _) c fun _ _=>kB fun k=>?_
  split
  ·exact jA hC a h
  ·exact jA hC b h
 |.whl c b,P,P',σ,st,h=>by
  rintro⟨n,z⟩
  refine⟨n,CL (fun M M' σ st hM=>aY hC (fun _ _=>h.ex _ _ _) c fun _ _=>kB fun k=>?_) z⟩
  split
  ·exact jA hC b ⟨hM,h.rt,h.nx,hM,h.ex⟩
  ·exact h.nx _ _
 |.mB t k aD b,P,P',σ,st,h=>by
  refine cZ hC (fun _ _=>h.ex _ _ _) aD fun _ _=>zP fun as xs=>?_
  exact HX (fun x M M' σ st hM=>xM hC (fun _ _=>h.ex _ _ _) (fun _ _=>jA hC b (P:={ P with nx:=M,ct:=M,bk:=P.nx }) (P':={ P' with nx:=M',ct:=M',bk:=P'.nx }) ⟨hM,h.rt,h.nx,hM,h.ex⟩) t) h.nx
 |.ret e,P,P',σ,st,h=>by exact aY hC (fun _ _=>h.ex _ _ _) e h.rt
 |.brk,P,P',σ,st,h=>by exact h.bk _ _
 |.cnt,P,P',σ,st,h=>by exact h.ct _ _
 |.pass,P,P',σ,st,h=>by exact h.nx _ _
 |.rais c es,P,P',σ,st,h=>by exact cZ hC (fun _ _=>h.ex _ _ _) es fun _ _=>h.ex _ _ _
 |.tryy b c n hh,P,P',σ,st,h=>by
  refine jA hC b ⟨h.nx,h.rt,h.bk,h.ct,fun c' σ st=>?_⟩
  show(if sub c' c=true then _ else _)->(if sub c' c=true then _ else _)
  split
  ·exact jA NP hh ⟨fun _ _=>h.nx _ _,h.rt,fun _ _=>id,fun _ _=>id,fun _ _ _=>id⟩
  ·exact h.ex _ _ _
theorem jA {C C':bE}{sub}(hC:bZ C C'):∀(ss:List Sx){P P':gZ}{σ:St}{st:aB},P.Le P'->cY C sub ss P σ st->cY C' sub ss P' σ st
 |[],P,P',σ,st,h=>by exact h.nx _ _
 |s::ss,P,P',σ,st,h=>by exact wpS_mono hC s ⟨fun _ _=>jA hC ss h,h.rt,h.bk,h.ct,h.ex⟩
end
theorem kC (G:Prog):∀{j k:Nat},j<=k->bZ (aI G j) (aI G k)
 |0,k,_=>fun _ _ _ _ _ _ _ _ _ x=>x.elim
 |j+1,0,h=>by omega
 |j+1,k+1,h=>fun f ds st Q Q' E E' hQ hE=>by
  simp only[aI]
  split
  ·exact id
  ·have hj:j<=k:=by omega
   exact fun z=>⟨z.1,jA (kC G hj) _ (P:=⟨fun _ aA=>Q .non aA,Q,fun _ _=>False,fun _ _=>False,fun c _ aA=>E c aA⟩) (P':=⟨fun _ aA=>Q' .non aA,Q',fun _ _=>False,fun _ _=>False,fun c _ aA=>E' c aA⟩) ⟨fun _ _=>hQ _ _,hQ,fun _ _=>id,fun _ _=>id,fun _ _ _=>hE _ _⟩ z.2⟩
section
variable {C:bE}{sub:Nat->Nat->Bool}{E:XK}{σ:St}{st:aB}{Q:VK}{P:Bool->Prop}{e a b c:Ex}{es:List Ex}{x y:D}{i j:Int}{u v:List Nat}{ds xs ys ks vs:List D}{p q:Nat}{K:List D->Prop}{M:List D->List D->Prop}
theorem aO {R:gZ}:cY C sub [] R σ st=R.nx σ st:=rfl
theorem UK {R:gZ}{s:Sx}{ss:List Sx}:cY C sub (s::ss) R σ st=wpS C sub s { R with nx:=cY C sub ss R } σ st:=rfl
theorem gL {R:gZ}{s:Sx}{ss:List Sx}(h:wpS C sub s { R with nx:=cY C sub ss R } σ st):cY C sub (s::ss) R σ st:=h
theorem fF (h:st p=some (.lst ds)):dX st p K M=K ds:=by unfold dX;rw[h]
theorem aE (h:st p=some (.lst ds)):cR st p K=K ds:=by unfold cR;rw[h]
theorem bF {α:Type}{x:α}{K:α->Prop}:dG (some x) K=K x:=rfl
theorem UJ {α:Type}{K:α->Prop}:dG none K=False:=rfl
theorem Et {d:D}{r:St}{R:D->Prop}:eF (some d::r) 0 R=R d:=rfl
theorem Jx {o:Option D}{r:St}{n:Nat}{R:D->Prop}:eF (o::r) (n+1) R=eF r n R:=rfl
theorem aQ {o:MO}:put st p o p=some o:=by unfold put;rw[if_pos rfl]
theorem aM {o:MO}(h:q≠p):put st p o q=st q:=by unfold put;rw[if_neg h]
theorem pP {o u:MO}(h:st p=none)(h':st q=some u):put st p o q=some u:=by
 rw[aM];exact h'
 intro e;rw[e,h]at h';cases h'
theorem Ax {o u:MO}:put (put st p o) p u=put st p u:=by funext b;unfold put;split<;>rfl
theorem Z1:eS .non st P=P false:=rfl
theorem Dp {k:Bool}:eS (.bl k) st P=P k:=rfl
theorem Dd:eS (.int i) st P=P (i != 0):=rfl
theorem Ap:eS (.tup ds) st P=P (!ds.isEmpty):=rfl
theorem ZM:eS (.ref p) st P=dX st p (fun ds=>P (!ds.isEmpty)) fun ks _=>P (!ks.isEmpty):=rfl
theorem XZ:eS (.bO ds) st P=P (!ds.isEmpty):=rfl
theorem Gr:dJ .eq x y st P=(plainS st x/\plainS st y/\P (bV st x y)):=rfl
theorem Ef:dJ .ne x y st P=(plainS st x/\plainS st y/\P (!bV st x y)):=rfl
theorem Jy:dJ .lt (.int i) (.int j) st P=P (decide (i<j)):=rfl
theorem He:dJ .le (.int i) (.int j) st P=P (decide (i<=j)):=rfl
theorem cmp_gt:dJ .gt (.int i) (.int j) st P=P (decide (j<i)):=rfl
theorem Hv:dJ .ge (.int i) (.int j) st P=P (decide (j<=i)):=rfl
theorem Cq:dJ .is_ x .non st P=P (J0 x):=rfl
theorem ZT {k:Bool}:dJ .is_ x (.bl k) st P=P (WB k x):=rfl
theorem W8:dJ .isnot x .non st P=P (!J0 x):=rfl
theorem W7 {k:Bool}:dJ .isnot x (.bl k) st P=P (!WB k x):=rfl
theorem QV:dJ .in_ x (.tup ds) st P=(plainS st x/\dR st ds/\P (ds.any fun d=>bV st d x)):=rfl
theorem NL {w:List Nat}:dJ .in_ (.str w) (.dE ks vs) st P=P (ks.any fun d=>bM d (.str w)):=rfl
theorem QF:dJ .in_ (.str u) (.str v) st P=P (occurs u v):=rfl
theorem NR:dJ .kX x (.tup ds) st P=(plainS st x/\dR st ds/\P (!ds.any fun d=>bV st d x)):=rfl
theorem NY:dJ .kX x (.ref p) st P=dX st p (fun ds=>plainS st x/\dR st ds/\P (!ds.any fun d=>bV st d x)) fun ks _=>plain x/\wH ks/\P (!ks.any fun d=>bM d x):=rfl
theorem LH {w:List Nat}:dJ .kX (.str w) (.dE ks vs) st P=P (!ks.any fun d=>bM d (.str w)):=rfl
theorem NU:dJ .kX (.str u) (.str v) st P=P (!occurs u v):=rfl
theorem add_int:iM .add (.int i) (.int j) st Q=Q (.int (i+j)) st:=rfl
theorem add_str:iM .add (.str u) (.str v) st Q=(u.length+v.length<=bH/\Q (.str (u++v)) st):=rfl
theorem GB:iM .add (.tup xs) (.tup ys) st Q=(xs.length+ys.length<=bH/\Q (.tup (xs++ys)) st):=rfl
theorem Bf:iM .add (.ref p) (.ref q) st Q=cR st p fun xs=>cR st q fun ys=>iP (xs++ys) st Q:=rfl
theorem sub_int:iM .sub (.int i) (.int j) st Q=Q (.int (i-j)) st:=rfl
theorem mul_int:iM .mul (.int i) (.int j) st Q=((qN i∨qN j)/\Q (.int (i*j)) st):=rfl
theorem De:iM .mul (.tup xs) (.int i) st Q=((0<xs.length/\xs.length<=1000/\1<=i/\i<1000)/\Q (.tup (ak i.toNat xs).flatten) st):=rfl
theorem V9:iM .fdiv (.int i) (.int j) st Q=((0<j/\j<1073741824)/\Q (.int (i / j)) st):=rfl
theorem mod_int:iM .mod (.int i) (.int j) st Q=(0<j/\Q (.int (i % j)) st):=rfl
theorem pow_int:iM .pow (.int i) (.int j) st Q=((0<=j/\j<=1000000/\i.natAbs<18446744073709551616)/\Q (.int (i ^ j.toNat)) st):=rfl
theorem neg_int:FV (.int i) st Q=Q (.int (-i)) st:=rfl
theorem Z7 {t:Ty}:xC sub x st [t] P=iY sub x st t P:=rfl
theorem Aa {t t':Ty}{ts:List Ty}:xC sub x st (t::t'::ts) P=iY sub x st t fun b=>if b=true then P true else xC sub x st (t'::ts) P:=rfl
theorem mR:nU (.tup ds) (.int i) st Q=dG (gQ ds i) fun d=>Q d st:=rfl
theorem OB:nU (.bO ds) (.int i) st Q=dG (gQ ds i) fun d=>Q d st:=rfl
theorem KL:nU (.str u) (.int i) st Q=(u.length<=bH/\dG (gQ u i) fun c=>Q (.str [c]) st):=rfl
theorem ZV {w:List Nat}:nU (.dE ks vs) (.str w) st Q=dG (wW ks vs (.str w)) fun d=>Q d st:=rfl
theorem eO (h:st p=some (.lst ds)):nU (.ref p) (.int i) st Q=dG (gQ ds i) fun d=>Q d st:=by
 show dX st p _ _=_
 rw[fF h]
theorem eJ {α:Type}{xs:List α}{n:Nat}(h:n<xs.length):gQ xs (n:Int)=xs[n]?:=by
 unfold gQ pD
 rw[if_pos (by omega),if_pos (by omega)]
 simp
theorem GY {α:Type}{x:α}{r:List α}:gQ (x::r) 0=some x:=eJ (n:=0) (by simp)
theorem V8 {α:Type}{x y:α}{r:List α}:gQ (x::y::r) 1=some y:=eJ (n:=1) (by simp)
theorem VQ {α:Type}{x y z:α}{r:List α}:gQ (x::y::z::r) 2=some z:=eJ (n:=2) (by simp)
theorem Rf {α:Type}{x y z w:α}{r:List α}:gQ (x::y::z::w::r) 3=some w:=eJ (n:=3) (by simp)
theorem Rz {α:Type}{x y z w t:α}{r:List α}:gQ (x::y::z::w::t::r) 4=some t:=eJ (n:=4) (by simp)
theorem Ho {R:Option Int->Prop}:pS [] R=R none:=rfl
theorem Er {R:Option Int->Prop}:pS [.int i] R=R (some i):=rfl
theorem K1 {lo hi:Option Int}:EW (.tup ds) lo hi st Q=Q (.tup (cut ds lo hi)) st:=rfl
theorem Ja {lo hi:Option Int}:EW (.ref p) lo hi st Q=cR st p fun ds=>∀ p,st p=none->Q (.ref p) (put st p (.lst (cut ds lo hi))):=rfl
theorem Mb {α:Type}{d:α}{ds:List α}:cut (d::ds) (some 1) none=ds:=by simp [cut,cJ]
theorem BV {α:Type}{xs:List α}{lo hi:Option Int}:(cut xs lo hi).length<=xs.length:=by simp only[cut,oy,uc];omega
theorem Az {R:List Nat->List D->Prop}:jS none [x] st R=pZ x st R:=rfl
theorem W3 {R:List Nat->List D->Prop}:pZ (.tup ds) st R=R [] ds:=rfl
theorem VO {R:List Nat->List D->Prop}:pZ (.str u) st R=(u.length<=bH/\R [] (u.map fun c=>.str [c])):=rfl
theorem nC {R:List Nat->List D->Prop}:pZ (.ref p) st R=cR st p fun ds=>R [p] ds:=rfl
theorem TR {R:List Nat->List D->Prop}:pZ (.bO ds) st R=R [] ds:=rfl
theorem FN {R:List Nat->List D->Prop}:dY (.tup ds) st R=R [] ds:=rfl
theorem wQ {R:List Nat->List D->Prop}:dY (.ref p) st R=cR st p fun ds=>R [p] ds:=rfl
theorem V6 {R:List Nat->List D->Prop}:dY (.bO ds) st R=R [] ds:=rfl
theorem P5 {R:List Nat->List D->Prop}:jS (some .range) [.int j] st R=(iF j/\R [] (iZ 0 j.toNat)):=rfl
theorem Q0 {R:List Nat->List D->Prop}:jS (some .range) [.int i,.int j] st R=(iF i/\iF j/\R [] (iZ i (j-i).toNat)):=rfl
theorem Cr {R:List Nat->List D->Prop}:jS (some .rev) [x] st R=dY x st fun as xs=>R as xs.reverse:=rfl
theorem VF:iA .len [x] st Q=rD x st fun n=>Q (.int (n:Nat)) st:=rfl
theorem Cc {R:Nat->Prop}:rD (.tup ds) st R=R ds.length:=rfl
theorem M9 {R:Nat->Prop}:rD (.bO ds) st R=R ds.length:=rfl
theorem len_str {R:Nat->Prop}:rD (.str u) st R=(u.length<=bH/\R u.length):=rfl
theorem GA {R:Nat->Prop}:rD (.ref p) st R=dX st p (fun ds=>R ds.length) fun ks _=>R ks.length:=rfl
theorem S9:iA .all [x] st Q=dY x st fun _ xs=>fL .all xs st Q:=rfl
theorem SG:iA .any [x] st Q=dY x st fun _ xs=>fL .any xs st Q:=rfl
theorem Iz:iA .max [x] st Q=dY x st fun _ xs=>fL .max xs st Q:=by cases x<;>rfl
theorem Eh:iA .min [x] st Q=dY x st fun _ xs=>fL .min xs st Q:=by cases x<;>rfl
theorem UM:iA .sum [x] st Q=dY x st fun _ xs=>fL .sum xs st Q:=by cases x<;>rfl
theorem OR:iA .list [x] st Q=dY x st fun _ xs=>fL .list xs st Q:=rfl
theorem KI:iA .tuple [x] st Q=dY x st fun _ xs=>fL .tuple xs st Q:=rfl
theorem IU {ds:List D}:iA .tQ [.tup ds] st Q=dG (strsOf ds) fun ws=>ws.length<4000/\Q (.int (AV [] ws:Nat)) st:=rfl
theorem ZN:iA .max [.int i,.int j] st Q=Q (.int (if j>i then j else i)) st:=rfl
theorem Hi:iA .int [.int i] st Q=Q (.int i) st:=rfl
theorem Cj {k:Bool}:iA .int [.bl k] st Q=Q (.int (if k then 1 else 0)) st:=rfl
theorem El:fL .all xs st Q=dG (boolsOf xs) fun bs=>Q (.bl (bs.all id)) st:=rfl
theorem Jt:fL .any xs st Q=dG (boolsOf xs) fun bs=>Q (.bl (bs.any id)) st:=rfl
theorem Jj:fL .sum xs st Q=dG (intsOf xs) fun is=>Q (.int is.sum) st:=rfl
theorem Af:fL .list xs st Q=iP xs st Q:=rfl
theorem VS:fL .tuple xs st Q=(xs.length<=bH/\Q (.tup xs) st):=rfl
theorem Ac:zH (.tup ds) st K=K ds:=rfl
theorem Z8:zH (.ref p) st K=cR st p K:=rfl
theorem wX:A0 .append (.ref p) st=cR st p fun _=>True:=rfl
theorem QW:A0 .extend (.ref p) st=cR st p fun _=>True:=rfl
theorem Dg:A0 .pop (.ref p) st=cR st p fun _=>True:=rfl
theorem HD {x:D}:A0 .index x st=dY x st fun _ _=>True:=rfl
theorem M1 {x d:D}:kP .index x [d] st Q=dY x st fun _ ds=>plainS st d/\dR st ds/\dG (findD st d ds) fun i=>Q (.int (i:Nat)) st:=rfl
theorem uS:kP .append (.ref p) [x] st Q=cR st p fun xs=>xs.length<bH/\Q .non (put st p (.lst (xs++[x]))):=rfl
theorem zE:kP .extend (.ref p) [x] st Q=cR st p fun xs=>zH x st fun ys=>xs.length+ys.length<=bH/\Q .non (put st p (.lst (xs++ys))):=rfl
theorem MZ:kP .pop (.ref p) [] st Q=cR st p fun xs=>dG (xs[xs.length-1]?) fun d=>Q d (put st p (.lst xs.dropLast)):=rfl
theorem OD {R:aB->Prop}:C9 (.ref p) (.int i) x st R=cR st p fun xs=>dG (pD xs.length i) fun j=>R (put st p (.lst (xs.set j x))):=rfl
theorem Dy {n:Nat}{R:St->Prop}:lK true [n] x σ R=R (σ.set n (some x)):=rfl
theorem TY {is:List Nat}{R:St->Prop}:lK false is (.tup ds) σ R=(ds.length=is.length/\R ((is.zip ds).foldl (fun σ p=>σ.set p.1 (some p.2)) σ)):=by cases is<;>rfl
end
theorem Ext.refl {st:aB}:Ext st st:=fun _ _ h=>h
theorem Ext.trans {a b c:aB}(h:Ext a b)(h':Ext b c):Ext a c:=fun x o e=>h' x o (h x o e)
theorem Ext.new {st:aB}{p:Nat}{o:MO}(h:st p=none):Ext st (put st p o):=fun a u e=>pP h e
theorem LA {st aA:aB}:same [] st aA:=fun _ h=>nomatch h
theorem comp_map {g:aB->Prop}{turn:D->aB->(Option D->aB->Prop)->Prop}{R:List D->aB->Prop}(f:D->D):∀(xs acc:List D)(st:aB),
  (∀ aA,Ext st aA->g aA)->(∀ x∈xs,∀ aA (K:Option D->aB->Prop),Ext st aA->(∀ aZ,Ext aA aZ->K (some (f x)) aZ)->turn x aA K) ->
  acc.length+xs.length<=bH->(∀ aA,Ext st aA->R (acc++xs.map f) aA)->kG g turn xs acc st R
 |[],acc,st,hg,_,_,hR=>⟨hg st .refl,by simpa using hR st .refl⟩
 |x::xs,acc,st,hg,ht,hl,hR=>by
  refine⟨hg st .refl,by simp at hl;omega,ht x (by simp) st _ .refl fun aZ h''=>?_⟩
  refine comp_map f xs (acc++[f x]) aZ (fun aA h=>hg aA (h''.trans h)) (fun y hy aA K h=>ht y (by simp [hy]) aA K (h''.trans h)) (by simp at hl ⊢;omega) fun aA h=>?_
  simpa using hR aA (h''.trans h)
mutual
theorem sE {st:aB}:∀ d:D,bK d=true->hJ st d=true
 |.non,_=>rfl
 |.bl _,_=>rfl
 |.int _,_=>rfl
 |.str _,_=>rfl
 |.tup ds,h=>by simp only[bK]at h;simp only[hJ];exact qF ds h
 |.ref _,h=>by simp [bK]at h
 |.dE _ _,h=>by simp [bK]at h
 |.bO _,h=>by simp [bK]at h
 |.exc _,h=>by simp [bK]at h
theorem qF {st:aB}:∀ ds:List D,bY ds=true->iR st ds=true
 |[],_=>rfl
 |d::ds,h=>by
  simp only[bY,aw]at h
  simp only[iR,aw]
  exact⟨sE d h.1,qF ds h.2⟩
end
theorem plain.s {d:D}(h:plain d){st:aB}:plainS st d:=⟨sE d h.1,h.2⟩
theorem wH.s {ds:List D}(h:wH ds){st:aB}:dR st ds:=⟨qF ds h.1,h.2⟩
theorem HQ {x:List Nat}:plain (.str x):=⟨rfl,dm _⟩
theorem HM {i:Int}:plain (.int i):=⟨rfl,dm _⟩
theorem LO {b:Bool}:plain (.bl b):=⟨rfl,dm _⟩
theorem HH:plain .non:=⟨rfl,dm _⟩
theorem DS {x:List Nat}{st:aB}:plainS st (.str x):=HQ.s
theorem RG {i:Int}{st:aB}:plainS st (.int i):=HM.s
theorem AD {b:Bool}{st:aB}:plainS st (.bl b):=LO.s
theorem QC {st:aB}:plainS st .non:=HH.s
theorem pW:∀ xs:List (List Nat),wH (xs.map .str)
 |[]=>⟨rfl,dm _⟩
 |x::xs=>by
  have h:=pW xs
  exact⟨by simp only[ay,bY,bK,ke];exact h.1,by simp only[ay,cW,cS];exact Nat.max_le.mpr ⟨Nat.zero_le _,h.2⟩⟩
theorem iX {st:aB}{x y:List Nat}:bV st (.str x) (.str y)=(x==y):=by simp only[bV]
theorem Bs {st:aB}{x y:Int}:bV st (.int x) (.int y)=(x==y):=by simp only[bV]
theorem Di {st:aB}{x y:Bool}:bV st (.bl x) (.bl y)=(x==y):=by simp only[bV]
theorem Ct {x y:List Nat}:bM (.str x) (.str y)=(x==y):=by simp only[bM]
theorem yH {st:aB}(x:List Nat):∀ xs:List (List Nat),((xs.map D.str).any fun d=>bV st d (.str x))=xs.contains x
 |[]=>rfl
 |y::xs=>by
  simp only[ay,kf,iX,yH x xs,nj]
  congr 1
  exact Bool.beq_comm
end L3
end
section
namespace L3
open PySem PySem.Spec PyProof.Rows L2
mutual
noncomputable def rQ (w:de):D->Int
 |.str x=>hashStr w ⟨x.toArray⟩
 |.bl b=>Ut (if b=true then 1 else 0)
 |.tup ds=>Ut (fy (iJ w ds))
 |_=>0
noncomputable def iJ (w:de):List D->List Int
 |[]=>[]
 |d::ds=>rQ w d::iJ w ds
end
mutual
noncomputable def uC:D->Nat
 |.tup ds=>kZ ds+1
 |_=>1
noncomputable def kZ:List D->Nat
 |[]=>0
 |d::ds=>uC d+kZ ds
end
noncomputable def Qt (w:de)(x:D×Addr×Value):DictEntry:=⟨rQ w x.1,.ref x.2.1,x.2.2⟩
def QI (a:Addr)(xs:List (D×Addr×Value))(w:de)(h:Heap):Prop:=∃ o es ep,h.get? a=some o/\o.ExactDict/\o.data=.dict es ep/\es.toList=xs.map (Qt w)
noncomputable def sR (a:Addr)(xs:List (D×Addr×Value)):HO:=.ext fun _ w h=>QI a xs w h
def clsAt (K:aa)(c:List Nat)(C:Addr):Prop:=h9 K cu ⟨c.toArray⟩=some (some (.ref C))
theorem clsAt.inj {K:aa}{c:List Nat}{C C':Addr}(h:clsAt K c C)(h':clsAt K c C'):C=C':=by
 have:=h.symm.trans h'
 injection this with e;injection e with e;injection e
structure kL where
 params:Arguments
 body:Expr
 scope:Scope
 aJ:List Str
 ps:List Str
 q:Str
noncomputable def YO (e:Expr)(aJ ps:List Str)(q:Str):kL:=match e with
 |.Lambda params body scope _=>⟨params,body,scope,aJ,ps,q⟩
 |e=>⟨{ posonlyargs:=[],args:=[],vararg:=none,kwonlyargs:=[],kw_defaults:=[],kwarg:=none,defaults:=[] },e,{ kind:=.function,names:=[],isGenerator:=false,isCoroutine:=false },aJ,ps,q⟩
noncomputable def YX (s:Stmt):Expr:=match s with
 |.Return (some (.Subscript (.Call _ as _ _) _ _)) _=>as.getD 2 (.Name "" ⟨0,0,0,0⟩)
 |.Return (some (.Call _ as _ _)) _=>as.getD 2 (.Name "" ⟨0,0,0,0⟩)
 |.Assign _ (.Call _ as _ _) _=>as.getD 2 (.Name "" ⟨0,0,0,0⟩)
 |_=>.Name "" ⟨0,0,0,0⟩
noncomputable abbrev bd (n:Nat):Stmt:=PySem.Challenge.pw_leastloss_k09_whole_game_walked.main.body.getD n (.Pass ⟨0,0,0,0⟩)
noncomputable def eR:kL:=YO (YX ((fH (bd 43)).getD 3 (.Pass ⟨0,0,0,0⟩))) ["rules"] ["held"] "first_breaks.<locals>.<lambda>"
noncomputable def iK:kL:=YO (YX ((fH (bd 44)).getD 3 (.Pass ⟨0,0,0,0⟩))) ["rules"] ["held"] "losses.<locals>.<lambda>"
noncomputable def LT:Nat->Option kL
 |49=>some eR
 |50=>some iK
 |_=>none
def nA (K:aa)(H:Hp)(a:Addr)(vs:List V):Prop :=
 (∃ o,H a=some (.frz o (.lst vs)))∨∃(o:Obj)(aD:Array ae)(n:Nat),K.lookup a=some o/\o.cls=.type "list" /\ o.dict=none/\o.data=.seq aD n/\aD.size<=sizeLine/\aU vs aD.toList
theorem nA.sq {K:aa}{H:Hp}{a:Addr}{vs:List V}:nA K H a vs->eT K H a vs
 |.inl ⟨o,h⟩=>.inl (.inr ⟨o,h⟩)
 |.inr h=>.inr h
noncomputable def uO:Uu->D
 |.bool b=>.bl b
 |.int i=>.int i
 |.str x=>.str x.cps.toList
 |_=>.non
noncomputable def pJ:Uu->Bool
 |.none=>true
 |.bool _=>true
 |.int _=>true
 |.str _=>true
 |_=>false
def Ew (K:aa)(a:Addr)(ks vs:List D):Prop:=∃ T:List (Str×PyData),wo td (fun b=>K.lookup b) a T=true/\(T.all fun p=>pJ p.2)=true/\ks=T.map (fun p=>.str p.1.cps.toList)/\vs=T.map (fun p=>uO p.2)
mutual
inductive Rep (K:aa)(H:Hp):D->V->Prop where
 |non:Rep K H .non .non
 |bl (b:Bool):Rep K H (.bl b) (.bl b)
 |int (i:Int):Rep K H (.int i) (.int i)
 |str (x:List Nat):Rep K H (.str x) (.str ⟨x.toArray⟩)
 |tup {ds:List D}{a:Addr}{vs:List V}(h:eU K H a vs)(r:aL K H ds vs):Rep K H (.tup ds) (.ref a)
 |ref (a:Addr):Rep K H (.ref a) (.ref a)
 |bO {ds:List D}{a:Addr}{vs:List V}(h:nA K H a vs)(r:aL K H ds vs):Rep K H (.bO ds) (.ref a)
 |dE {ks vs:List D}{a:Addr}(h:Ew K a ks vs):Rep K H (.dE ks vs) (.ref a)
inductive aL (K:aa)(H:Hp):List D->List V->Prop where
 |nil:aL K H [] []
 |cons {d:D}{v:V}{ds:List D}{vs:List V}(h:Rep K H d v)(r:aL K H ds vs):aL K H (d::ds) (v::vs)
end
def jC (K:aa)(H:Hp)(fs:List (List Nat×D))(ws:List (Str×V)):Prop:=ws.map (·.1)=fs.map (fun p=>(⟨p.1.toArray⟩:Str))/\aL K H (fs.map (·.2)) (ws.map (·.2))
noncomputable def bears:HO->Bool
 |.lst _=>true
 |.ins _ _ _=>true
 |.ext _=>true
 |.tbl _=>true
 |.frz _ (.frz _ _)=>true
 |_=>false
def P0 (oc:Obj)(q:Str):Prop:=∃ vs t,oc.data=.fields vs/\vs[1]? = some (.str q t)
inductive jU (H:Hp)(a:Addr)(clos:List (Str×Addr)):List Str->List V->Prop where
 |nil:jU H a clos [] []
 |cons {x:Str}{xs:List Str}{v:V}{vs:List V}(cl:Addr)(o:Obj)(u:ae)(l:clos.lookup x=some cl)(k:H cl=some (.frz o (.own a))) (d:o.data=.cell (some u)) (r:RelV v u) (t:jU H a clos xs vs):jU H a clos (x::xs) (v::vs)
theorem jU.of {H H':Hp}{a:Addr}{clos:List (Str×Addr)}{xs:List Str}{vs:List V}(h:jU H a clos xs vs)(k:∀ b o,H b=some (.frz o (.own a))->H' b=some (.frz o (.own a))):jU H' a clos xs vs:=by
 induction h with
 |nil=>exact .nil
 |cons cl o u l q d r t ih=>exact .cons cl o u l (k _ _ q) d r ih
inductive YD (H:Hp)(a:Addr)(f:Nat)(vs:List V):Prop where
 |mk (T:kL)(clos:List (Str×Addr))(pm ctv:ae)(c':Addr)(oc:Obj)(ne:a≠0)(t:LT f=some T)(e:H a=some (.frz (my "<lambda>" T.q T.params T.body T.scope clos pm c' ctv) (.frz (my "<lambda>" T.q T.params T.body T.scope clos pm c' ctv) (.own a))))(ec:H c'=some (.frz oc (.own 0)))(co:P0 oc T.q)
 (inj:∀ x y c,clos.lookup x=some c->clos.lookup y=some c->x=y)(dom:∀ x c,clos.lookup x=some c->x∈T.aJ)(cap:jU H a clos T.aJ vs):YD H a f vs
def RA (K:aa)(H:Hp)(a:Addr)(κ:CK):Prop :=
 pe K κ.c a=true/\(H a=some (.tbl #[])∨∃ c' oc,H a=some (.tbl #[gp κ.ln,gp κ.col,.ref c'])/\H c'=some (.frz oc (.own 0))/\P0 oc ⟨κ.q.toArray⟩)
def vB (K:aa)(H:Hp)(a:Addr):MO->Prop
 |.lst ds=>∃ vs,H a=some (.lst vs)/\aL K H ds vs
 |.dic _ _=>False
 |.ins c fs=>∃ C dx ws,clsAt K c C/\H a=some (.ins C dx ws)/\jC K H fs ws
 |.tab ks vs=>∃(xs:List (D×Addr×Value))(ws:List V),H a=some (sR a xs)/\(a==ox)=false/\xs.map (·.1)=ks/\(xs.map (·.1)).Nodup/\aL K H ks (xs.map fun x=>.ref x.2.1)/\(∀ x∈xs,keyed x.1)/\aU ws (xs.map (·.2.2))/\aL K H vs ws
 |.fn f cs=>∃ vs,YD H a f vs/\aL K H cs vs
 |.cod κ=>RA K H a κ
def aV (K:aa)(st:aB)(H:Hp):Prop:=∀ a o,st a=some o->vB K H a o
def Step (H:Hp)(st:aB)(H':Hp)(aA:aB):Prop:=∀ a o,H a=some o->st a=none->H' a=some o/\aA a=none
theorem Step.refl {H:Hp}{st:aB}:Step H st H st:=fun _ _ h n=>⟨h,n⟩
theorem Step.trans {H H1 H2:Hp}{st aC aF:aB}(a:Step H st H1 aC)(b:Step H1 aC H2 aF):Step H st H2 aF:=fun x o h n=>let⟨h1,n1⟩:=a x o h n;b x o h1 n1
section
variable {K:aa}{H H' H1:Hp}{st aA aC:aB}{a p:Addr}{d:D}{v:V}{ds:List D}{vs:List V}
theorem vB.bears {m:MO}(h:vB K H a m):∃ o,H a=some o/\L3.bears o=true:=by
 cases m with
 |lst ds=>obtain⟨vs,q,_⟩:=h;exact⟨_,q,rfl⟩
 |dic _ _=>exact h.elim
 |ins c fs=>obtain⟨_,_,_,_,q,_⟩:=h;exact⟨_,q,rfl⟩
 |tab ks vs=>obtain⟨_,_,q,_⟩:=h;exact⟨_,q,rfl⟩
 |fn f cs=>obtain⟨_,⟨_,_,_,_,_,_,_,_,q⟩,_⟩:=h;exact⟨_,q,rfl⟩
 |cod κ=>obtain⟨_,q|⟨_,_,q,_⟩⟩:=h<;>exact⟨_,q,rfl⟩
theorem aV.vK (ok:aV K st H){o:HO}(h:H a=some o)(n:L3.bears o=false):st a=none:=by
 cases e:st a with
 |none=>rfl
 |some u =>
 obtain⟨o',e1,e2⟩:=(ok a u e).bears
 rw[h]at e1;cases e1
 rw[n]at e2;cases e2
theorem aV.fresh (ok:aV K st H)(h:H a=none):st a=none:=by
 cases e:st a with
 |none=>rfl
 |some u =>
 obtain⟨o',e1,e2⟩:=(ok a u e).bears
 rw[h]at e1;cases e1
theorem yJ (ok:aV K st H)(s:Step H st H' aA)(h:eU K H a vs):eU K H' a vs:=by
 rcases h with(h|⟨o,h⟩)|h
 ·exact .inl (.inl (s a _ h (ok.vK h rfl)).1)
 ·exact .inl (.inr ⟨o,(s a _ h (ok.vK h rfl)).1⟩)
 ·exact .inr h
theorem uF (ok:aV K st H)(s:Step H st H' aA)(h:nA K H a vs):nA K H' a vs:=by
 rcases h with⟨o,h⟩|h
 ·exact .inl ⟨o,(s a _ h (ok.vK h rfl)).1⟩
 ·exact .inr h
mutual
theorem Rep.step (ok:aV K st H)(s:Step H st H' aA):∀{d:D}{v:V},Rep K H d v->Rep K H' d v
 |_,_,.non=>.non
 |_,_,.bl b=>.bl b
 |_,_,.int i=>.int i
 |_,_,.str x=>.str x
 |_,_,.tup h r=>.tup (yJ ok s h) (aL.step ok s r)
 |_,_,.ref a=>.ref a
 |_,_,.bO h r=>.bO (uF ok s h) (aL.step ok s r)
 |_,_,.dE h=>.dE h
theorem aL.step (ok:aV K st H)(s:Step H st H' aA):∀{ds:List D}{vs:List V},aL K H ds vs->aL K H' ds vs
 |_,_,.nil=>.nil
 |_,_,.cons h r=>.cons (Rep.step ok s h) (aL.step ok s r)
end
theorem UB (ok:aV K st H)(s:Step H st H' aA){c:Addr}{clos:List (Str×Addr)}{xs:List Str}{vs:List V}(h:jU H c clos xs vs):jU H' c clos xs vs:=by
 induction h with
 |nil=>exact .nil
 |cons cl o u l k d r t ih=>exact .cons cl o u l (s _ _ k (ok.vK k rfl)).1 d r ih
theorem vB.step (ok:aV K st H)(s:Step H st H' aA){m:MO}(h:vB K H a m)(e:H' a=H a):vB K H' a m:=by
 cases m with
 |lst ds=>obtain⟨vs,q,r⟩:=h;exact⟨vs,e.trans q,r.step ok s⟩
 |dic _ _=>exact h
 |ins c fs=>obtain⟨C,dx,ws,q,q2,q3,r⟩:=h;exact⟨C,dx,ws,q,e.trans q2,q3,r.step ok s⟩
 |tab ks vs=>obtain⟨xs,ws,q,q0,q1,q2,q3,q4,q5,r⟩:=h;exact⟨xs,ws,e.trans q,q0,q1,q2,q3.step ok s,q4,q5,r.step ok s⟩
 |fn f cs =>
 obtain⟨vs,⟨T,clos,pm,ctv,c',oc,ne0,t,q,ec,co,inj,dom,cap⟩,r⟩:=h
 exact⟨vs,⟨T,clos,pm,ctv,c',oc,ne0,t,e.trans q,(s _ _ ec (ok.vK ec rfl)).1,co,inj,dom,UB ok s cap⟩,r.step ok s⟩
 |cod κ =>
 obtain⟨q0,q|⟨c',oc,q,ec,co⟩⟩:=h
 ·exact⟨q0,.inl (e.trans q)⟩
 ·exact⟨q0,.inr ⟨c',oc,e.trans q,(s _ _ ec (ok.vK ec rfl)).1,co⟩⟩
theorem aL.length:∀{ds:List D}{vs:List V},aL K H ds vs->ds.length=vs.length
 |_,_,.nil=>rfl
 |_,_,.cons _ r=>by simp [aL.length r]
theorem aL.get:∀{ds:List D}{vs:List V}{i:Nat}{d:D},aL K H ds vs->ds[i]? = some d->∃ v,vs[i]? = some v/\Rep K H d v
 |_,_,_,_,.nil,e=>by simp at e
 |_,_,0,_,.cons h _,e=>by simp at e;subst e;exact⟨_,rfl,h⟩
 |_,_,i+1,d,.cons _ r,e=>by
  obtain⟨v,e1,e2⟩:=aL.get (i:=i) (d:=d) r (by simpa using e)
  exact⟨v,by simpa using e1,e2⟩
theorem aL.append:∀{ds es:List D}{vs us:List V},aL K H ds vs->aL K H es us->aL K H (ds++es) (vs++us)
 |_,_,_,_,.nil,s=>s
 |_,_,_,_,.cons h r,s=>.cons h (aL.append r s)
theorem aL.take:∀{ds:List D}{vs:List V}(n:Nat),aL K H ds vs->aL K H (ds.take n) (vs.take n)
 |_,_,0,_=>by simp;exact .nil
 |_,_,_+1,.nil=>by simp;exact .nil
 |_,_,n+1,.cons h r=>by simp only[List.take_succ_cons];exact .cons h (aL.take n r)
theorem aL.drop:∀{ds:List D}{vs:List V}(n:Nat),aL K H ds vs->aL K H (ds.drop n) (vs.drop n)
 |_,_,0,r=>by simpa using r
 |_,_,_+1,.nil=>by simp;exact .nil
 |_,_,n+1,.cons _ r=>by simp only[xg];exact aL.drop n r
theorem aL.set (h:Rep K H d v):∀{ds:List D}{vs:List V}(i:Nat),aL K H ds vs->aL K H (ds.set i d) (vs.set i v)
 |_,_,_,.nil=>by simp;exact .nil
 |_,_,0,.cons _ r=>by simp only[di];exact .cons h r
 |_,_,i+1,.cons q r=>by simp only[d5];exact .cons q (aL.set h i r)
theorem aL.dropLast {ds:List D}{vs:List V}(r:aL K H ds vs):aL K H ds.dropLast vs.dropLast:=by
 rw[vz,vz,r.length]
 exact r.take _
theorem aL.reverse:∀{ds:List D}{vs:List V},aL K H ds vs->aL K H ds.reverse vs.reverse
 |_,_,.nil=>by simp;exact .nil
 |_,_,.cons h r=>by simp only[i7];exact(aL.reverse r).append (.cons h .nil)
inductive QD (K:aa)(H:Hp)(st:aB)(R:VK)(v:V)(H':Hp):Prop where
 |mk (d:D)(aA:aB)(s:Step H st H' aA)(ok:aV K aA H')(r:Rep K H' d v)(q:R d aA):QD K H st R v H'
inductive Pe (K:aa)(H:Hp)(st:aB)(R:List D->aB->Prop)(vs:List V)(H':Hp):Prop where
 |mk (ds:List D)(aA:aB)(s:Step H st H' aA)(ok:aV K aA H')(r:aL K H' ds vs)(q:R ds aA):Pe K H st R vs H'
inductive QX (K:aa)(H:Hp)(st:aB)(R:aB->Prop)(H':Hp):Prop where
 |mk (aA:aB)(s:Step H st H' aA)(ok:aV K aA H')(q:R aA):QX K H st R H'
theorem QD.here {R:VK}(ok:aV K st H)(r:Rep K H d v)(h:R d st):QD K H st R v H:=⟨d,st,.refl,ok,r,h⟩
theorem QD.after {R:VK}(s:Step H st H1 aC)(h:QD K H1 aC R v H'):QD K H st R v H':=let⟨d,aA,s',ok,r,q⟩:=h;⟨d,aA,s.trans s',ok,r,q⟩
theorem tJ {o:HO}(hp:H p=none):Step H st (upd H p o) st:=fun a u h n=>by
 have e:a≠p:=fun e=>by rw[e,hp]at h;cases h
 exact⟨by rw[bI e];exact h,n⟩
theorem nT {o:HO}{m:MO}(hp:H p=none):Step H st (upd H p o) (put st p m):=fun a u h n=>by
 have e:a≠p:=fun e=>by rw[e,hp]at h;cases h
 exact⟨by rw[bI e];exact h,by rw[aM e];exact n⟩
theorem aV.new {o:HO}(ok:aV K st H)(hp:H p=none):aV K st (upd H p o):=fun a u e=>by
 have ne:a≠p:=fun z=>by obtain⟨o',q,_⟩:=(ok a u e).bears;rw[z,hp]at q;cases q
 exact(ok a u e).step ok (tJ (st:=st) hp) (bI ne)
theorem aV.XQ {o:HO}{m:MO}(ok:aV K st H)(hp:H p=none)(r:vB K (upd H p o) p m):aV K (put st p m) (upd H p o):=fun a u e=>by
 have s:Step H st (upd H p o) (put st p m):=nT hp
 by_cases ha:a=p
 ·subst ha
  rw[aQ]at e;cases e
  exact r
 ·rw[aM ha]at e
  exact(ok a u e).step ok s (bI ha)
theorem aV.iP (ok:aV K st H)(hp:H p=none)(r:aL K H ds vs):aV K (put st p (.lst ds)) (upd H p (.lst vs)):=fun a u e=>by
 have s:Step H st (upd H p (.lst vs)) (put st p (.lst ds)):=nT hp
 by_cases ha:a=p
 ·subst ha
  rw[aQ]at e;cases e
  exact⟨vs,dD,r.step ok s⟩
 ·rw[aM ha]at e
  exact(ok a u e).step ok s (bI ha)
theorem QD.MP {R:VK}(ok:aV K st H)(r:aL K H ds vs)(hp:H p=none)(h:R (.tup ds) st):QD K H st R (.ref p) (upd H p (.tup vs)) :=
 ⟨.tup ds,st,tJ hp,ok.new hp,.tup (eU.of dD) (r.step ok (tJ (st:=st) hp)),h⟩
theorem QD.iP {R:VK}(ok:aV K st H)(r:aL K H ds vs)(hp:H p=none)(h:∀ p,st p=none->R (.ref p) (put st p (.lst ds))):QD K H st R (.ref p) (upd H p (.lst vs)) :=
 ⟨.ref p,put st p (.lst ds),nT hp,ok.iP hp r,.ref p,h p (ok.fresh hp)⟩
theorem aV.lst (ok:aV K st H)(h:st a=some (.lst ds)):∃ vs,H a=some (.lst vs)/\aL K H ds vs:=ok a _ h
theorem lR {o:HO}{m m':MO}(h:st a=some m):Step H st (upd H a o) (put st a m'):=fun b u hb n=>by
 have e:b≠a:=fun e=>by rw[e,h]at n;cases n
 exact⟨by rw[bI e];exact hb,by rw[aM e];exact n⟩
theorem aV.set (ok:aV K st H){m:MO}(h:st a=some m)(r:aL K H ds vs):aV K (put st a (.lst ds)) (upd H a (.lst vs)):=fun b u e=>by
 have s:Step H st (upd H a (.lst vs)) (put st a (.lst ds)):=lR h
 by_cases ha:b=a
 ·subst ha
  rw[aQ]at e;cases e
  exact⟨vs,dD,r.step ok s⟩
 ·rw[aM ha]at e
  exact(ok b u e).step ok s (bI ha)
theorem aV.GI {o:HO}{m m':MO}(ok:aV K st H)(h:st a=some m)(r:vB K (upd H a o) a m'):aV K (put st a m') (upd H a o):=fun b u e=>by
 have s:Step H st (upd H a o) (put st a m'):=lR h
 by_cases ha:b=a
 ·subst ha
  rw[aQ]at e;cases e
  exact r
 ·rw[aM ha]at e
  exact(ok b u e).step ok s (bI ha)
theorem QD.set {R:VK}(ok:aV K st H){m:MO}(h:st a=some m)(r:aL K H ds vs)(rd:Rep K H d v)(q:R d (put st a (.lst ds))):QD K H st R v (upd H a (.lst vs)) :=
 ⟨d,put st a (.lst ds),lR h,ok.set h r,rd.step ok (lR (m':=.lst ds) h),q⟩
end
def dO (K:aa)(H:Hp)(σd:St)(σ:L2.St):Prop:=σd.length=σ.length/\∀(i:Nat)(d:D),σd[i]? = some (some d)->∃ v,σ[i]? = some (some v)/\Rep K H d v
theorem dO.step {K:aa}{H H':Hp}{st aA:aB}{σd:St}{σ:L2.St}(r:dO K H σd σ)(ok:aV K st H)(s:Step H st H' aA):dO K H' σd σ :=
 ⟨r.1,fun i d e=>let⟨v,e1,e2⟩:=r.2 i d e;⟨v,e1,e2.step ok s⟩⟩
theorem dO.set {K:aa}{H:Hp}{σd:St}{σ:L2.St}{d:D}{v:V}(r:dO K H σd σ)(i:Nat)(h:Rep K H d v):dO K H (σd.set i (some d)) (σ.set i (some v)):=by
 refine⟨by simpa using r.1,fun j e hj=>?_⟩
 by_cases q:j=i
 ·subst q
  by_cases hl:j<σd.length
  ·rw[kr hl]at hj
   cases hj
   exact⟨v,by rw[kr (by rw[<-r.1];exact hl)],h⟩
  ·rw[cx (by simp;omega)]at hj;cases hj
 ·rw[ig (ey q)]at hj
  obtain⟨u,e1,e2⟩:=r.2 j e hj
  exact⟨u,by rw[ig (ey q)];exact e1,e2⟩
abbrev Jl:=St->aB->VK->Prop
inductive cA (K:aa)(te:Jl)(σ:L2.St)(H:Hp)(Q:L2.VK):Prop where
 |mk (σd:St)(st:aB)(R:VK)(r:dO K H σd σ)(ok:aV K st H)(q:te σd st R)(hq:∀ v H',QD K H st R v H'->Q v H'):cA K te σ H Q
inductive lW (K:aa)(te:St->aB->(List D->aB->Prop)->Prop)(σ:L2.St)(H:Hp)(Q:List V->Hp->Prop):Prop where
 |mk (σd:St)(st:aB)(R:List D->aB->Prop)(r:dO K H σd σ)(ok:aV K st H)(q:te σd st R)(hq:∀ vs H',Pe K H st R vs H'->Q vs H'):lW K te σ H Q
inductive kJ (K:aa)(te:Jl)(σ:L2.St)(H:Hp)(Q:Bool->Hp->Prop):Prop where
 |mk (σd:St)(st:aB)(R:Bool->aB->Prop)(r:dO K H σd σ)(ok:aV K st H)(q:te σd st (fun d aA=>eS d aA fun b=>R b aA))(hq:∀(b:Bool) H',QX K H st (R b) H'->Q b H'):kJ K te σ H Q
theorem _root_.L2.PE.imp {X:Cx}{e:Expr}{t t':L2.TE}(i:∀ σ H Q,t' σ H Q->t σ H Q)(h:PE X e t):PE X e t':=fun pz s σ H Q I q=>h pz s σ H Q I (i σ H Q q)
theorem _root_.L2.PT.imp {X:Cx}{e:Expr}{t t':L2.TT}(i:∀ σ H Q,t' σ H Q->t σ H Q)(h:PT X e t):PT X e t':=fun pz s σ H Q I q=>h pz s σ H Q I (i σ H Q q)
theorem _root_.L2.PW.imp {X:Cx}{e:Expr}{t t':L2.TT}(i:∀ σ H Q,t' σ H Q->t σ H Q)(h:PW X e t):PW X e t':=fun wh pz s σ H Q I q=>h wh pz s σ H Q I (i σ H Q q)
theorem _root_.L2.PA.imp {X:Cx}{es:List Expr}{t t':L2.TA}(i:∀ σ H Q,t' σ H Q->t σ H Q)(h:PA X es t):PA X es t':=fun pos pz s σ H Q I q=>h pos pz s σ H Q I (i σ H Q q)
theorem _root_.L2.PS.imp {X:Cx}{e:Stmt}{t t':L2.TS}(i:∀ D σ H,t' D σ H->t D σ H)(h:PS X e t):PS X e t':=fun pz s σ H D I q=>h pz s σ H D I (i D σ H q)
theorem _root_.L2.lQ.imp {X:Cx}{e:List Stmt}{t t':L2.TS}(i:∀ D σ H,t' D σ H->t D σ H)(h:lQ X e t):lQ X e t':=fun pz s σ H D I q=>h pz s σ H D I (i D σ H q)
theorem gD:sizeLine=bH:=j5
section
variable {X:Cx}{C:bE}{sub:Nat->Nat->Bool}{E:XK}{a b c e:Expr}{x y z:Ex}{pos:Pos}
theorem wA {d:D}{v:V}(h:PE X e (tC v))(r:∀ H,Rep X.K H d v):PE X e (cA X.K (aG C sub E (.c d))) :=
 h.imp fun σ H Q ⟨σd,st,R,_,ok,q,hq⟩=>by
 exact hq v H (.here ok (r H) q)
set_option tactic.hygienic true in
theorem RE {i:Nat}(h:PE X e (XX i)):PE X e (cA X.K (aG C sub E (.v i))) :=
 h.imp fun σ H Q ⟨σd,st,R,r,ok,q,hq⟩=>by
 have q:eF σd i (fun d=>R d st):=q
 unfold eF at q
 split at q
 ·rename_i d ed
  obtain⟨v,e1,e2⟩:=r.2 i d ed
  exact⟨v,e1,hq v H (.here ok e2 q)⟩
 ·exact q.elim
theorem Ov:PA X [] (lW X.K (bQ C sub E [])) :=
 UZ.imp fun σ H Q ⟨σd,st,R,r,ok,q,hq⟩=>by
 exact hq [] H ⟨[],st,.refl,ok,.nil,q⟩
theorem Es {es:List Expr}{xs:List Ex}(h:PE X e (cA X.K (aG C sub E x)))(hs:PA X es (lW X.K (bQ C sub E xs)))
 (dN:ao (e::es) X.env=(false,eval e X.env)::ao es X.env):PA X (e::es) (lW X.K (bQ C sub E (x::xs))) :=
 (FU h hs dN).imp fun σ H Q ⟨σd,st,R,r,ok,q,hq⟩=>by
 refine⟨σd,st,_,r,ok,q,fun v H1 ⟨d,aC,s1,aS,r1,q1⟩=>?_⟩
 refine⟨σd,aC,_,r.step ok s1,aS,q1,fun vs H2 ⟨ds,aF,s2,bW,r2,q2⟩=>?_⟩
 exact hq _ _ ⟨d::ds,aF,s1.trans s2,bW,.cons (r1.step aS s2) r2,q2⟩
theorem xS:∀(xs:List Ex){σ:St}{st:aB}{R:List D->aB->Prop},bZ C C->bQ C sub E xs σ st R->bQ C sub E xs σ st (fun ds aA=>ds.length=xs.length/\R ds aA)
 |[],σ,st,R,_,h=>by exact⟨rfl,h⟩
 |x::xs,σ,st,R,hC,h=>by
  refine aY hC (fun _ _ z=>z) x (fun d aA h'=>?_) h
  exact cZ hC (fun _ _ z=>z) xs (fun ds aZ z=>⟨by simp [z.1],z.2⟩) (xS xs hC h')
theorem Mn {es:List Expr}{xs:List Ex}{k:Nat}(hC:bZ C C)(hs:PA X es (lW X.K (bQ C sub E xs)))(hl:xs.length<=bH):PE X (.Tuple es k pos) (cA X.K (aG C sub E (.tup xs))) :=
 (En hs).imp fun σ H Q ⟨σd,st,R,r,ok,q,hq⟩=>by
 refine⟨σd,st,_,r,ok,xS xs hC q,fun vs H1 ⟨ds,aC,s1,aS,r1,l1,q1⟩=>⟨?_,fun p hp=>?_⟩⟩
 ·rw[gD,<-r1.length,l1];exact hl
 ·exact hq _ _ (.after s1 (.MP aS r1 hp q1))
theorem Oq {es:List Expr}{xs:List Ex}(hs:PA X es (lW X.K (bQ C sub E xs))):PE X (.List es pos) (cA X.K (aG C sub E (.lst xs))) :=
 (Fp hs).imp fun σ H Q ⟨σd,st,R,r,ok,q,hq⟩=>by
 refine⟨σd,st,_,r,ok,q,fun vs H1 ⟨ds,aC,s1,aS,r1,q1⟩=>⟨?_,fun p hp=>?_⟩⟩
 ·rw[gD,<-r1.length];exact q1.1
 ·exact hq _ _ (.after s1 (.iP aS r1 hp q1.2))
theorem two {r:R2}{te tf:Jl}{σ:L2.St}{H:Hp}{Q:L2.VK}{σd:St}{st:aB}{W:D->D->aB->Prop}{R:VK}
 (sr:dO X.K H σd σ)(ok:aV X.K st H)(q:te σd st fun d aC=>tf σd aC fun d' aF=>W d d' aF)(hq:∀ v H',QD X.K H st R v H'->Q v H')
 (op:∀ d d' v v' H2 aF,aV X.K aF H2->Rep X.K H2 d v->Rep X.K H2 d' v'->W d d' aF->r v v' H2 (QD X.K H2 aF R))
 (mono:∀ v v' H (Q Q':L2.VK),(∀ v H,Q v H->Q' v H)->r v v' H Q->r v v' H Q'):Ga r (cA X.K te) (cA X.K tf) σ H Q:=by
 refine⟨σd,st,_,sr,ok,q,fun v H1 ⟨d,aC,s1,aS,r1,q1⟩=>?_⟩
 refine⟨σd,aC,_,sr.step ok s1,aS,q1,fun v' H2 ⟨d',aF,s2,bW,r2,q2⟩=>?_⟩
 refine mono _ _ _ _ _ (fun u H' z=>hq u H' (.after (s1.trans s2) z)) (op d d' v v' H2 aF bW (r1.step aS s2) r2 q2)
theorem LZ {g:Int->Int->V}(v v':V)(H:Hp)(Q Q':L2.VK)(h:∀ v H,Q v H->Q' v H)(z:L7 g v v' H Q):L7 g v v' H Q':=let⟨i,j,e,e',q⟩:=z;⟨i,j,e,e',h _ _ q⟩
theorem BG {P:Int->Int->Prop}{g:Int->Int->V}(v v':V)(H:Hp)(Q Q':L2.VK)(h:∀ v H,Q v H->Q' v H)(z:rI P g v v' H Q):rI P g v v' H Q':=let⟨i,j,e,e',p,q⟩:=z;⟨i,j,e,e',p,h _ _ q⟩
end
theorem DC:fillsNumberSlot (.type "tuple") "mul" = pure false:=by kernel_rfl
theorem L9:seqRepeat? (.type "tuple")=pure (some (.builtin "tuple.__mul__")):=by kernel_rfl
theorem FZ (a:Int)(t:Tok)(l:Addr)(items:Array ae)(n:Nat)(dd:Option Addr)(sl:Array (Option ae)):
 Meets (Builtin.«int.__rmul__» ⟨[.int a t,.ref l],[]⟩) (fun _ R s=>s.heap.get? l=some { cls:=.type "tuple", dict:=dd,data:=.seq items n,slots:=sl }/\R (.ok (.ret Value.notImplemented)) s) :=
 .of_wp fun prog w A R s h=>by obtain⟨hp,g,d,tk,os⟩:=s;obtain⟨hl,h⟩:=h;wp_walk;exact⟨_,rfl,h⟩
section
variable {prog:bu}{w:de}{A:cb}{E:ae->ag->Prop}{s:ag}
theorem MX {l:Addr}{items:Array ae}{n:Nat}{dd:Option Addr}{sl:Array (Option ae)}{k:Int}{t:Tok}{Q:PySem.Fin->ag->Prop}(hl:s.heap.get? l=some { cls:=.type "tuple", dict:=dd,data:=.seq items n,slots:=sl })
  (h1:1<=k)(h2:k<1000)(hm:0<items.size)(hm2:items.size<=1000)(pR:k=1->Q (.done (.ret (.ref l))) s)
  (h:Q (.done (.ret (.ref s.heap.objs.size))) { s with heap:=s.heap.push { cls:=.type "tuple", data:=.seq ((ak k.toNat items).foldl (·++ ·) #[]) } }):
  wpAny (model prog w) A (Builtin.«tuple.__mul__» ⟨[.ref l,.int k t],[]⟩) Q E s:=by
 have hT:s.TypeIs (.ref l) "tuple":=⟨_,hl,rfl⟩
 unfold Builtin.«tuple.__mul__»
 wp_walk
 rw[if_neg (by simp;omega)]
 show wpAny _ _ (gv (.ref l) >>= _) _ _ s
 refine af (yg hl rfl ?_)
 have hne:items.isEmpty=false:=by
  rw[Array.isEmpty_eq_false_iff];intro z;rw[z]at hm;simp at hm
 have jp:wpAny (model prog w) A (if(decide (k<=0)||items.isEmpty)=true then do
     let __do_lift <-gb #[]
     ret __do_lift
    else
     have __do_jp:=fun(__r:Unit) =>
      have __do_jp:=fun(__r:Unit)=>do
       let __do_lift <-
        gb (oz (fun x1 x2=>x1++x2) #[] (ak k.toNat items))
       ret __do_lift;
      if rj (↑items.size*k)=true then do
       let __r <-unsupported "tuple.__mul__:memory"
       __do_jp __r
      else __do_jp ();
     if ↑items.size*k>(2 ^ 63-1) / 8 then do
      rule "tuple.repeat.no-memory"
      let __do_lift <-Ws (fz "MemoryError") []
      let __r <-raiseNew __do_lift
      __do_jp __r
     else __do_jp ()) Q E s:=by
  rw[if_neg (by rw[hne];simp;omega)]
  have hmul:(items.size:Int)*k<=1000*1000:=Int.mul_le_mul (by omega) (by omega) (by omega) (by decide)
  have hmul0:0<=(items.size:Int)*k:=Int.mul_nonneg (by omega) (by omega)
  dsimp only
  rw[if_neg (by omega),if_neg (by simp [rj,j5];omega)]
  wp_walk
  have lE:¬(oz (fun x1 x2=>x1++x2) #[] (ak k.toNat items)).size>sizeLine:=by
   have e1:=w9 items.toList k.toNat []
   rw[a9]at e1
   have e2:oz (fun x1 x2=>x1++x2) #[] (ak k.toNat items)=(ak k.toNat items.toList).flatten.toArray:=by simpa using e1
   rw[e2,av,List.length_flatten,List.map_replicate,List.sum_replicate_nat,jf,j5]
   have:k.toNat*items.size<=1000*1000:=Uv (by omega) hm2
   omega
  rw[if_neg lE]
  wp_walk
  exact h
 show wpAny _ _ (if(items.isEmpty||k==1)=true then _ else _) _ _ s
 by_cases hk:k=1
 ·subst hk
  rw[if_pos (by simp)]
  wp_walk
  exact pR rfl
 ·rw[if_neg (by rw[hne];simpa using hk)]
  exact jp
end
noncomputable def YS (K:aa):R2:=fun x y H Q=>∃(a:Addr)(k:Int)(xs:List V),x=.ref a/\y=.int k/\eU K H a xs/\0<xs.length/\xs.length<=1000/\1<=k/\k<1000/\(k=1->Q (.ref a) H)/\∀ p,H p=none->Q (.ref p) (upd H p (.tup (ak k.toNat xs).flatten))
theorem ZL {X:Cx}:iT X (iq .Mult) (YS X.K):=by
 intro pz s σ H x y v u Q I rx ry h
 obtain⟨a,k,xs,rfl,rfl,hH,h0,h00,h1,h2,pR,q⟩:=h
 cases rx
 obtain⟨t,rfl⟩:=ry
 obtain⟨aD,r,⟨⟨cls,dd,data,sl⟩,ho,hc,n,hd⟩,z⟩:=I.tuple hH
 simp only at hc hd
 subst hc hd
 have hl:xs.length=aD.length:=r.length
 have hnew:oz (fun x1 x2=>x1++x2) #[] (ak k.toNat aD.toArray)=(ak k.toNat aD).flatten.toArray:=by
  have:=w9 aD k.toNat []
  rw[a9]at this
  exact this
 refine rq (T :="tuple") (U :="int") (by decide) ⟨_,ho,rfl⟩ (fun s'=>yf s' k t) DC PySem.F.fills_int_mul v5 L9 PySem.F.slot_int_index.lookup
  (ni v5 (yf s k t) PySem.F.entry_int_rmul (PySem.F.args_int_rmul_2 _ _) (FZ k t a aD.toArray n dd sl)
   ⟨ho,rfl,⟨_,ho,rfl⟩,fu PySem.F.slot_tuple_mul ⟨_,ho,rfl⟩ PySem.F.entry_tuple_mul (MX ho h1 h2 (by simpa [<-hl]using h0) (by simpa [<-hl]using h00) (fun e=>?_) ?_) (PySem.F.args_tuple_mul_2 _ _)⟩)
 ·exact⟨_,rfl,.ref a,H,I,rfl,pR e⟩
 ·refine⟨_,rfl,.ref s.heap.objs.size,_,I.laid (a:=s.heap.objs.size) (o:=.tup (ak k.toNat xs).flatten) (t':=s.toks) (fun b u e=>ai _ e) (az _) ?_,rfl,q _ (I.bT.fresh (az _))⟩
  refine⟨by rw[len_rep,j5];have:k.toNat*xs.length<=1000*1000:=Uv (by omega) h00;omega,_,r.rep k.toNat,?_⟩
  rw[hnew]
  exact rH.new s.heap _
section
variable {X:Cx}
theorem Al {prog:bu}{w:de}{A:cb}{E:ae->ag->Prop}{s:ag}{t b:Addr}{ws:List ae}{Q:ae->ag->Prop}(ht:IsTup s.heap t #[])(hb:IsTup s.heap b ws.toArray)
  (h:Q (.ref b) s):wpAny (model prog w) A (iq .Add (.ref t) (.ref b)) Q E s:=by
 obtain⟨⟨cls,dd,data,sl⟩,ho,hc,n,hd⟩:=id ht
 obtain⟨⟨cls2,dd2,data2,sl2⟩,ho2,hc2,n2,hd2⟩:=id hb
 simp only at hc hd hc2 hd2
 subst hc hd hc2 hd2
 exact yt ⟨_,ho,rfl⟩ ⟨_,ho2,rfl⟩ ub xm om nv (mo _ _)
  (tuple_addW0 t b #[] ws.toArray n n2 dd dd2 sl sl2 (by simp)) ⟨ho,ho2,h⟩
noncomputable def YL (K:aa):R2:=fun x y H Q=>∃ a b ys,x=.ref a/\y=.ref b/\eU K H a []/\eU K H b ys/\Q (.ref b) H
theorem Av:iT X (iq .Add) (YL X.K):=by
 intro pz s σ H x y v u Q I rx ry h
 obtain⟨a,b,ys,rfl,rfl,ha,hb,q⟩:=h
 cases rx
 cases ry
 obtain⟨aD,r1,p1,_⟩:=I.tuple ha
 obtain⟨oZ,r2,p2,_⟩:=I.tuple hb
 have e:aD=[]:=r1.A9.mpr rfl
 subst e
 exact Al p1 p2 ⟨.ref b,H,I,rfl,q⟩
noncomputable def Ny:R2:=fun x y H Q=>∃ i j,x=.str i/\y=.str j/\i.length+j.length<=sizeLine/\Q (.str (i++j)) H
noncomputable abbrev YJ (K:aa):R2:=fun x y H Q=>L7 (fun i j=>.int (i+j)) x y H Q∨Ny x y H Q∨YV K x y H Q∨YL K x y H Q∨Hw x y H Q
theorem Ck:iT X (iq .Add) (YJ X.K):=iT.or Ie (iT.or QM (iT.or Bx (iT.or Av Gb)))
noncomputable abbrev ZD (K:aa):R2:=fun x y H Q=>rI QT (fun i j=>.int (i*j)) x y H Q∨Dr x y H Q∨YS K x y H Q
theorem Bo:iT X (iq .Mult) (ZD X.K):=iT.or Ek (iT.or Dh ZL)
noncomputable def Jv:vP->Operator
 |.add=>.Add|.sub=>.Sub|.mul=>.Mult|.fdiv=>.FloorDiv|.mod=>.Mod|.pow=>.Pow
noncomputable def QA (K:aa):vP->R2
 |.add=>YJ K
 |.sub=>L7 fun i j=>.int (i-j)
 |.mul=>ZD K
 |.fdiv=>rI Iv fun i j=>.int (i / j)
 |.mod=>rI (fun _ j=>0<j) fun i j=>.int (i % j)
 |.pow=>rI Fs fun i j=>.int (i ^ j.toNat)
theorem Ft:∀ op:vP,iT X (iq (Jv op)) (QA X.K op)
 |.add=>Ck
 |.sub=>Iy
 |.mul=>Bo
 |.fdiv=>Cb
 |.mod=>Ej
 |.pow=>Jd
theorem VA {K:aa}:∀(op:vP)(v v':V)(H:Hp)(Q Q':L2.VK),(∀ v H,Q v H->Q' v H)->QA K op v v' H Q->QA K op v v' H Q'
 |.add,v,v',H,Q,Q',h,z=>by
  rcases z with z|⟨i,j,e,e',l,q⟩|⟨a,b,xs,ys,e,e',s,s',n,l,q,q'⟩|⟨a,b,ys,e,e',s,s',q⟩|⟨l,b,xs,zs,e,e',s,s',n,q⟩
  ·exact .inl (LZ _ _ _ _ _ h z)
  ·exact .inr (.inl ⟨i,j,e,e',l,h _ _ q⟩)
  ·exact .inr (.inr (.inl ⟨a,b,xs,ys,e,e',s,s',n,l,fun z=>h _ _ (q z),fun z p hp=>h _ _ (q' z p hp)⟩))
  ·exact .inr (.inr (.inr (.inl ⟨a,b,ys,e,e',s,s',h _ _ q⟩)))
  ·exact .inr (.inr (.inr (.inr ⟨l,b,xs,zs,e,e',s,s',n,fun p hp=>h _ _ (q p hp)⟩)))
 |.sub,v,v',H,Q,Q',h,z=>LZ _ _ _ _ _ h z
 |.mul,v,v',H,Q,Q',h,z=>by
  rcases z with z|⟨l,k,xs,e,e',s,b1,b2,b3,q⟩|⟨l,k,xs,e,e',s,b1,b2,b3,b4,q0,q⟩
  ·exact .inl (BG _ _ _ _ _ h z)
  ·exact .inr (.inl ⟨l,k,xs,e,e',s,b1,b2,b3,fun p hp=>h _ _ (q p hp)⟩)
  ·exact .inr (.inr ⟨l,k,xs,e,e',s,b1,b2,b3,b4,fun z=>h _ _ (q0 z),fun p hp=>h _ _ (q p hp)⟩)
 |.fdiv,v,v',H,Q,Q',h,z=>BG _ _ _ _ _ h z
 |.mod,v,v',H,Q,Q',h,z=>BG _ _ _ _ _ h z
 |.pow,v,v',H,Q,Q',h,z=>BG _ _ _ _ _ h z
end
section
variable {K:aa}{H:Hp}{st:aB}{R:VK}
theorem Rep.int_inv {i:Int}{v:V}(r:Rep K H (.int i) v):v=.int i:=by cases r;rfl
theorem Rep.str_inv {x:List Nat}{v:V}(r:Rep K H (.str x) v):v=.str ⟨x.toArray⟩:=by cases r;rfl
theorem Rep.fX {b:Bool}{v:V}(r:Rep K H (.bl b) v):v=.bl b:=by cases r;rfl
theorem Rep.gC {v:V}(r:Rep K H .non v):v=.non:=by cases r;rfl
theorem Rep.cV {a:Addr}{v:V}(r:Rep K H (.ref a) v):v=.ref a:=by cases r;rfl
theorem Rep.bX {ds:List D}{v:V}(r:Rep K H (.tup ds) v):∃ a vs,v=.ref a/\eU K H a vs/\aL K H ds vs:=by cases r with|tup h r=>exact⟨_,_,rfl,h,r⟩
theorem Rep.NA {ks vs:List D}{v:V}(r:Rep K H (.dE ks vs) v):∃ a,v=.ref a/\Ew K a ks vs:=by cases r with|dE h=>exact⟨_,rfl,h⟩
theorem Rep.lZ {ds:List D}{v:V}(r:Rep K H (.bO ds) v):∃ a vs,v=.ref a/\nA K H a vs/\aL K H ds vs:=by cases r with|bO h r=>exact⟨_,_,rfl,h,r⟩
set_option tactic.hygienic true in
theorem eH {a:Nat}{P:List D->Prop}(h:cR st a P):∃ ds,st a=some (.lst ds)/\P ds:=by
 unfold cR at h
 split at h
 ·rename_i ds e;exact⟨ds,e,h⟩
 ·exact h.elim
set_option tactic.hygienic true in
theorem tW {a:Nat}{P:List D->Prop}{M:List D->List D->Prop}(ok:aV K st H)(h:dX st a P M):∃ ds,st a=some (.lst ds)/\P ds:=by
 unfold dX at h
 split at h
 ·rename_i ds e;exact⟨ds,e,h⟩
 ·rename_i e;exact(ok _ _ e).elim
 ·exact h.elim
theorem fA {α:Type}{o:Option α}{P:α->Prop}(h:dG o P):∃ x,o=some x/\P x:=by
 unfold dG at h
 split at h
 ·exact⟨_,rfl,h⟩
 ·exact h.elim
theorem Cu (x y:List Nat):(⟨x.toArray⟩:Str)++⟨y.toArray⟩=⟨(x++y).toArray⟩:=by
 show Str.mk _=Str.mk _
 simp
theorem aL.nil_inv {vs:List V}(r:aL K H [] vs):vs=[]:=by cases r;rfl
theorem aL.flat {ds:List D}{vs:List V}(r:aL K H ds vs):∀ k:Nat,aL K H (ak k ds).flatten (ak k vs).flatten
 |0=>.nil
 |k+1=>by simp only[jh,lz];exact r.append (aL.flat r k)
set_option tactic.hygienic true in
theorem S4 {op:vP}{d d':D}{v v':V}(ok:aV K st H)(r:Rep K H d v)(r':Rep K H d' v')(h:iM op d d' st R):QA K op v v' H (QD K H st R):=by
 unfold iM at h
 split at h
 ·cases r.int_inv;cases r'.int_inv
  exact .inl ⟨_,_,rfl,rfl,.here ok (.int _) h⟩
 ·rename_i a b
  cases r.str_inv;cases r'.str_inv
  refine .inr (.inl ⟨_,_,rfl,rfl,?_,?_⟩)
  ·rw[gD];simpa [kc]using h.1
  ·rw[Cu];exact .here ok (.str _) h.2
 ·rename_i ds es
  obtain⟨a,vs,rfl,s1,q1⟩:=r.bX
  obtain⟨b,us,rfl,s2,q2⟩:=r'.bX
  cases ds with
  |nil =>
   cases q1.nil_inv
   exact .inr (.inr (.inr (.inl ⟨a,b,us,rfl,rfl,s1,s2,.here ok r' (by simpa using h.2)⟩)))
  |cons d ds =>
   refine .inr (.inr (.inl ⟨a,b,vs,us,rfl,rfl,s1,s2,?_,?_,fun e=>?_,fun _ p hp=>.MP ok (q1.append q2) hp h.2⟩))
   ·intro e;subst e;cases q1
   ·rw[gD,<-q1.length,<-q2.length];exact h.1
   ·subst e
    cases q2
    exact .here ok r (by simpa using h.2)
 ·rename_i a b
  cases r.cV;cases r'.cV
  obtain⟨xs,e1,h⟩:=eH h
  obtain⟨ys,e2,h⟩:=eH h
  obtain⟨vs,g1,q1⟩:=ok.lst e1
  obtain⟨us,g2,q2⟩:=ok.lst e2
  refine .inr (.inr (.inr (.inr ⟨a,b,vs,us,rfl,rfl,g1,g2,?_,fun p hp=>.iP ok (q1.append q2) hp h.2⟩)))
  rw[gD,<-q1.length,<-q2.length];simpa using h.1
 ·cases r.int_inv;cases r'.int_inv
  exact⟨_,_,rfl,rfl,.here ok (.int _) h⟩
 ·cases r.int_inv;cases r'.int_inv
  exact .inl ⟨_,_,rfl,rfl,h.1.imp (fun z=>z) (fun z=>z),.here ok (.int _) h.2⟩
 ·rename_i a k
  cases r.cV;cases r'.int_inv
  obtain⟨xs,e1,h1,h2,h⟩:=eH h
  obtain⟨vs,g1,q1⟩:=ok.lst e1
  refine .inr (.inl ⟨a,k,vs,rfl,rfl,g1,by omega,by omega,?_,fun p hp=>.iP ok (q1.flat _) hp h.2⟩)
  rw[gD,<-q1.length];exact h1
 ·rename_i xs k
  obtain⟨a,vs,rfl,f,g⟩:=r.bX
  cases r'.int_inv
  obtain⟨⟨c1,c2,c3,c4⟩,h⟩:=h
  refine .inr (.inr ⟨a,k,vs,rfl,rfl,f,by rw[<-g.length];exact c1,by rw[<-g.length];exact c2,c3,c4,fun e=>?_,fun p hp=>.MP ok (g.flat _) hp h⟩)
  subst e
  have e1:(ak (1:Int).toNat xs).flatten=xs:=by simp
  rw[e1]at h
  exact .here ok r h
 ·cases r.int_inv;cases r'.int_inv
  exact⟨_,_,rfl,rfl,h.1,.here ok (.int _) h.2⟩
 ·cases r.int_inv;cases r'.int_inv
  exact⟨_,_,rfl,rfl,h.1,.here ok (.int _) h.2⟩
 ·cases r.int_inv;cases r'.int_inv
  exact⟨_,_,rfl,rfl,h.1,.here ok (.int _) h.2⟩
 ·exact h.elim
end
section
variable {X:Cx}{C:bE}{sub:Nat->Nat->Bool}{E:XK}{a b c e:Expr}{x y z:Ex}{pos:Pos}
theorem Nf {op:vP}(ha:PE X a (cA X.K (aG C sub E x)))(hb:PE X b (cA X.K (aG C sub E y))):PE X (.BinOp a (Jv op) b pos) (cA X.K (aG C sub E (.bin op x y))) :=
 (Mi (Ft op) ha hb).imp fun σ H Q ⟨σd,st,R,r,ok,q,hq⟩=>by
 exact two (W:=fun d d' aF=>iM op d d' aF R) r ok q hq (fun d d' v v' H2 aF bW r1 r2 h=>S4 bW r1 r2 h) (VA op)
noncomputable def Rt (d:D)(st:aB):Option Bool:=match d with
 |.non=>some false
 |.bl b=>some b
 |.int i=>some (i != 0)
 |.str x=>if x.length<=bH then some (!x.isEmpty)else none
 |.tup ds=>some (!ds.isEmpty)
 |.ref a=>match st a with
  |some (.lst ds)=>some (!ds.isEmpty)
  |some (.dic ks _)=>some (!ks.isEmpty)
  |some _=>none
  |none=>none
 |.bO ds=>some (!ds.isEmpty)
 |_=>none
set_option tactic.hygienic true in
theorem xE {d:D}{st:aB}{P:Bool->Prop}:eS d st P↔∃ k,Rt d st=some k/\P k:=by
 cases d with
 |str x =>
  show(x.length<=bH/\P (!x.isEmpty))↔∃ k,(if x.length<=bH then some (!x.isEmpty)else none)=some k/\P k
  split
  ·rename_i h;exact⟨fun z=>⟨_,rfl,z.2⟩,fun⟨k,e,q⟩=>⟨h,by cases e;exact q⟩⟩
  ·rename_i h;exact⟨fun z=>(h z.1).elim,fun⟨k,e,q⟩=>by cases e⟩
 |ref a =>
  show dX st a _ _↔∃ k,(match st a with|some (.lst ds)=>some (!ds.isEmpty)|some (.dic ks _)=>some (!ks.isEmpty)|some _=>none|none=>none)=some k/\P k
  unfold dX
  cases st a with
  |none=>exact⟨fun z=>z.elim,fun⟨k,e,q⟩=>by cases e⟩
  |some o=>cases o with
   |lst ds=>exact⟨fun z=>⟨_,rfl,z⟩,fun⟨k,e,q⟩=>by cases e;exact q⟩
   |dic ks vs=>exact⟨fun z=>⟨_,rfl,z⟩,fun⟨k,e,q⟩=>by cases e;exact q⟩
   |ins _ _=>exact⟨fun z=>z.elim,fun⟨k,e,q⟩=>by cases e⟩
   |tab _ _=>exact⟨fun z=>z.elim,fun⟨k,e,q⟩=>by cases e⟩
   |fn _ _=>exact⟨fun z=>z.elim,fun⟨k,e,q⟩=>by cases e⟩
   |cod _=>exact⟨fun z=>z.elim,fun⟨k,e,q⟩=>by cases e⟩
 |dE _ _=>exact⟨fun z=>z.elim,fun⟨k,e,q⟩=>by cases e⟩
 |exc _=>exact⟨fun z=>z.elim,fun⟨k,e,q⟩=>by cases e⟩
 |_=>exact⟨fun z=>⟨_,rfl,z⟩,fun⟨k,e,q⟩=>by cases e;exact q⟩
theorem jL {α:Type}(x:List α):(!x.isEmpty)=(((x.length:Nat):Int) != 0):=by
 cases x with
 |nil=>rfl
 |cons a r =>
 simp only[yv,kj,bf]
 symm
 rw[bne_iff_ne];omega
set_option tactic.hygienic true in
theorem uN {K:aa}{H:Hp}{st:aB}{d:D}{v:V}{P:Bool->Prop}(ok:aV K st H)(r:Rep K H d v)(h:eS d st P):∃ k,WY K v H k/\P k:=by
 unfold eS at h
 split at h
 ·cases r.gC;exact⟨_,rfl,h⟩
 ·cases r.fX;exact⟨_,rfl,h⟩
 ·cases r.int_inv;exact⟨_,rfl,h⟩
 ·rename_i x P
  cases r.str_inv
  refine⟨_,⟨by rw[gD];simpa [kc]using h.1,?_⟩,h.2⟩
  rw[jL];simp [kc]
 ·obtain⟨a,vs,rfl,s1,q1⟩:=r.bX
  refine⟨_,.inr (.inl ⟨vs,s1,?_⟩),h⟩
  rw[jL,jL,q1.length]
 ·cases r.cV
  obtain⟨ds,e,h⟩:=tW ok h
  obtain⟨vs,g,q⟩:=ok.lst e
  refine⟨_,.inl ⟨vs,eT.of g,?_⟩,h⟩
  rw[jL,jL,q.length]
 ·obtain⟨a,vs,rfl,s1,q1⟩:=r.lZ
  refine⟨_,.inl ⟨vs,s1.sq,?_⟩,h⟩
  rw[jL,jL,q1.length]
 ·exact h.elim
theorem WO (h:PE X e (cA X.K (aG C sub E x)))(he:∀ whole,zk e X.env whole=(do let v <-whole;n5 e.pos;kg [v] (Wq v))):PT X e (kJ X.K (aG C sub E x)) :=
 (XU h he).imp fun σ H Q ⟨σd,st,R,r,ok,q,hq⟩=>by
 refine⟨σd,st,_,r,ok,q,fun v H1 ⟨d,aC,s1,aS,r1,q1⟩=>?_⟩
 obtain⟨k,t,z⟩:=uN aS r1 q1
 exact⟨k,t,hq _ _ ⟨aC,s1,aS,z⟩⟩
theorem Dt (h:PT X e (kJ X.K (aG C sub E x))):PT X (.UnaryOp .Not e pos) (kJ X.K (aG C sub E (.not_ x))) :=
 (Hj h).imp fun σ H Q ⟨σd,st,R,r,ok,q,hq⟩=>by
 exact⟨σd,st,fun b aA=>R (!b) aA,r,ok,q,fun b H1 z=>hq _ _ z⟩
theorem Ml (h:PE X e (cA X.K (aG C sub E x))):PE X (.UnaryOp .Not e pos) (cA X.K (aG C sub E (.not_ x))):=by
 intro pz s σ H Q I ⟨σd,st,R,r,ok,q,hq⟩
 refine UnaryOp_ (bD (h pz s σ H _ I ⟨σd,st,_,r,ok,q,fun v H' z=>z⟩) fun u s1 ⟨v,H1,I1,rv,d,aC,st1s,aS,r1,q1⟩=>?_)
 obtain⟨k,t,z⟩:=uN aS r1 q1
 exact not_of (bD (EH pz s1 σ H1 v u (fun b H'=>Q (.bl (!b)) H') I1 rv ⟨k,t,hq _ _ (.after st1s (.here aS (.bl _) z))⟩) fun b s2 ⟨H2,I2,w⟩=>⟨.bl (!b),H2,I2,rfl,w⟩)
theorem Ih {op:Wt}(h:PT X e (kJ X.K (aG C sub E x))):PW X (.BoolOp op [e] pos) (kJ X.K (aG C sub E x)):=by
 cases op
 ·exact Bz h
 ·exact Gn h
theorem Gf {rest:List Expr}(hC:bZ C C)(ha:PT X a (kJ X.K (aG C sub E x)))(hb:PW X (.BoolOp .And (b::rest) pos) (kJ X.K (aG C sub E y))):PW X (.BoolOp .And (a::b::rest) pos) (kJ X.K (aG C sub E (.and_ x y))) :=
 (Fg ha hb).imp fun σ H Q ⟨σd,st,R,r,ok,q,hq⟩=>by
 refine⟨σd,st,fun k aC=>if k=true then aG C sub E y σd aC (fun d aA=>eS d aA fun b=>R b aA)else R false aC,r,ok,aY hC (fun _ _ z=>z) x (fun d aC z=>?_) q,fun k H1 ⟨aC,s1,aS,z⟩=>?_⟩
 ·rw[xE]at z ⊢
  obtain⟨k,t,z⟩:=z
  refine⟨k,t,?_⟩
  cases k with
  |true=>exact z
  |false =>
  have z':eS d aC fun b=>R b aC:=z
  rw[xE]at z'
  obtain⟨k',t',z'⟩:=z'
  rw[t]at t';cases t'
  exact z'
 ·cases k with
  |true=>exact⟨σd,aC,R,r.step ok s1,aS,z,fun k H2 ⟨aF,s2,bW,w⟩=>hq _ _ ⟨aF,s1.trans s2,bW,w⟩⟩
  |false=>exact hq _ _ ⟨aC,s1,aS,z⟩
theorem Ly {rest:List Expr}(hC:bZ C C)(ha:PT X a (kJ X.K (aG C sub E x)))(hb:PW X (.BoolOp .Or (b::rest) pos) (kJ X.K (aG C sub E y))):PW X (.BoolOp .Or (a::b::rest) pos) (kJ X.K (aG C sub E (.or_ x y))) :=
 (Ks ha hb).imp fun σ H Q ⟨σd,st,R,r,ok,q,hq⟩=>by
 refine⟨σd,st,fun k aC=>if k=true then R true aC else aG C sub E y σd aC (fun d aA=>eS d aA fun b=>R b aA),r,ok,aY hC (fun _ _ z=>z) x (fun d aC z=>?_) q,fun k H1 ⟨aC,s1,aS,z⟩=>?_⟩
 ·rw[xE]at z ⊢
  obtain⟨k,t,z⟩:=z
  refine⟨k,t,?_⟩
  cases k with
  |false=>exact z
  |true =>
  have z':eS d aC fun b=>R b aC:=z
  rw[xE]at z'
  obtain⟨k',t',z'⟩:=z'
  rw[t]at t';cases t'
  exact z'
 ·cases k with
  |false=>exact⟨σd,aC,R,r.step ok s1,aS,z,fun k H2 ⟨aF,s2,bW,w⟩=>hq _ _ ⟨aF,s1.trans s2,bW,w⟩⟩
  |true=>exact hq _ _ ⟨aC,s1,aS,z⟩
theorem Ni {rest:List Expr}(ha:PE X a (cA X.K (aG C sub E x)))(hb:PE X (.BoolOp .And (b::rest) pos) (cA X.K (aG C sub E y))):PE X (.BoolOp .And (a::b::rest) pos) (cA X.K (aG C sub E (.and_ x y))):=by
 intro pz s σ H Q I ⟨σd,st,R,r,ok,q,hq⟩
 refine BoolOp_and (bD (ha pz s σ H _ I ⟨σd,st,_,r,ok,q,fun v H' z=>z⟩) fun u s1 ⟨v,H1,I1,rv,d,aC,st1s,aS,r1,q1⟩=>?_)
 obtain⟨k,t,z⟩:=uN aS r1 q1
 refine bD (EH pz s1 σ H1 v u (fun b H'=>b=k/\H'=H1) I1 rv ⟨k,t,rfl,rfl⟩) fun b s2 ⟨H2,I2,e,e'⟩=>?_
 subst e e'
 cases b with
 |true=>exact hb pz s2 σ H2 Q I2 ⟨σd,aC,R,r.step ok st1s,aS,z,fun v H' w=>hq _ _ (.after st1s w)⟩
 |false=>exact⟨v,H2,I2,rv,hq _ _ (.after st1s (.here aS r1 z))⟩
theorem Qs {rest:List Expr}(ha:PE X a (cA X.K (aG C sub E x)))(hb:PE X (.BoolOp .Or (b::rest) pos) (cA X.K (aG C sub E y))):PE X (.BoolOp .Or (a::b::rest) pos) (cA X.K (aG C sub E (.or_ x y))):=by
 intro pz s σ H Q I ⟨σd,st,R,r,ok,q,hq⟩
 refine BoolOp_or (bD (ha pz s σ H _ I ⟨σd,st,_,r,ok,q,fun v H' z=>z⟩) fun u s1 ⟨v,H1,I1,rv,d,aC,st1s,aS,r1,q1⟩=>?_)
 obtain⟨k,t,z⟩:=uN aS r1 q1
 refine bD (EH pz s1 σ H1 v u (fun b H'=>b=k/\H'=H1) I1 rv ⟨k,t,rfl,rfl⟩) fun b s2 ⟨H2,I2,e,e'⟩=>?_
 subst e e'
 cases b with
 |false=>exact hb pz s2 σ H2 Q I2 ⟨σd,aC,R,r.step ok st1s,aS,z,fun v H' w=>hq _ _ (.after st1s w)⟩
 |true=>exact⟨v,H2,I2,rv,hq _ _ (.after st1s (.here aS r1 z))⟩
theorem La {op:Wt}(h:PE X e (cA X.K (aG C sub E x))):PE X (.BoolOp op [e] pos) (cA X.K (aG C sub E x)):=Iq h
end
end L3
end
section
namespace L3
open PySem PySem.Spec PyProof.Rows L2 PySem.SeqAt
mutual
theorem xB:∀ d:D,bK d=true->bM d d=true
 |.non,_=>rfl
 |.bl b,_=>by simp [bM]
 |.int i,_=>by simp [bM]
 |.str x,_=>by simp [bM]
 |.tup ds,h=>by simp only[bK]at h;simp only[bM];exact lX ds h
 |.ref _,h=>by simp [bK]at h
 |.dE _ _,h=>by simp [bK]at h
 |.bO _,h=>by simp [bK]at h
 |.exc _,h=>by simp [bK]at h
theorem lX:∀ ds:List D,bY ds=true->gB ds ds=true
 |[],_=>rfl
 |d::ds,h=>by
  simp only[bY,aw]at h
  simp only[gB,aw]
  exact⟨xB d h.1,lX ds h.2⟩
end
theorem oP:∀{ds:List D}{d:D},bY ds=true->d∈ds->bK d=true
 |e::ds,d,h,m=>by
  simp only[bY,aw]at h
  rcases List.mem_cons.mp m with rfl|m
  ·exact h.1
  ·exact oP h.2 m
theorem kD:∀{ds:List D}{d:D},d∈ds->cS d<=cW ds
 |e::ds,d,m=>by
  simp only[cW]
  rcases List.mem_cons.mp m with rfl|m
  ·omega
  ·have:=kD m;omega
theorem xA:∀{ds es:List D}(e:Nat->Bool),(∀ j d d',ds[j]? = some d->es[j]? = some d'->e j=bM d d')->((bb (min ds.length es.length)).all e&&ds.length==es.length)=gB ds es
 |[],[],e,h=>by simp [gB]
 |[],_::_,e,h=>by simp [gB]
 |_::_,[],e,h=>by simp [gB]
 |d::ds,d'::es,e,h=>by
  have ih:=xA (fun j=>e (j+1)) fun j x x' e1 e2=>h (j+1) x x' (by simpa using e1) (by simpa using e2)
  have h0:=h 0 d d' rfl rfl
  simp only[gB,bf,v7,ky,mq,qt,ot]
  rw[<-ih,h0]
  have hl:(ds.length+1==es.length+1)=(ds.length==es.length):=by simp
  rw[hl,Uw]
theorem R0 {ds es:List D}(e:Nat->Bool)(hl:ds.length=es.length)(h:∀ j d d',ds[j]? = some d->es[j]? = some d'->e j=bM d d'):(bb ds.length).all e=gB ds es:=by
 rw[<-xA e h,<-hl];simp
theorem MM:∀{ds es:List D},ds.length≠es.length->gB ds es=false
 |[],[],h=>(h rfl).elim
 |[],_::_,h=>rfl
 |_::_,[],h=>rfl
 |d::ds,d'::es,h=>by simp only[gB,MM (ds:=ds) (es:=es) (by simpa using h),cq]
section
variable {X:Cx}{pz:List (Addr×Obj)}{σ:L2.St}{H:Hp}{s:ag}{st:aB}
theorem aU.at {vs:List V}{aD:List ae}(r:aU vs aD){j:Nat}(h:j<aD.toArray.size):∃ v,vs[j]? = some v/\RelV v aD.toArray[j]:=by
 have hl:=r.length
 have hj:j<vs.length:=by simp at h;omega
 obtain⟨u,e1,e2⟩:=aU.get r (ah hj)
 refine⟨vs[j],ah hj,?_⟩
 rw[rz]at e1
 obtain⟨h1,e1⟩:=e1
 simp only[List.getElem_toArray,e1]
 exact e2
theorem aL.get' {K:aa}:∀{ds:List D}{vs:List V}{i:Nat}{v:V},aL K H ds vs->vs[i]? = some v->∃ d,ds[i]? = some d/\Rep K H d v
 |_,_,_,_,.nil,e=>by simp at e
 |_,_,0,_,.cons h _,e=>by simp at e;subst e;exact⟨_,rfl,h⟩
 |_,_,i+1,v,.cons _ r,e=>by
  obtain⟨d,e1,e2⟩:=aL.get' (i:=i) (v:=v) r (by simpa using e)
  exact⟨d,by simpa using e1,e2⟩
set_option tactic.hygienic true in
theorem BS (I:Inv X pz σ H s):∀(n:Nat){d d':D}{v:V},cS d<=n->bK d=true->bK d'=true->Rep X.K H d v->Rep X.K H d' v->d=d':=by
 intro n
 induction n with
 |zero =>
 intro d d' v hn p p' r r'
 cases r<;>cases r'<;>first|rfl|(simp [bK]at p;done)|(simp [bK]at p';done)|(simp [cS]at hn;done)
 |succ n ih =>
 intro d d' v hn p p' r r'
 cases r<;>cases r'<;>first|rfl|(simp [bK]at p;done)|(simp [bK]at p';done)|skip
 rename_i ds a vs h r es us r' h'
 cases I.tV h h'
 have go:∀(ds es:List D)(vs:List V),cW ds<=n->bY ds=true->bY es=true->aL X.K H ds vs->aL X.K H es vs->ds=es:=by
  intro ds
  induction ds with
  |nil=>intro es vs _ _ _ r r';cases r;cases r';rfl
  |cons d ds ihs =>
  intro es vs hd pp pp' r r'
  cases r with
  |cons r1 r2=>cases r' with
   |cons r1' r2' =>
   simp only[cW]at hd
   simp only[bY,aw]at pp pp'
   rw[ih (by omega) pp.1 pp'.1 r1 r1',ihs _ _ (by omega) pp.2 pp'.2 r2 r2']
 rw[go ds es vs (by simp only[cS]at hn;omega) (by simpa [bK]using p) (by simpa [bK]using p') r r']
def yV (A:cb)(s:ag)(u u':ae)(b:Bool):Prop:=RcAt A s u u' b/\EqAt A s u u' b/\RcNeAt A s u u' (!b)
noncomputable def pY:D->Bool
 |.non=>true
 |.bl _=>true
 |.int _=>true
 |.str _=>true
 |_=>false
theorem KE (x y:List Nat):((⟨x.toArray⟩:Str)==⟨y.toArray⟩)=(x==y):=by
 rw[<-Wx]
theorem xI {K:aa}{H:Hp}{A:cb}{s:ag}{d d':D}{v v':V}{u u':ae}(p:pY d=true)(p':pY d'=true)(r:Rep K H d v)(rv:RelV v u)(r':Rep K H d' v')(bJ:RelV v' u'):yV A s u u' (bM d d'):=by
 cases d with
 |non=>cases d' with
  |non =>
   cases r.gC;cases rv
   cases r'.gC;cases bJ
   exact⟨RcAt.none_none,zp _,RcNeAt.none_none⟩
  |bl b' =>
   cases r.gC;cases rv
   cases r'.fX;cases bJ
   simp only[bM]
   exact⟨RcAt.none_bool _,EqAt.none_bool _,RcNeAt.none_bool _⟩
  |int i' =>
   cases r.gC;cases rv
   cases r'.int_inv;obtain⟨_,rfl⟩:=bJ
   simp only[bM]
   exact⟨RcAt.none_int _ _,EqAt.none_int _ _,RcNeAt.none_int _ _⟩
  |str x' =>
   cases r.gC;cases rv
   cases r'.str_inv;obtain⟨_,rfl⟩:=bJ
   simp only[bM]
   exact⟨RcAt.none_str _ _,EqAt.none_str _ _,RcNeAt.none_str _ _⟩
  |_=>cases p'
 |bl b=>cases d' with
  |non =>
   cases r.fX;cases rv
   cases r'.gC;cases bJ
   simp only[bM]
   exact⟨RcAt.bool_none _,EqAt.bool_none _,RcNeAt.bool_none _⟩
  |bl b' =>
   cases r.fX;cases rv
   cases r'.fX;cases bJ
   simp only[bM]
   exact⟨RcAt.bool_bool _ _,wq _ _,RcNeAt.bool_bool _ _⟩
  |int i' =>
   cases r.fX;cases rv
   cases r'.int_inv;obtain⟨_,rfl⟩:=bJ
   simp only[bM]
   exact⟨RcAt.bool_int _ _ _,EqAt.bool_int _ _ _,RcNeAt.bool_int _ _ _⟩
  |str x' =>
   cases r.fX;cases rv
   cases r'.str_inv;obtain⟨_,rfl⟩:=bJ
   simp only[bM]
   exact⟨RcAt.bool_str _ _ _,xq _ _ _,RcNeAt.bool_str _ _ _⟩
  |_=>cases p'
 |int i=>cases d' with
  |non =>
   cases r.int_inv;obtain⟨_,rfl⟩:=rv
   cases r'.gC;cases bJ
   simp only[bM]
   exact⟨RcAt.int_none _ _,EqAt.int_none _ _,RcNeAt.int_none _ _⟩
  |bl b' =>
   cases r.int_inv;obtain⟨_,rfl⟩:=rv
   cases r'.fX;cases bJ
   simp only[bM]
   exact⟨RcAt.int_bool _ _ _,EqAt.int_bool _ _ _,RcNeAt.int_bool _ _ _⟩
  |int i' =>
   cases r.int_inv;obtain⟨_,rfl⟩:=rv
   cases r'.int_inv;obtain⟨_,rfl⟩:=bJ
   simp only[bM]
   exact⟨RcAt.int_int _ _ _ _,EqAt.int_int _ _ _ _,RcNeAt.int_int _ _ _ _⟩
  |str x' =>
   cases r.int_inv;obtain⟨_,rfl⟩:=rv
   cases r'.str_inv;obtain⟨_,rfl⟩:=bJ
   simp only[bM]
   exact⟨RcAt.int_str _ _ _ _,EqAt.int_str _ _ _ _,RcNeAt.int_str _ _ _ _⟩
  |_=>cases p'
 |str x=>cases d' with
  |non =>
   cases r.str_inv;obtain⟨_,rfl⟩:=rv
   cases r'.gC;cases bJ
   simp only[bM]
   exact⟨RcAt.str_none _ _,EqAt.str_none _ _,RcNeAt.str_none _ _⟩
  |bl b' =>
   cases r.str_inv;obtain⟨_,rfl⟩:=rv
   cases r'.fX;cases bJ
   simp only[bM]
   exact⟨RcAt.str_bool _ _ _,xr _ _ _,RcNeAt.str_bool _ _ _⟩
  |int i' =>
   cases r.str_inv;obtain⟨_,rfl⟩:=rv
   cases r'.int_inv;obtain⟨_,rfl⟩:=bJ
   simp only[bM]
   exact⟨RcAt.str_int _ _ _ _,EqAt.str_int _ _ _ _,RcNeAt.str_int _ _ _ _⟩
  |str x' =>
   cases r.str_inv;obtain⟨_,rfl⟩:=rv
   cases r'.str_inv;obtain⟨_,rfl⟩:=bJ
   have e:bM (.str x) (.str x')=((⟨x.toArray⟩:Str)==⟨x'.toArray⟩):=by rw[KE];simp only[bM]
   rw[e]
   exact⟨RcAt.str_str _ _ _ _,yw _ _ _ _,RcNeAt.str_str _ _ _ _⟩
  |_=>cases p'
 |_=>cases p
theorem iC {K:aa}{H:Hp}{A:cb}{s:ag}{l:Addr}{aD:Array ae}{d':D}{v':V}{u':ae}(hl:s.heap.IsTuple l aD)(hu:A.units<cLine)(p':pY d'=true)(r':Rep K H d' v')(bJ:RelV v' u'):yV A s (.ref l) u' false/\yV A s u' (.ref l) false:=by
 cases d' with
 |non =>
 cases r'.gC;cases bJ
 exact⟨⟨RcAt.tuple_none hl hu,EqAt.tuple_none hl hu,RcNeAt.tuple_none hl hu⟩,⟨RcAt.none_tuple hl hu,EqAt.none_tuple hl hu,RcNeAt.none_tuple hl hu⟩⟩
 |bl b =>
 cases r'.fX;cases bJ
 exact⟨⟨RcAt.tuple_bool _ hl hu,Uj _ hl hu,RcNeAt.tuple_bool _ hl hu⟩,⟨RcAt.bool_tuple _ hl hu,vq _ hl hu,RcNeAt.bool_tuple _ hl hu⟩⟩
 |int i =>
 cases r'.int_inv;obtain⟨_,rfl⟩:=bJ
 exact⟨⟨RcAt.tuple_int _ _ hl hu,EqAt.tuple_int _ _ hl hu,RcNeAt.tuple_int _ _ hl hu⟩,⟨RcAt.int_tuple _ _ hl hu,EqAt.int_tuple _ _ hl hu,RcNeAt.int_tuple _ _ hl hu⟩⟩
 |str x =>
 cases r'.str_inv;obtain⟨_,rfl⟩:=bJ
 exact⟨⟨RcAt.tuple_str _ _ hl hu,Ux _ _ hl hu,RcNeAt.tuple_str _ _ hl hu⟩,⟨RcAt.str_tuple _ _ hl hu,wt _ _ hl hu,RcNeAt.str_tuple _ _ hl hu⟩⟩
 |_=>cases p'
theorem mU {K:aa}{H:Hp}{A:cb}{s:ag}{l:Addr}{aD:Array ae}{d':D}{v':V}{u':ae}(hl:s.heap.IsList l aD)(hu:A.units<cLine)(p':pY d'=true)(r':Rep K H d' v')(bJ:RelV v' u'):yV A s (.ref l) u' false/\yV A s u' (.ref l) false:=by
 cases d' with
 |non =>
 cases r'.gC;cases bJ
 exact⟨⟨RcAt.list_none hl hu,EqAt.list_none hl hu,RcNeAt.list_none hl hu⟩,⟨RcAt.none_list hl hu,EqAt.none_list hl hu,RcNeAt.none_list hl hu⟩⟩
 |bl b =>
 cases r'.fX;cases bJ
 exact⟨⟨RcAt.list_bool _ hl hu,EqAt.list_bool _ hl hu,RcNeAt.list_bool _ hl hu⟩,⟨RcAt.bool_list _ hl hu,EqAt.bool_list _ hl hu,RcNeAt.bool_list _ hl hu⟩⟩
 |int i =>
 cases r'.int_inv;obtain⟨_,rfl⟩:=bJ
 exact⟨⟨RcAt.list_int _ _ hl hu,EqAt.list_int _ _ hl hu,RcNeAt.list_int _ _ hl hu⟩,⟨RcAt.int_list _ _ hl hu,EqAt.int_list _ _ hl hu,RcNeAt.int_list _ _ hl hu⟩⟩
 |str x =>
 cases r'.str_inv;obtain⟨_,rfl⟩:=bJ
 exact⟨⟨RcAt.list_str _ _ hl hu,EqAt.list_str _ _ hl hu,RcNeAt.list_str _ _ hl hu⟩,⟨RcAt.str_list _ _ hl hu,EqAt.str_list _ _ hl hu,RcNeAt.str_list _ _ hl hu⟩⟩
 |_=>cases p'
theorem M6 (I:Inv X pz σ H s){A:cb}{a b:Addr}{vs us:List V}{b0:Bool}(e:Nat->Bool)(ha:eU X.K H a vs)(hb:eU X.K H b us)(hu:A.units<cLine)(hs:a=b->b0=true)
  (he:∀ j v v' u u',vs[j]? = some v->us[j]? = some v'->RelV v u->RelV v' u'->EqAt A.in1 s u u' (e j))(hb0:((bb (min vs.length us.length)).all e&&vs.length==us.length)=b0):yV A s (.ref a) (.ref b) b0:=by
 obtain⟨aD,r1,p1,_⟩:=I.tuple ha
 obtain⟨jts,r2,p2,_⟩:=I.tuple hb
 have l1:aD.toArray.size=vs.length:=by rw[av];exact r1.length.symm
 have l2:jts.toArray.size=us.length:=by rw[av];exact r2.length.symm
 have hi:∀ j (h1:j<aD.toArray.size)(h2:j<jts.toArray.size),EqAt A.in1 s aD.toArray[j] jts.toArray[j] (e j):=fun j h1 h2=>by
  obtain⟨v,e1,q1⟩:=aU.at r1 h1
  obtain⟨v',e2,q2⟩:=aU.at r2 h2
  exact he j v v' _ _ e1 e2 q1 q2
 have rc:RcAt A s (.ref a) (.ref b) b0:=by
  have:=Wf (e:=e) p1 p2 hu hi
  rw[l1,l2,hb0]at this
  exact this
 have rn:RcNeAt A s (.ref a) (.ref b) (!b0):=by
  have:=RcNeAt.tuples (e:=e) p1 p2 hu hi
  rw[l1,l2,hb0]at this
  exact this
 refine⟨rc,?_,rn⟩
 by_cases q:a=b
 ·rw[hs q,q];exact zp _
 ·exact yx q rc
theorem WR (I:Inv X pz σ H s){A:cb}{a b:Addr}{vs us:List V}{b0:Bool}(e:Nat->Bool)(ha:eT X.K H a vs)(hb:eT X.K H b us)(hu:A.units<cLine)(hs:a=b->b0=true)
  (he:∀ j v v' u u',vs[j]? = some v->us[j]? = some v'->RelV v u->RelV v' u'->EqAt A.in1 s u u' (e j))(hn:vs.length≠us.length->b0=false)(hb0:vs.length=us.length->(bb vs.length).all e=b0):yV A s (.ref a) (.ref b) b0:=by
 obtain⟨aD,r1,p1,_⟩:=I.list ha
 obtain⟨jts,r2,p2,_⟩:=I.list hb
 have l1:aD.toArray.size=vs.length:=by rw[av];exact r1.length.symm
 have l2:jts.toArray.size=us.length:=by rw[av];exact r2.length.symm
 have hi:∀ j (h1:j<aD.toArray.size)(h2:j<jts.toArray.size),EqAt A.in1 s aD.toArray[j] jts.toArray[j] (e j):=fun j h1 h2=>by
  obtain⟨v,e1,q1⟩:=aU.at r1 h1
  obtain⟨v',e2,q2⟩:=aU.at r2 h2
  exact he j v v' _ _ e1 e2 q1 q2
 have both:RcAt A s (.ref a) (.ref b) b0/\RcNeAt A s (.ref a) (.ref b) (!b0):=by
  by_cases hl:vs.length=us.length
  ·have:=RcAt.lists (e:=e) p1.isList p2.isList (by rw[l1,l2,hl]) hu hi
   have rn:=RcNeAt.lists (e:=e) p1.isList p2.isList (by rw[l1,l2,hl]) hu hi
   rw[l1,hb0 hl]at this rn
   exact⟨this,rn⟩
  ·rw[hn hl]
   have hz:(aD.toArray.size != jts.toArray.size)=true:=by rw[l1,l2,bne_iff_ne];exact hl
   exact⟨RcAt.lists_lengths p1.isList p2.isList hz hu,RcNeAt.lists_lengths p1.isList p2.isList hz hu⟩
 refine⟨both.1,?_,both.2⟩
 by_cases q:a=b
 ·rw[hs q,q];exact zp _
 ·exact yx q both.1
theorem wU {d:D}(p:bK d=true):pY d=true∨∃ ds,d=.tup ds:=by
 cases d<;>first|exact .inl rfl|exact .inr ⟨_,rfl⟩|cases p
theorem Ts (I:Inv X pz σ H s):∀(n:Nat){d d':D}{A:cb}{v v':V}{u u':ae},cS d<=n->bK d=true->bK d'=true->Rep X.K H d v->RelV v u->Rep X.K H d' v'->RelV v' u'->A.units+n+2<cLine ->
  yV A s u u' (bM d d'):=by
 intro n
 induction n with
 |zero =>
  intro d d' A v v' u u' hn p p' r rv r' bJ hu
  have jZ:A.units<cLine:=by omega
  rcases wU p with q|⟨ds,rfl⟩
  ·rcases wU p' with q'|⟨kF,rfl⟩
   ·exact xI q q' r rv r' bJ
   ·obtain⟨b,us,rfl,h2,q2⟩:=r'.bX
    cases bJ
    obtain⟨aD,r1,p1,_⟩:=I.tuple h2
    have:=(iC p1 jZ q r rv).2
    have e:bM d (.tup kF)=false:=by cases d<;>first|rfl|cases q
    rw[e];exact this
  ·simp only[cS]at hn;omega
 |succ n ih =>
  intro d d' A v v' u u' hn p p' r rv r' bJ hu
  have jZ:A.units<cLine:=by omega
  rcases wU p with q|⟨ds,rfl⟩
  ·rcases wU p' with q'|⟨kF,rfl⟩
   ·exact xI q q' r rv r' bJ
   ·obtain⟨b,us,rfl,h2,q2⟩:=r'.bX
    cases bJ
    obtain⟨aD,r1,p1,_⟩:=I.tuple h2
    have:=(iC p1 jZ q r rv).2
    have e:bM d (.tup kF)=false:=by cases d<;>first|rfl|cases q
    rw[e];exact this
  ·obtain⟨a,vs,rfl,h1,q1⟩:=r.bX
   cases rv
   rcases wU p' with q'|⟨kF,rfl⟩
   ·obtain⟨aD,r1,p1,_⟩:=I.tuple h1
    have:=(iC p1 jZ q' r' bJ).1
    have e:bM (.tup ds) d'=false:=by cases d'<;>first|rfl|cases q'
    rw[e];exact this
   ·obtain⟨b,us,rfl,h2,q2⟩:=r'.bX
    cases bJ
    have pd:bY ds=true:=by simpa [bK]using p
    have pd':bY kF=true:=by simpa [bK]using p'
    have e0:bM (.tup ds) (.tup kF)=gB ds kF:=by simp only[bM]
    rw[e0]
    refine M6 I (fun j=>match ds[j]?,kF[j]? with|some x,some y=>bM x y|_,_=>true) h1 h2 jZ (fun e=>?_) (fun j v v' u u' e1 e2 rv bJ=>?_) ?_
    ·subst e
     have:=BS I (cS (.tup ds)) (az _) p p' r r'
     cases this
     exact lX ds pd
    ·obtain⟨x,f1,g1⟩:=aL.get' q1 e1
     obtain⟨y,f2,g2⟩:=aL.get' q2 e2
     simp only[f1,f2]
     have hx:=kD (bg f1)
     simp only[cS]at hn
     exact(ih (by omega) (oP pd (bg f1)) (oP pd' (bg f2)) g1 rv g2 bJ (by simp only[fw];omega)).2.1
    ·rw[<-q1.length,<-q2.length]
     exact xA _ fun j x y e1 e2=>by simp only[e1,e2]
end
noncomputable def rX (st:aB):D->Option (List D)
 |.ref a=>match st a with
  |some (.lst xs)=>some xs
  |_=>none
 |.bO xs=>some xs
 |_=>none
theorem kinds {st:aB}{d:D}(p:hJ st d=true):pY d=true∨(∃ ds,d=.tup ds/\iR st ds=true)∨∃ xs,rX st d=some xs/\bY xs=true/\cW xs<=jY:=by
 cases d with
 |tup ds=>exact .inr (.inl ⟨ds,rfl,by simpa [hJ]using p⟩)
 |ref a =>
  simp only[hJ]at p
  cases q:st a with
  |none=>rw[q]at p;cases p
  |some o=>cases o with
   |lst xs =>
    rw[q]at p
    simp only[YI,aw,decide_eq_true_eq]at p
    exact .inr (.inr ⟨xs,by simp [rX,q],p⟩)
   |dic _ _=>rw[q]at p;cases p
   |ins _ _=>rw[q]at p;cases p
   |tab _ _=>rw[q]at p;cases p
   |fn _ _=>rw[q]at p;cases p
   |cod _=>rw[q]at p;cases p
 |bO xs =>
  simp only[hJ,aw,decide_eq_true_eq]at p
  exact .inr (.inr ⟨xs,rfl,p⟩)
 |dE _ _=>cases p
 |exc _=>cases p
 |_=>exact .inl rfl
set_option tactic.hygienic true in
theorem DU {st:aB}{d d':D}{xs ys:List D}(h:rX st d=some xs)(h':rX st d'=some ys):bV st d d'=gB xs ys:=by
 cases d with
 |ref a =>
  simp only[rX]at h
  split at h
  ·rename_i zs e
   cases h
   cases d' with
   |ref b =>
    simp only[rX]at h'
    split at h'
    ·rename_i ws e'
     cases h'
     simp only[bV,e,e',DT]
    ·cases h'
   |bO ws=>cases h';simp only[bV,e,DT]
   |_=>cases h'
  ·cases h
 |bO zs =>
  cases h
  cases d' with
  |ref b =>
   simp only[rX]at h'
   split at h'
   ·rename_i ws e'
    cases h'
    simp only[bV,e',DT]
   ·cases h'
  |bO ws=>cases h';simp only[bV]
  |_=>cases h'
 |_=>cases h
theorem D2 {st:aB}{d d':D}{xs:List D}(h:rX st d=some xs)(p:pY d'=true):bV st d d'=false/\bV st d' d=false:=by
 cases d<;>first|(cases h;done)|skip
 all_goals (cases d'<;>first|(cases p;done)|exact⟨rfl,rfl⟩|(simp [bV];done))
theorem K7 {st:aB}{d:D}{ds xs:List D}(h:rX st d=some xs):bV st d (.tup ds)=false/\bV st (.tup ds) d=false:=by
 cases d<;>first|(cases h;done)|exact⟨rfl,rfl⟩|(simp [bV];done)
theorem DL {st:aB}{d d':D}(p:pY d=true)(p':pY d'=true):bV st d d'=bM d d':=by
 cases d<;>first|(cases p;done)|skip
 all_goals (cases d'<;>first|(cases p';done)|rfl|(simp [bV,bM];done))
theorem K8 {st:aB}{d:D}{ds:List D}(p:pY d=true):bV st d (.tup ds)=false/\bV st (.tup ds) d=false:=by
 cases d<;>first|(cases p;done)|exact⟨rfl,rfl⟩|(simp [bV];done)
theorem hU {st:aB}:∀{ds:List D}{d:D},iR st ds=true->d∈ds->hJ st d=true
 |e::ds,d,h,m=>by
  simp only[iR,aw]at h
  rcases List.mem_cons.mp m with rfl|m
  ·exact h.1
  ·exact hU h.2 m
theorem MN {st:aB}:∀{ds es:List D}(e:Nat->Bool),(∀ j d d',ds[j]? = some d->es[j]? = some d'->e j=bV st d d')->((bb (min ds.length es.length)).all e&&ds.length==es.length)=kQ st ds es
 |[],[],e,h=>by simp [kQ]
 |[],_::_,e,h=>by simp [kQ]
 |_::_,[],e,h=>by simp [kQ]
 |d::ds,d'::es,e,h=>by
  have ih:=MN (fun j=>e (j+1)) fun j x x' e1 e2=>h (j+1) x x' (by simpa using e1) (by simpa using e2)
  have h0:=h 0 d d' rfl rfl
  simp only[kQ,bf,v7,ky,mq,qt,ot]
  rw[<-ih,h0]
  have hl:(ds.length+1==es.length+1)=(ds.length==es.length):=by simp
  rw[hl,Uw]
section
variable {X:Cx}{pz:List (Addr×Obj)}{σ:L2.St}{H:Hp}{s:ag}{st:aB}
set_option tactic.hygienic true in
theorem gP {K:aa}{d:D}{v:V}{xs:List D}(ok:aV K st H)(h:rX st d=some xs)(r:Rep K H d v):∃ a vs,v=.ref a/\eT K H a vs/\aL K H xs vs:=by
 cases r with
 |ref a =>
 simp only[rX]at h
 split at h
 ·rename_i zs e
  cases h
  obtain⟨vs,g,q⟩:=ok.lst e
  exact⟨a,vs,rfl,eT.of g,q⟩
 ·cases h
 |bO f q=>cases h;exact⟨_,_,rfl,f.sq,q⟩
 |_=>cases h
theorem tL (I:Inv X pz σ H s):∀{ds es:List D}{vs:List V},bY ds=true->bY es=true->aL X.K H ds vs->aL X.K H es vs->ds=es
 |_,_,_,_,_,.nil,.nil=>rfl
 |_,_,_,p,p',.cons h r,.cons h' r'=>by
  simp only[bY,aw]at p p'
  rw[BS I _ (az _) p.1 p'.1 h h',tL I p.2 p'.2 r r']
theorem GN (I:Inv X pz σ H s){a:Addr}{vs us:List V}(h:eT X.K H a vs)(h':eU X.K H a us):False:=by
 obtain⟨aD,_,p1,_⟩:=I.list h
 obtain⟨jts,_,p2,_⟩:=I.tuple h'
 exact ne_of_list_tuple p1.isList p2 rfl
theorem An (I:Inv X pz σ H s)(ok:aV X.K st H):∀(n:Nat){d d':D}{v:V},cS d<=n->hJ st d=true->hJ st d'=true->Rep X.K H d v->Rep X.K H d' v->bV st d d'=true:=by
 intro n
 induction n with
 |zero =>
  intro d d' v hn p p' r r'
  rcases kinds p with q|⟨ds,rfl,q⟩|⟨xs,q,q1,q2⟩
  ·rcases kinds p' with q'|⟨kF,rfl,q'⟩|⟨ys,q',q1',q2'⟩
   ·rw[DL q q']
    have pd:bK d=true:=by cases d<;>first|rfl|cases q
    have pd':bK d'=true:=by cases d'<;>first|rfl|cases q'
    rw[BS I _ (az _) pd pd' r r']
    exact xB d' pd'
   ·obtain⟨a,vs,rfl,_⟩:=r'.bX
    cases r<;>cases q
   ·obtain⟨a,vs,rfl,_⟩:=gP ok q' r'
    cases r<;>cases q
  ·simp only[cS]at hn;omega
  ·obtain⟨a,vs,rfl,f1,g1⟩:=gP ok q r
   rcases kinds p' with q'|⟨kF,rfl,q'⟩|⟨ys,q',q1',q2'⟩
   ·cases r'<;>cases q'
   ·obtain⟨b,us,e,f2,g2⟩:=r'.bX
    cases e
    exact(GN I f1 f2).elim
   ·obtain⟨b,us,e,f2,g2⟩:=gP ok q' r'
    cases e
    cases I.sZ f1 f2
    rw[DU q q',tL I q1 q1' g1 g2]
    exact lX _ q1'
 |succ n ih =>
  intro d d' v hn p p' r r'
  rcases kinds p with q|⟨ds,rfl,q⟩|⟨xs,q,q1,q2⟩
  ·rcases kinds p' with q'|⟨kF,rfl,q'⟩|⟨ys,q',q1',q2'⟩
   ·rw[DL q q']
    have pd:bK d=true:=by cases d<;>first|rfl|cases q
    have pd':bK d'=true:=by cases d'<;>first|rfl|cases q'
    rw[BS I _ (az _) pd pd' r r']
    exact xB d' pd'
   ·obtain⟨a,vs,rfl,_⟩:=r'.bX
    cases r<;>cases q
   ·obtain⟨a,vs,rfl,_⟩:=gP ok q' r'
    cases r<;>cases q
  ·obtain⟨a,vs,rfl,f1,g1⟩:=r.bX
   rcases kinds p' with q'|⟨kF,rfl,q'⟩|⟨ys,q',q1',q2'⟩
   ·cases r'<;>cases q'
   ·obtain⟨b,us,e,f2,g2⟩:=r'.bX
    cases e
    cases I.tV f1 f2
    simp only[cS]at hn
    have go:∀(ds es:List D)(vs:List V),cW ds<=n->iR st ds=true->iR st es=true->aL X.K H ds vs->aL X.K H es vs->kQ st ds es=true:=by
     intro ds
     induction ds with
     |nil=>intro es vs _ _ _ r r';cases r;cases r';rfl
     |cons d ds ihs =>
      intro es vs hd pp pp' r r'
      cases r with
      |cons r1 r2=>cases r' with
       |cons r1' r2' =>
        simp only[cW]at hd
        simp only[iR,aw]at pp pp'
        simp only[kQ,aw]
        exact⟨ih (by omega) pp.1 pp'.1 r1 r1',ihs _ _ (by omega) pp.2 pp'.2 r2 r2'⟩
    simp only[bV]
    exact go ds kF vs (by omega) q q' g1 g2
   ·obtain⟨b,us,e,f2,g2⟩:=gP ok q' r'
    cases e
    exact(GN I f2 f1).elim
  ·obtain⟨a,vs,rfl,f1,g1⟩:=gP ok q r
   rcases kinds p' with q'|⟨kF,rfl,q'⟩|⟨ys,q',q1',q2'⟩
   ·cases r'<;>cases q'
   ·obtain⟨b,us,e,f2,g2⟩:=r'.bX
    cases e
    exact(GN I f1 f2).elim
   ·obtain⟨b,us,e,f2,g2⟩:=gP ok q' r'
    cases e
    cases I.sZ f1 f2
    rw[DU q q',tL I q1 q1' g1 g2]
    exact lX _ q1'
theorem pK {A:cb}{l b:Addr}{aD jts:Array ae}(hl:s.heap.IsList l aD)(hb:s.heap.IsTuple b jts)(hu:A.units<cLine):yV A s (.ref l) (.ref b) false/\yV A s (.ref b) (.ref l) false :=
 ⟨⟨RcAt.list_tuple hl hb hu,EqAt.list_tuple hl hb hu,RcNeAt.list_tuple hl hb hu⟩,⟨RcAt.tuple_list hb hl hu,EqAt.tuple_list hb hl hu,RcNeAt.tuple_list hb hl hu⟩⟩
theorem TF (I:Inv X pz σ H s){A:cb}{a b:Addr}{vs us:List V}{xs ys:List D}(f1:eT X.K H a vs)(g1:aL X.K H xs vs)(f2:eT X.K H b us)(g2:aL X.K H ys us)(p1:bY xs=true)(d1:cW xs<=jY)(p2:bY ys=true)
  (hu:A.units+85<cLine):yV A s (.ref a) (.ref b) (gB xs ys):=by
 refine WR I (fun j=>match xs[j]?,ys[j]? with|some x,some y=>bM x y|_,_=>true) f1 f2 (by omega) (fun e=>?_) (fun j v v' u u' e1 e2 rv bJ=>?_) (fun h=>?_) (fun h=>?_)
 ·subst e
  cases I.sZ f1 f2
  rw[tL I p1 p2 g1 g2]
  exact lX _ p2
 ·obtain⟨x,h1,k1⟩:=aL.get' g1 e1
  obtain⟨y,h2,k2⟩:=aL.get' g2 e2
  simp only[h1,h2]
  have hx:=kD (bg h1)
  have hD:jY=80:=rfl
  exact(Ts I jY (by omega) (oP p1 (bg h1)) (oP p2 (bg h2)) k1 rv k2 bJ (by simp only[fw];omega)).2.1
 ·exact MM (by rw[g1.length,g2.length];exact h)
 ·rw[<-g1.length]
  exact R0 _ (by rw[g1.length,g2.length];exact h) fun j x y e1 e2=>by simp only[e1,e2]
theorem RJ (I:Inv X pz σ H s)(ok:aV X.K st H):∀(n:Nat){d d':D}{A:cb}{v v':V}{u u':ae},cS d<=n->hJ st d=true->hJ st d'=true->Rep X.K H d v->RelV v u->Rep X.K H d' v'->RelV v' u'->A.units+n+85<cLine ->
  yV A s u u' (bV st d d'):=by
 intro n
 induction n with
 |zero =>
  intro d d' A v v' u u' hn p p' r rv r' bJ hu
  have jZ:A.units<cLine:=by omega
  rcases kinds p with q|⟨ds,rfl,q⟩|⟨xs,q,q1,q2⟩
  ·rcases kinds p' with q'|⟨kF,rfl,q'⟩|⟨ys,q',q1',q2'⟩
   ·rw[DL q q'];exact xI q q' r rv r' bJ
   ·obtain⟨b,us,rfl,h2,g2⟩:=r'.bX
    cases bJ
    obtain⟨aD,r1,p1,_⟩:=I.tuple h2
    rw[(K8 q).1]
    exact(iC p1 jZ q r rv).2
   ·obtain⟨b,us,rfl,h2,g2⟩:=gP ok q' r'
    cases bJ
    obtain⟨aD,r1,p1,_⟩:=I.list h2
    rw[(D2 q' q).2]
    exact(mU p1.isList jZ q r rv).2
  ·simp only[cS]at hn;omega
  ·obtain⟨a,vs,rfl,f1,g1⟩:=gP ok q r
   cases rv
   obtain⟨aD,r1,p1,_⟩:=I.list f1
   rcases kinds p' with q'|⟨kF,rfl,q'⟩|⟨ys,q',q1',q2'⟩
   ·rw[(D2 q q').1]
    exact(mU p1.isList jZ q' r' bJ).1
   ·obtain⟨b,us,rfl,h2,g2⟩:=r'.bX
    cases bJ
    obtain⟨jts,r2,p2,_⟩:=I.tuple h2
    rw[(K7 q).1]
    exact(pK p1.isList p2 jZ).1
   ·obtain⟨b,us,rfl,h2,g2⟩:=gP ok q' r'
    cases bJ
    rw[DU q q']
    exact TF I f1 g1 h2 g2 q1 q2 q1' (by omega)
 |succ n ih =>
  intro d d' A v v' u u' hn p p' r rv r' bJ hu
  have jZ:A.units<cLine:=by omega
  rcases kinds p with q|⟨ds,rfl,q⟩|⟨xs,q,q1,q2⟩
  ·rcases kinds p' with q'|⟨kF,rfl,q'⟩|⟨ys,q',q1',q2'⟩
   ·rw[DL q q'];exact xI q q' r rv r' bJ
   ·obtain⟨b,us,rfl,h2,g2⟩:=r'.bX
    cases bJ
    obtain⟨aD,r1,p1,_⟩:=I.tuple h2
    rw[(K8 q).1]
    exact(iC p1 jZ q r rv).2
   ·obtain⟨b,us,rfl,h2,g2⟩:=gP ok q' r'
    cases bJ
    obtain⟨aD,r1,p1,_⟩:=I.list h2
    rw[(D2 q' q).2]
    exact(mU p1.isList jZ q r rv).2
  ·obtain⟨a,vs,rfl,f1,g1⟩:=r.bX
   cases rv
   obtain⟨aD,r1,p1,_⟩:=I.tuple f1
   rcases kinds p' with q'|⟨kF,rfl,q'⟩|⟨ys,q',q1',q2'⟩
   ·rw[(K8 q').2]
    exact(iC p1 jZ q' r' bJ).1
   ·obtain⟨b,us,rfl,h2,g2⟩:=r'.bX
    cases bJ
    have e0:bV st (.tup ds) (.tup kF)=kQ st ds kF:=by simp only[bV]
    refine M6 I (fun j=>match ds[j]?,kF[j]? with|some x,some y=>bV st x y|_,_=>true) f1 h2 jZ (fun e=>?_) (fun j v v' u u' e1 e2 rv bJ=>?_) ?_
    ·subst e
     exact An I ok _ (az _) p p' r r'
    ·obtain⟨x,k1,l1⟩:=aL.get' g1 e1
     obtain⟨y,k2,l2⟩:=aL.get' g2 e2
     simp only[k1,k2]
     have hx:=kD (bg k1)
     simp only[cS]at hn
     exact(ih (by omega) (hU q (bg k1)) (hU q' (bg k2)) l1 rv l2 bJ (by simp only[fw];omega)).2.1
    ·rw[<-g1.length,<-g2.length,e0]
     exact MN _ fun j x y e1 e2=>by simp only[e1,e2]
   ·obtain⟨b,us,rfl,h2,g2⟩:=gP ok q' r'
    cases bJ
    obtain⟨jts,r2,p2,_⟩:=I.list h2
    rw[(K7 q').2]
    exact(pK p2.isList p1 jZ).2
  ·obtain⟨a,vs,rfl,f1,g1⟩:=gP ok q r
   cases rv
   obtain⟨aD,r1,p1,_⟩:=I.list f1
   rcases kinds p' with q'|⟨kF,rfl,q'⟩|⟨ys,q',q1',q2'⟩
   ·rw[(D2 q q').1]
    exact(mU p1.isList jZ q' r' bJ).1
   ·obtain⟨b,us,rfl,h2,g2⟩:=r'.bX
    cases bJ
    obtain⟨jts,r2,p2,_⟩:=I.tuple h2
    rw[(K7 q).1]
    exact(pK p1.isList p2 jZ).1
   ·obtain⟨b,us,rfl,h2,g2⟩:=gP ok q' r'
    cases bJ
    rw[DU q q']
    exact TF I f1 g1 h2 g2 q1 q2 q1' (by omega)
end
mutual
inductive kE (h:Heap):D->ae->Prop where
 |str (x:List Nat)(t:Tok):kE h (.str x) (.str ⟨x.toArray⟩ t)
 |bl (b:Bool):kE h (.bl b) (.bool b)
 |tup {ds:List D}{a:Addr}{o:Obj}{aD:Array ae}{n:Nat}(e:h.get? a=some o)(c:o.cls=.type "tuple")(d:o.data=.seq aD n)(r:gO h ds aD.toList):kE h (.tup ds) (.ref a)
inductive gO (h:Heap):List D->List ae->Prop where
 |nil:gO h [] []
 |cons {d:D}{ds:List D}{v:ae}{vs:List ae}(r:kE h d v)(rs:gO h ds vs):gO h (d::ds) (v::vs)
end
section
variable {h h':Heap}
theorem kE.str_inv {d:D}{x:Str}{t:Tok}(q:kE h d (.str x t)):∃ y,d=.str y/\x=⟨y.toArray⟩:=by
 cases q;exact⟨_,rfl,rfl⟩
theorem kE.fX {d:D}{b:Bool}(q:kE h d (.bool b)):d=.bl b:=by
 cases q;rfl
theorem kE.cV {d:D}{a:Addr}(q:kE h d (.ref a)):∃ ds o aD n,d=.tup ds/\h.get? a=some o/\o.cls=.type "tuple" /\ o.data=.seq aD n/\gO h ds aD.toList:=by
 cases q with|tup e c d r=>exact⟨_,_,_,_,rfl,e,c,d,r⟩
mutual
theorem kE.inj:∀{x y:D}{v:ae},kE h x v->kE h y v->x=y
 |_,y,_,.str x t,q=>by
  obtain⟨z,rfl,e⟩:=q.str_inv
  have:x.toArray=z.toArray:=congrArg Wy e
  have:x=z:=by simpa using this
  rw[this]
 |_,y,_,.bl b,q=>q.fX.symm
 |_,y,_,.tup e c d r,q=>by
  obtain⟨ds,o,aD,n,rfl,e',c',d',r'⟩:=q.cV
  rw[e]at e';cases e'
  rw[d]at d'
  injection d' with d1 d2
  subst d1
  rw[gO.inj r r']
theorem gO.inj:∀{xs ys:List D}{vs:List ae},gO h xs vs->gO h ys vs->xs=ys
 |_,_,_,.nil,q=>by cases q;rfl
 |_,_,_,.cons r rs,q=>by cases q with|cons r' rs'=>rw[kE.inj r r',gO.inj rs rs']
end
mutual
theorem kE.keeps {b:Addr}{ob:Obj}{es:Array DictEntry}{ep:Nat}(ho:h.get? b=some ob)(hd:ob.data=.dict es ep)(hs:kq b h h'):∀{x:D}{v:ae},kE h x v->kE h' x v
 |_,_,.str x t=>.str x t
 |_,_,.bl b=>.bl b
 |_,_,@kE.tup _ ds a o aD n e c d r=>.tup (by
  have ne:a≠b:=by
   intro z
   rw[z,ho]at e;cases e
   rw[hd]at d;cases d
  exact(hs.2 a ne).trans e) c d (gO.keeps ho hd hs r)
theorem gO.keeps {b:Addr}{ob:Obj}{es:Array DictEntry}{ep:Nat}(ho:h.get? b=some ob)(hd:ob.data=.dict es ep)(hs:kq b h h'):∀{xs:List D}{vs:List ae},gO h xs vs->gO h' xs vs
 |_,_,.nil=>.nil
 |_,_,.cons r rs=>.cons (kE.keeps ho hd hs r) (gO.keeps ho hd hs rs)
end
theorem gO.length:∀{xs:List D}{vs:List ae},gO h xs vs->xs.length=vs.length
 |_,_,.nil=>rfl
 |_,_,.cons _ rs=>by simp [gO.length rs]
theorem gO.get:∀{xs:List D}{vs:List ae}{j:Nat}{v:ae},gO h xs vs->vs[j]? = some v->∃ x,xs[j]? = some x/\kE h x v
 |_,_,_,_,.nil,e=>by simp at e
 |_,_,0,_,.cons r _,e=>by simp at e;subst e;exact⟨_,rfl,r⟩
 |_,_,j+1,v,.cons _ rs,e=>by
  obtain⟨x,e1,e2⟩:=gO.get (j:=j) (v:=v) rs (by simpa using e)
  exact⟨x,by simpa using e1,e2⟩
end
theorem yS (w:de):∀ a b:List D,iJ w (a++b)=iJ w a++iJ w b
 |[],b=>by simp [iJ]
 |d::a,b=>by simp [iJ,yS w a b]
theorem yN:∀ a b:List D,kZ (a++b)=kZ a+kZ b
 |[],b=>by simp [kZ]
 |d::a,b=>by simp [kZ,yN a b,pw]
theorem OZ {prog:bu}{w:de}{b:Bool}{A:cb}{E:ae->ag->Prop}{s:ag}{Q:Int->ag->Prop}(hu:A.units<cLine)(h:Q (rQ w (.bl b)) { s with toks:=s.toks+uC (.bl b) }):wpAny (model prog w) A (pyHash (.bool b)) Q E s:=by
 refine PySem.W.pyHash_slot (T :="bool") rfl PySem.F.slot_bool_hash PySem.F.entry_int_hash (PySem.F.args_int_hash_1 _) (zq _) (.inr hu) ?_
 cases b
 ·exact(show wpAny _ _ (do ret (<-mkInt 0)) _ _ s from af (sj (ar ⟨_,_,rfl,h⟩)))
 ·exact(show wpAny _ _ (do ret (<-mkInt 1)) _ _ s from af (sj (ar ⟨_,_,rfl,h⟩)))
theorem Bu {prog:bu}{w:de}:∀(n:Nat){d:D}{v:ae}{A:cb}{E:ae->ag->Prop}{s:ag}{Q:Int->ag->Prop},cS d<=n->kE s.heap d v->A.units+n<cLine->Q (rQ w d) { s with toks:=s.toks+uC d } ->
  wpAny (model prog w) A (pyHash v) Q E s:=by
 intro n
 induction n with
 |zero =>
  intro d v A E s Q hn hk hu h
  cases hk with
  |str x t =>
   simp only[rQ,uC]at h
   exact(strKind prog w).pyHash (k:=⟨x.toArray⟩) (yh _ _ _ _) h
  |bl b=>exact OZ (by omega) h
  |tup e c dd r=>simp only[cS]at hn;omega
 |succ n ih =>
  intro d v A E s Q hn hk hu h
  cases hk with
  |str x t =>
   simp only[rQ,uC]at h
   exact(strKind prog w).pyHash (k:=⟨x.toArray⟩) (yh _ _ _ _) h
  |bl b=>exact OZ (by omega) h
  |@tup ds a o items m ho c hd hi =>
   have hT:s.TypeIs (.ref a) "tuple":=⟨o,ho,c⟩
   simp only[cS]at hn
   simp only[rQ,uC]at h
   unfold pyHash
   first|unfold pyHashByItsType|skip
   first|refine af (wpAny_cRoomFor_or (.inr (by omega)) ?_)|skip
   refine af (gf hT PySem.F.slot_tuple_hash.lookup ?_)
   show wpAny _ _ (if(some (Value.builtin "tuple.__hash__")==some jd)=true then _ else _) Q E s
   rw[if_neg (by rw[zq];exact e9)]
   refine af (gf hT PySem.F.slot_tuple_hash.lookup ?_)
   show wpAny _ _ (callSpecialIfBoundUnlessNone? (.ref a) "__hash__" _ >>= _) Q E s
   refine af (wpAny_callSpecialIfBoundUnlessNone?_slot hT ue (fu ue hT PySem.F.entry_tuple_hash ?_ (PySem.F.args_tuple_hash_1 _)))
   show wpAny _ _ (gv (.ref a) >>= _) _ _ s
   refine af (yg ho hd ?_)
   refine af ?_
   rw[<-yi]
   refine uf _
    (fun rest (b:Array Int) s'=>∃ done left,ds=done++left/\gO s.heap left rest/\b.toList=iJ w done/\s' = { s with toks:=s.toks+kZ done })
    _ ?_ ?_ _ _ ⟨[],ds,rfl,hi,rfl,rfl⟩
   ·rintro x rest b s' ⟨done,left,e0,hl,hb,rfl⟩
    cases hl with
    |@cons k ks' _ _ h1 hl' =>
     have hdep:cS k<=cW ds:=kD (by rw[e0];simp)
     refine af (ih (s:={ s with toks:=s.toks+kZ done }) (d:=k) (by omega) h1 (by simp only[fw];omega) ?_)
     have e1:kZ (done++[k])=kZ done+uC k:=by rw[yN];simp [kZ]
     have e2:iJ w (done++[k])=iJ w done++[rQ w k]:=by rw[yS];simp [iJ]
     first
      |exact ar ⟨done++[k],ks',by simp [e0],hl',by simp [hb,e2],by simp [e1,pw]⟩
      |exact af (ar (ar ⟨done++[k],ks',by simp [e0],hl',by simp [hb,e2],by simp [e1,pw]⟩))
   ·rintro b s' ⟨done,left,e0,hl,hb,rfl⟩
    cases hl
    rw[eh]at e0
    subst e0
    show wpAny _ _ (retInt (fy b.toList)) _ _ _
    rw[hb]
    refine wpAny_ret_mkInt ?_
    show wpAny _ _ (if(decide (-(2:Int) ^ 63<=fy (iJ w ds))&&decide (fy (iJ w ds)<2 ^ 63))=true then _ else _) Q E _
    unfold Ut at h
    by_cases hr:(decide (-(2:Int) ^ 63<=fy (iJ w ds))&&decide (fy (iJ w ds)<2 ^ 63))=true
    ·rw[if_pos hr]
     rw[if_pos hr]at h
     exact ar (by simpa [pw]using h)
    ·rw[if_neg hr]
     rw[if_neg hr]at h
     exact af (vf (ar (by simpa [pw]using h)))
mutual
theorem KO:∀ d:D,jI d=true->bK d=true
 |.str _,_=>rfl
 |.tup ds,h=>by simp only[jI]at h;simp only[bK];exact zZ ds h
 |.non,h=>by cases h
 |.bl _,_=>rfl
 |.int _,h=>by cases h
 |.ref _,h=>by cases h
 |.dE _ _,h=>by cases h
 |.bO _,h=>by cases h
 |.exc _,h=>by cases h
theorem zZ:∀ ds:List D,jR ds=true->bY ds=true
 |[],_=>rfl
 |d::ds,h=>by
  simp only[jR,aw]at h
  simp only[bY,aw]
  exact⟨KO d h.1,zZ ds h.2⟩
end
mutual
theorem TB:∀ x y:D,jI x=true->jI y=true->bM x y=true->x=y
 |.str a,y,_,_,e=>by
  cases y with
  |str b=>simp only[bM,beq_iff_eq]at e;rw[e]
  |_=>simp [bM]at e
 |.bl a,y,_,h',e=>by
  cases y with
  |bl b=>simp only[bM,beq_iff_eq]at e;rw[e]
  |int _=>cases h'
  |_=>simp [bM]at e
 |.tup as,y,h,h',e=>by
  cases y with
  |tup bs=>simp only[bM]at e;simp only[jI]at h h';rw[OK as bs h h' e]
  |_=>simp [bM]at e
 |.non,_,h,_,_=>by cases h
 |.int _,_,h,_,_=>by cases h
 |.ref _,_,h,_,_=>by cases h
 |.dE _ _,_,h,_,_=>by cases h
 |.bO _,_,h,_,_=>by cases h
 |.exc _,_,h,_,_=>by cases h
theorem OK:∀ xs ys:List D,jR xs=true->jR ys=true->gB xs ys=true->xs=ys
 |[],[],_,_,_=>rfl
 |[],_::_,_,_,e=>by cases e
 |_::_,[],_,_,e=>by cases e
 |x::xs,y::ys,h,h',e=>by
  simp only[gB,aw]at e
  simp only[jR,aw]at h h'
  rw[TB x y h.1 h'.1 e.1,OK xs ys h.2 h'.2 e.2]
end
noncomputable instance decD:DecidableEq D:=fun a b=>Classical.propDecidable (a=b)
theorem GO {x y:D}(h:jI x=true)(h':jI y=true):bM x y=decide (x=y):=by
 by_cases e:x=y
 ·subst e;rw[xB x (KO x h)];simp
 ·rw[decide_eq_false e]
  cases q:bM x y with
  |false=>rfl
  |true=>exact(e (TB x y h h' q)).elim
theorem Md:∀(n:Nat){x y:D}{u v:ae}{A:cb}{s:ag},cS x<=n->kE s.heap x u->kE s.heap y v->jI x=true->A.units+n+2<cLine->EqAt A s u v (bM x y):=by
 intro n
 induction n with
 |zero =>
  intro x y u v A s hn hx hy ht hu
  have jZ:A.units<cLine:=by omega
  cases hx with
  |str a t =>
   cases hy with
   |str b t' =>
    have e:bM (.str a) (.str b)=((⟨a.toArray⟩:Str)==⟨b.toArray⟩):=by rw[KE];simp only[bM]
    rw[e]
    exact yw _ _ _ _
   |tup e c d r =>
    simp only[bM]
    exact wt _ _ (show s.heap.IsTuple _ _ from⟨_,e,c,_,d⟩) jZ
   |bl b =>
    simp only[bM]
    exact xr _ _ _
  |bl a =>
   cases hy with
   |str b t' =>
    simp only[bM]
    exact xq _ _ _
   |bl b=>exact wq _ _
   |tup e c d r =>
    simp only[bM]
    exact vq _ (show s.heap.IsTuple _ _ from⟨_,e,c,_,d⟩) jZ
  |tup e c d r=>simp only[cS]at hn;omega
 |succ n ih =>
  intro x y u v A s hn hx hy ht hu
  have jZ:A.units<cLine:=by omega
  cases hx with
  |str a t =>
   cases hy with
   |str b t' =>
    have e:bM (.str a) (.str b)=((⟨a.toArray⟩:Str)==⟨b.toArray⟩):=by rw[KE];simp only[bM]
    rw[e]
    exact yw _ _ _ _
   |tup e c d r =>
    simp only[bM]
    exact wt _ _ (show s.heap.IsTuple _ _ from⟨_,e,c,_,d⟩) jZ
   |bl b =>
    simp only[bM]
    exact xr _ _ _
  |bl a =>
   cases hy with
   |str b t' =>
    simp only[bM]
    exact xq _ _ _
   |bl b=>exact wq _ _
   |tup e c d r =>
    simp only[bM]
    exact vq _ (show s.heap.IsTuple _ _ from⟨_,e,c,_,d⟩) jZ
  |@tup ds a o aD m e c d r =>
   have hp1:s.heap.IsTuple a aD:=⟨_,e,c,_,d⟩
   cases hy with
   |str b t' =>
    simp only[bM]
    exact Ux _ _ hp1 jZ
   |bl b =>
    simp only[bM]
    exact Uj _ hp1 jZ
   |@tup es b o' jts m' e' c' d' r' =>
    have mC:s.heap.IsTuple b jts:=⟨_,e',c',_,d'⟩
    have e0:bM (.tup ds) (.tup es)=gB ds es:=by simp only[bM]
    rw[e0]
    have hts:jR ds=true:=by simpa [jI]using ht
    by_cases q:a=b
    ·subst q
     rw[e]at e';cases e'
     rw[d]at d';injection d' with d1 d2;subst d1
     rw[gO.inj r r',lX es (zZ es (by rw[<-gO.inj r r'];exact hts))]
     exact zp _
    ·refine yx q ?_
     have l1:aD.size=ds.length:=by rw[<-jf];exact r.length.symm
     have l2:jts.size=es.length:=by rw[<-jf];exact r'.length.symm
     have:=Wf (e:=fun j=>match ds[j]?,es[j]? with|some x,some y=>bM x y|_,_=>true) hp1 mC jZ (fun j h1 h2=>by
      obtain⟨x,f1,g1⟩:=r.get (j:=j) (v:=aD[j]) (by simp [h1])
      obtain⟨y,f2,g2⟩:=r'.get (j:=j) (v:=jts[j]) (by simp [h2])
      simp only[f1,f2]
      have hx:=kD (bg f1)
      simp only[cS]at hn
      have htx:jI x=true:=by
       have:∀(l:List D)(x:D),jR l=true->x∈l->jI x=true:=by
        intro l
        induction l with
        |nil=>intro x _ hm;cases hm
        |cons z l ihl =>
         intro x hh hm
         simp only[jR,aw]at hh
         rcases List.mem_cons.mp hm with rfl|hm
         ·exact hh.1
         ·exact ihl x hh.2 hm
       exact this ds x hts (bg f1)
      exact ih (by omega) g1 g2 htx (by simp only[fw];omega))
     rw[l1,l2,xA _ fun j x y e1 e2=>by simp only[e1,e2]]at this
     exact this
theorem XC {prog:bu}{w:de}:∀(n:Nat){d:D}{v:ae}{A:cb}{E:ae->ag->Prop}{s:ag}{Q:Bool->ag->Prop},cS d<=n->kE s.heap d v->Q true s->wpAny (model prog w) A (eqIsQuiet n v) Q E s:=by
 intro n
 induction n with
 |zero =>
  intro d v A E s Q hn hk h
  cases hk with
  |str x t=>rw[ou _ rfl];exact ar h
  |bl b=>rw[ou _ rfl];exact ar h
  |tup e c dd r=>simp only[cS]at hn;omega
 |succ n ih =>
  intro d v A E s Q hn hk h
  cases hk with
  |str x t=>rw[ou _ rfl];exact ar h
  |bl b=>rw[ou _ rfl];exact ar h
  |@tup ds a o items m ho c hd hi =>
   have hT:s.TypeIs (.ref a) "tuple":=⟨o,ho,c⟩
   simp only[cS]at hn
   unfold eqIsQuiet
   refine af (gf hT PySem.F.slot_tuple_eq.lookup ?_)
   show wpAny _ _ (isInstance (.ref a) (.type "tuple") >>= _) _ _ s
   refine af (l6 hT isSubtype_tuple_tuple ?_)
   simp only[fq,aq,if_false]
   refine af (Uy ho hd ?_)
   refine af ?_
   show wpAny _ _ (forIn items _ _) _ _ s
   rw[<-yi]
   refine uf _ (fun rest r s'=>r.1=none/\s'=s/\∃ ks,gO s.heap ks rest/\cW ks<=n) _ ?_ ?_ _ _ ⟨rfl,rfl,ds,hi,by omega⟩
   ·rintro v rest r s' ⟨hr,rfl,ks,hks,hdep⟩
    cases hks with
    |@cons k ks' _ _ h1 h2 =>
     simp only[cW]at hdep
     refine af (ih (d:=k) (by omega) h1 ?_)
     simp only[fq,aq,if_false]
     exact ar ⟨rfl,rfl,ks',h2,by omega⟩
   ·rintro⟨r1,r2⟩ s' ⟨hr,rfl,_⟩
    simp only at hr
    subst hr
    exact ar h
theorem keyed.aR {d:D}(h:keyed d):cS d<=8:=by
 cases d with
 |tup ds=>have:=h.2;simp only[cS];omega
 |_=>exact h.elim
theorem keyed.txt {d:D}(h:keyed d):jI d=true:=by
 cases d with
 |tup ds=>simp only[jI];exact h.1
 |_=>exact h.elim
noncomputable def tT (prog:bu)(w:de):HeapKind prog w D where
 is:=fun h d a=>keyed d/\kE h d (.ref a)
 hash:=rQ w
 draws:=uC
 room:=fun A=>A.units+12<cLine
 inj:=fun hx hy=>hx.2.inj hy.2
 keeps:=fun x ho hd hs=>⟨x.1,x.2.keeps ho hd hs⟩
 pyHash:=fun hu hk h=>Bu 8 hk.1.aR hk.2 (by omega) h
 eqBool:=fun{A E s x y a b Q} hu hx hy h=>by
  have:=Md 8 hx.1.aR hx.2 hy.2 hx.1.txt (A:=A) (by omega) prog w E Q
  rw[GO hx.1.txt hy.1.txt]at this
  exact this h
 quiet:=fun hk h=>XC 8 hk.1.aR hk.2 h
def pL (X:Cx)(op:CmpOp)(W:D->D->aB->(Bool->Prop)->Prop):Prop :=
 ∀(pz:List (Addr×Obj))(s:ag)(σ:L2.St)(H:Hp)(st:aB)(d d':D)(v v':V)(u u':ae)(P:Bool->Prop),Inv X pz σ H s->aV X.K st H->Rep X.K H d v->RelV v u->Rep X.K H d' v'->RelV v' u'->W d d' st P ->
 wpAny (model X.prog X.w) X.A (tx op u u') (fun r s'=>∃ k,r=.bool k/\P k/\Inv X pz σ H s') X.xe s
theorem EG (w:List Nat):∀ z:List Nat,occurs w z=true↔∃ i,i+w.length<=z.length/\(z.drop i).take w.length=w
 |[]=>by
  unfold occurs
  constructor
  ·intro h;rw[zr]at h;subst h;exact⟨0,by simp,by simp⟩
  ·rintro⟨i,h,_⟩;rw[zr];exact List.length_eq_zero_iff.mp (by simp only[be]at h;omega)
 |c::r=>by
  unfold occurs
  rw[qf,EG w r,List.isPrefixOf_iff_prefix]
  constructor
  ·rintro(h|⟨i,h1,h2⟩)
   ·exact⟨0,by have:=h.length_le;omega,by rw[rk];exact(List.prefix_iff_eq_take.mp h).symm⟩
   ·exact⟨i+1,by simp;omega,by simpa using h2⟩
  ·rintro⟨i,h1,h2⟩
   cases i with
   |zero=>exact .inl (by rw[rk]at h2;rw[List.prefix_iff_eq_take];exact h2.symm)
   |succ i=>exact .inr ⟨i,by simp at h1;omega,by simpa using h2⟩
theorem HS (w z:List Nat):(!(nu ⟨z.toArray⟩ ⟨w.toArray⟩ 0 (⟨z.toArray⟩:Str).length 1).isEmpty)=occurs w z:=by
 rw[Uk,PySem.StrLaws.found_iff,EG]
 refine⟨fun⟨i,h1,h2⟩=>⟨i,by simpa [kc]using h1,?_⟩,fun⟨i,h1,h2⟩=>⟨i,by simpa [kc]using h1,?_⟩⟩
 ·unfold yz at h2
  have:=eq_of_beq h2
  simp only[kc,av]at this
  have e:=congrArg yn this
  simp only[wu,r0,ug]at e
  exact e
 ·unfold yz
  rw[beq_iff_eq]
  simp only[kc,av]
  apply Array.toList_inj.mp
  simp only[wu,r0,ug]
  exact h2
section
variable {X:Cx}{C:bE}{sub:Nat->Nat->Bool}{E:XK}{a b c e:Expr}{x y z:Ex}{pos:Pos}
theorem Qv (hu:X.A.units+180<cLine):pL X .Eq (dJ .eq):=by
 intro pz s σ H st d d' v v' u u' P I ok r rv r' bJ ⟨p,p',q⟩
 have hD:jY=80:=rfl
 exact(RJ I ok 80 (by have:=p.2;omega) p.1 p'.1 r rv r' bJ (by omega)).1 _ _ _ _ ⟨_,rfl,q,I⟩
theorem Sh (hu:X.A.units+180<cLine):pL X .NotEq (dJ .ne):=by
 intro pz s σ H st d d' v v' u u' P I ok r rv r' bJ ⟨p,p',q⟩
 have hD:jY=80:=rfl
 exact(RJ I ok 80 (by have:=p.2;omega) p.1 p'.1 r rv r' bJ (by omega)).2.2 _ _ _ _ ⟨_,rfl,q,I⟩
theorem JY {op:CmpOp}{o:sT}{f:Int->Int->Bool}(hW:∀ d d' st P,dJ o d d' st P=xW f d d' P)
  (rule:∀(i j:Int)(t u:Tok)(Q:ae->ag->Prop)(s:ag),Q (.bool (f i j)) s->wpAny (model X.prog X.w) X.A (tx op (.int i t) (.int j u)) Q X.xe s):pL X op (dJ o):=by
 intro pz s σ H st d d' v v' u u' P I ok r rv r' bJ q
 rw[hW]at q
 unfold xW at q
 split at q
 ·cases r.int_inv;cases r'.int_inv
  obtain⟨t,rfl⟩:=rv
  obtain⟨t',rfl⟩:=bJ
  exact rule _ _ _ _ _ _ ⟨_,rfl,q,I⟩
 ·exact q.elim
theorem Rh:pL X .Lt (dJ .lt):=JY (fun _ _ _ _=>rfl) fun _ _ _ _ _ _ h=>lt_int h
theorem Ry:pL X .LtE (dJ .le):=JY (fun _ _ _ _=>rfl) fun _ _ _ _ _ _ h=>le_int h
theorem Ra:pL X .Gt (dJ .gt):=JY (fun _ _ _ _=>rfl) fun _ _ _ _ _ _ h=>gt_int h
theorem Qx:pL X .GtE (dJ .ge):=JY (fun _ _ _ _=>rfl) fun _ _ _ _ _ _ h=>ge_int h
theorem TK {pz:List (Addr×Obj)}{s:ag}{σ:L2.St}{H:Hp}{a:Addr}{vs us:List V}(I:Inv X pz σ H s)(h:H a=some (.lst vs))(f:nA X.K H a us):False:=by
 rcases f with⟨o,e⟩|⟨o,_,_,e,_⟩
 ·rw[h]at e;cases e
 ·have:=(I.bs a o (I.ok.mod.kin a o e)).2
  rw[h]at this;cases this
set_option tactic.hygienic true in
theorem NC {pz:List (Addr×Obj)}{s:ag}{σ:L2.St}{H:Hp}{st:aB}(I:Inv X pz σ H s)(ok:aV X.K st H):∀(n:Nat){d d':D}{v:V},cS d<=n->hJ st d=true->hJ st d'=true->Rep X.K H d v->Rep X.K H d' v->d=d':=by
 have lists:∀{d d':D}{v:V}{xs ys:List D},rX st d=some xs->rX st d'=some ys->bY xs=true->bY ys=true->Rep X.K H d v->Rep X.K H d' v->d=d':=by
  intro d d' v xs ys q q' p p' r r'
  cases r with
  |ref a=>cases r' with
   |ref _=>rfl
   |bO f g =>
    simp only[rX]at q
    split at q
    ·rename_i e
     obtain⟨vs,h,_⟩:=ok.lst e
     exact(TK I h f).elim
    ·cases q
   |_=>cases q'
  |bO f g=>cases r' with
   |ref _ =>
    simp only[rX]at q'
    split at q'
    ·rename_i e
     obtain⟨vs,h,_⟩:=ok.lst e
     exact(TK I h f).elim
    ·cases q'
   |bO f' g' =>
    cases q;cases q'
    cases I.sZ f.sq f'.sq
    rw[tL I p p' g g']
   |_=>cases q'
  |_=>cases q
 intro n
 induction n with
 |zero =>
  intro d d' v hn p p' r r'
  rcases kinds p with q|⟨ds,rfl,q⟩|⟨xs,q,q1,q2⟩
  ·cases r<;>cases r'<;>first|rfl|(cases q;done)|skip
  ·simp only[cS]at hn;omega
  ·obtain⟨a,vs,rfl,f1,g1⟩:=gP ok q r
   rcases kinds p' with q'|⟨kF,rfl,q'⟩|⟨ys,q',q1',q2'⟩
   ·cases r'<;>cases q'
   ·obtain⟨b,us,e,f2,g2⟩:=r'.bX
    cases e
    exact(GN I f1 f2).elim
   ·exact lists q q' q1 q1' r r'
 |succ n ih =>
  intro d d' v hn p p' r r'
  rcases kinds p with q|⟨ds,rfl,q⟩|⟨xs,q,q1,q2⟩
  ·cases r<;>cases r'<;>first|rfl|(cases q;done)|skip
  ·obtain⟨a,vs,rfl,f1,g1⟩:=r.bX
   rcases kinds p' with q'|⟨kF,rfl,q'⟩|⟨ys,q',q1',q2'⟩
   ·cases r'<;>cases q'
   ·obtain⟨b,us,e,f2,g2⟩:=r'.bX
    cases e
    cases I.tV f1 f2
    simp only[cS]at hn
    have go:∀(ds es:List D)(vs:List V),cW ds<=n->iR st ds=true->iR st es=true->aL X.K H ds vs->aL X.K H es vs->ds=es:=by
     intro ds
     induction ds with
     |nil=>intro es vs _ _ _ r r';cases r;cases r';rfl
     |cons d ds ihs =>
      intro es vs hd pp pp' r r'
      cases r with
      |cons r1 r2=>cases r' with
       |cons r1' r2' =>
        simp only[cW]at hd
        simp only[iR,aw]at pp pp'
        rw[ih (by omega) pp.1 pp'.1 r1 r1',ihs _ _ (by omega) pp.2 pp'.2 r2 r2']
    rw[go ds kF vs (by omega) q q' g1 g2]
   ·obtain⟨b,us,e,f2,g2⟩:=gP ok q' r'
    cases e
    exact(GN I f2 f1).elim
  ·obtain⟨a,vs,rfl,f1,g1⟩:=gP ok q r
   rcases kinds p' with q'|⟨kF,rfl,q'⟩|⟨ys,q',q1',q2'⟩
   ·cases r'<;>cases q'
   ·obtain⟨b,us,e,f2,g2⟩:=r'.bX
    cases e
    exact(GN I f1 f2).elim
   ·exact lists q q' q1 q1' r r'
theorem JL {pz:List (Addr×Obj)}{s:ag}{σ:L2.St}{H:Hp}{st:aB}(I:Inv X pz σ H s)(ok:aV X.K st H){ds:List D}{vs:List V}{aD:List ae}{d:D}{v:V}{u:ae}{A:cb}
  (g:aL X.K H ds vs)(r:aU vs aD)(p:dR st ds)(pd:plainS st d)(rd:Rep X.K H d v)(rv:RelV v u)(hu:A.units+178<cLine):
  ∃ e:ae->Bool,(∀ y,y∈aD.toArray->EqAt A.in1 s y u (e y))/\aD.toArray.any e=ds.any fun d'=>bV st d' d:=by
 classical
 have hD:jY=80:=rfl
 have item:∀(d':D)(v':V)(y:ae),d'∈ds->Rep X.K H d' v'->RelV v' y->EqAt A.in1 s y u (bV st d' d):=fun d' v' y m r' bJ=>by
  have h1:=kD m
  have h2:=p.2
  exact(RJ I ok 80 (by omega) (hU p.1 m) pd.1 r' bJ rd rv (by simp only[fw];omega)).2.1
 let e:ae->Bool:=fun y=>decide (∃ d' v',d'∈ds/\Rep X.K H d' v'/\RelV v' y/\bV st d' d=true)
 have he:∀(d':D)(v':V)(y:ae),d'∈ds->Rep X.K H d' v'->RelV v' y->e y=bV st d' d:=fun d' v' y m r' bJ=>by
  show decide _=_
  cases q:bV st d' d with
  |true=>exact decide_eq_true ⟨d',v',m,r',bJ,q⟩
  |false =>
   refine decide_eq_false fun⟨d2,v2,m2,r2,rv2,q2⟩=>?_
   cases RelV.inj bJ rv2
   have:=NC I ok _ (az _) (hU p.1 m) (hU p.1 m2) r' r2
   subst this
   rw[q]at q2;cases q2
 refine⟨e,fun y hy=>?_,?_⟩
 ·obtain⟨j,hj,rfl⟩:=Array.mem_iff_getElem.mp hy
  obtain⟨v',e1,e2⟩:=aU.at r hj
  obtain⟨d',e3,e4⟩:=aL.get' g e1
  rw[he d' v' _ (bg e3) e4 e2]
  exact item d' v' _ (bg e3) e4 e2
 ·have go:∀(es:List D)(vs:List V)(aD:List ae),(∀ d∈es,d∈ds)->aL X.K H es vs->aU vs aD->aD.any e=es.any fun d'=>bV st d' d:=by
   intro es
   induction es with
   |nil=>intro vs aD _ g r;cases g;cases r;rfl
   |cons d1 es ih =>
    intro vs aD hm g r
    cases g with
    |cons g1 g2=>cases r with
     |cons r1 r2 =>
      simp only[kf]
      rw[he d1 _ _ (hm d1 (by simp)) g1 r1,ih _ _ (fun d m=>hm d (by simp [m])) g2 r2]
  rw[List.any_toArray]
  exact go ds vs aD (fun _ m=>m) g r
theorem SV (k x:Str):(decide (k=x))=(x.cps.toList==k.cps.toList):=by
 by_cases h:k=x
 ·subst h;simp
 ·rw[decide_eq_false h]
  symm
  refine beq_eq_false_iff_ne.mpr fun e=>h ?_
  obtain⟨⟨k⟩⟩:=k
  obtain⟨⟨x⟩⟩:=x
  have e:x=k:=e
  subst e;rfl
theorem GG {pz:List (Addr×Obj)}{s:ag}{σ:L2.St}{H:Hp}{a:Addr}{T:List (Str×PyData)}(I:Inv X pz σ H s)(h:wo td (fun b=>X.K.lookup b) a T=true):KTD.Here s.heap s.heap a (T.map fun p=>(p.1,vg p.2)) :=
 ⟨(KTD.tab_of_look (fun d v=>KTD.flat_of_looks) (fun a o e=>I.jN a o e) h).text,fun _ _ e=>e⟩
theorem O3 (k:List Nat):∀(T:List (Str×PyData)),KTD.inKeys (⟨k.toArray⟩:Str) (T.map fun p=>(p.1,vg p.2))=(T.map fun p=>D.str p.1.cps.toList).any fun d=>bM d (.str k)
 |[]=>rfl
 |(x,d)::T=>by
  show(decide ((⟨k.toArray⟩:Str)=x)||KTD.inKeys _ _)=((x.cps.toList==k)||_)
  rw[O3 k T,SV]
theorem Ib (hu:X.A.units+180<cLine):pL X .In (dJ .in_)/\pL X .NotIn (dJ .kX):=by
 have main:∀(neg:Bool)(pz:List (Addr×Obj))(s:ag)(σ:L2.St)(H:Hp)(st:aB)(d d':D)(v v':V)(u u':ae)(P:Bool->Prop),Inv X pz σ H s->aV X.K st H->Rep X.K H d v->RelV v u->Rep X.K H d' v'->RelV v' u' ->
   MY d d' st (fun b=>P (if neg then !b else b))->wpAny (model X.prog X.w) X.A (tx (if neg then .NotIn else .In) u u') (fun r s'=>∃ k,r=.bool k/\P k/\Inv X pz σ H s') X.xe s:=by
  intro neg pz s σ H st d d' v v' u u' P I ok r rv r' bJ q
  have lst:∀(a:Addr)(vs:List V)(ds:List D),eT X.K H a vs->aL X.K H ds vs->plainS st d->dR st ds->P (if neg then !(ds.any fun d'=>bV st d' d)else ds.any fun d'=>bV st d' d) ->
    wpAny (model X.prog X.w) X.A (tx (if neg then .NotIn else .In) u (.ref a)) (fun r s'=>∃ k,r=.bool k/\P k/\Inv X pz σ H s') X.xe s:=by
   intro a vs ds f g pd ps q
   obtain⟨aD,r1,p1,_⟩:=I.list f
   obtain⟨e,he,ha⟩:=JL I ok g r1 ps pd r rv (A:=X.A) (by omega)
   rw[<-ha]at q
   cases neg with
   |true=>exact notIn_listAt e p1.isList he ⟨_,rfl,q,I⟩
   |false=>exact in_listAt e p1.isList he ⟨_,rfl,q,I⟩
  unfold MY at q
  split at q
  ·obtain⟨a,vs,rfl,f,g⟩:=r'.bX
   cases bJ
   obtain⟨aD,r1,p1,_⟩:=I.tuple f
   obtain⟨pd,ps,q⟩:=q
   obtain⟨e,he,ha⟩:=JL I ok g r1 ps pd r rv (A:=X.A) (by omega)
   rw[<-ha]at q
   cases neg with
   |true=>exact notIn_tupleAt e p1 he ⟨_,rfl,q,I⟩
   |false=>exact in_tupleAt e p1 he ⟨_,rfl,q,I⟩
  ·cases r'.cV
   cases bJ
   obtain⟨ds,e1,pd,ps,q⟩:=tW ok q
   obtain⟨vs,g1,g2⟩:=ok.lst e1
   exact lst _ vs ds (eT.of g1) g2 pd ps q
  ·obtain⟨a,rfl,T,h1,_,h2,_⟩:=r'.NA
   cases bJ
   cases r.str_inv
   obtain⟨t,rfl⟩:=rv
   rw[h2,<-O3]at q
   cases neg with
   |true=>exact KTD.notin_text (GG I h1) ⟨_,rfl,q,I.tok _⟩
   |false=>exact KTD.in_text (GG I h1) ⟨_,rfl,q,I.tok _⟩
  ·obtain⟨a,vs,rfl,f,g⟩:=r'.lZ
   cases bJ
   exact lst a vs _ f.sq g q.1 q.2.1 q.2.2
  ·cases r.str_inv;cases r'.str_inv
   cases neg with
   |true =>
    refine bD (L8 (X:=X) pz s σ H _ _ _ _ (fun v H'=>H'=H/\∃ k,v=.bl k/\P k) I rv bJ ⟨_,_,rfl,rfl,rfl,_,rfl,?_⟩) fun r s1 ⟨v,H',I1,r1,e,k,e',q'⟩=>?_
    ·rw[HS];exact q
    ·subst e e';cases r1;exact⟨k,rfl,q',I1⟩
   |false =>
    refine bD (SD (X:=X) pz s σ H _ _ _ _ (fun v H'=>H'=H/\∃ k,v=.bl k/\P k) I rv bJ ⟨_,_,rfl,rfl,rfl,_,rfl,?_⟩) fun r s1 ⟨v,H',I1,r1,e,k,e',q'⟩=>?_
    ·rw[HS];exact q
    ·subst e e';cases r1;exact⟨k,rfl,q',I1⟩
  ·exact q.elim
 exact⟨fun pz s σ H st d d' v v' u u' P I ok r rv r' bJ q=>main false pz s σ H st d d' v v' u u' P I ok r rv r' bJ q,fun pz s σ H st d d' v v' u u' P I ok r rv r' bJ q=>main true pz s σ H st d d' v v' u u' P I ok r rv r' bJ q⟩
theorem JF {K:aa}{H:Hp}{d:D}{v:V}{u:ae}(r:Rep K H d v)(rv:RelV v u):(u==jd)=J0 d:=by
 rw[rv.XW]
 cases r<;>rfl
set_option tactic.hygienic true in
theorem Io:pL X .Is (dJ .is_)/\pL X .IsNot (dJ .isnot):=by
 constructor
 ·intro pz s σ H st d d' v v' u u' P I ok r rv r' bJ q
  have q:D1 d d' P:=q
  unfold D1 at q
  split at q
  ·cases r'.gC;cases bJ
   exact is_none_gen ⟨_,rfl,by rw[JF r rv];exact q,I⟩
  ·rename_i b
   cases r'.fX;cases bJ
   cases r with
   |bl c=>cases rv;exact is_bool ⟨_,rfl,q,I⟩
   |non=>cases rv;exact kl rfl (by intro z;cases z) ⟨_,rfl,q,I⟩
   |int i=>obtain⟨t,rfl⟩:=rv;exact kl rfl (by intro z;cases z) ⟨_,rfl,q,I⟩
   |str z=>obtain⟨t,rfl⟩:=rv;exact kl rfl (by intro z;cases z) ⟨_,rfl,q,I⟩
   |tup _ _=>cases rv;exact kl rfl (by intro z;cases z) ⟨_,rfl,q,I⟩
   |ref _=>cases rv;exact kl rfl (by intro z;cases z) ⟨_,rfl,q,I⟩
   |bO _ _=>cases rv;exact kl rfl (by intro z;cases z) ⟨_,rfl,q,I⟩
   |dE _=>cases rv;exact kl rfl (by intro z;cases z) ⟨_,rfl,q,I⟩
  ·exact q.elim
 ·intro pz s σ H st d d' v v' u u' P I ok r rv r' bJ q
  have q:D1 d d' (fun b=>P (!b)):=q
  unfold D1 at q
  split at q
  ·cases r'.gC;cases bJ
   exact isnot_none_gen ⟨_,rfl,by rw[JF r rv];exact q,I⟩
  ·rename_i b
   cases r'.fX;cases bJ
   cases r with
   |bl c=>cases rv;exact isnot_bool ⟨_,rfl,q,I⟩
   |non=>cases rv;exact i9 rfl (by intro z;cases z) ⟨_,rfl,q,I⟩
   |int i=>obtain⟨t,rfl⟩:=rv;exact i9 rfl (by intro z;cases z) ⟨_,rfl,q,I⟩
   |str z=>obtain⟨t,rfl⟩:=rv;exact i9 rfl (by intro z;cases z) ⟨_,rfl,q,I⟩
   |tup _ _=>cases rv;exact i9 rfl (by intro z;cases z) ⟨_,rfl,q,I⟩
   |ref _=>cases rv;exact i9 rfl (by intro z;cases z) ⟨_,rfl,q,I⟩
   |bO _ _=>cases rv;exact i9 rfl (by intro z;cases z) ⟨_,rfl,q,I⟩
   |dE _=>cases rv;exact i9 rfl (by intro z;cases z) ⟨_,rfl,q,I⟩
  ·exact q.elim
noncomputable def qQ:sT->CmpOp
 |.eq=>.Eq|.ne=>.NotEq|.lt=>.Lt|.le=>.LtE|.gt=>.Gt|.ge=>.GtE|.is_=>.Is|.isnot=>.IsNot|.in_=>.In|.kX=>.NotIn
theorem J5 (hu:X.A.units+180<cLine):∀ o:sT,pL X (qQ o) (dJ o)
 |.eq=>Qv hu
 |.ne=>Sh hu
 |.lt=>Rh
 |.le=>Ry
 |.gt=>Ra
 |.ge=>Qx
 |.is_=>Io.1
 |.isnot=>Io.2
 |.in_=>(Ib hu).1
 |.kX=>(Ib hu).2
theorem Lh {o:sT}(hu:X.A.units+180<cLine)(ha:PE X a (cA X.K (aG C sub E x)))(hb:PE X b (cA X.K (aG C sub E y)))(hm:lh (qQ o) b=false):PE X (.Compare a [qQ o] [b] pos) (cA X.K (aG C sub E (.cmp o x y))):=by
 intro pz s σ H Q I ⟨σd,st,R,r,ok,q,hq⟩
 refine wpAny_Compare1 (bD (ha pz s σ H _ I ⟨σd,st,_,r,ok,q,fun v H' z=>z⟩) fun u s1 ⟨v,H1,I1,rv,d,aC,dH,aS,r1,q1⟩ =>
 bD (hb pz s1 σ H1 _ I1 ⟨σd,aC,_,r.step ok dH,aS,q1,fun v H' z=>z⟩) fun u' s2 ⟨v',H2,I2,bJ,d',aF,gX,bW,r2,q2⟩ =>
 bD (J5 hu o pz s2 σ H2 aF d d' v v' u u' _ I2 bW (r1.step aS gX) rv r2 bJ q2) fun w s3 ⟨k,e,q3,I3⟩=>?_) hm
 subst e
 exact⟨.bl k,H2,I3,rfl,hq _ _ (.after (dH.trans gX) (.here bW (.bl k) q3))⟩
theorem Gu {o:sT}(hu:X.A.units+180<cLine)(ha:PE X a (cA X.K (aG C sub E x)))(hb:PE X b (cA X.K (aG C sub E y)))(hm:lh (qQ o) b=false):PT X (.Compare a [qQ o] [b] pos) (kJ X.K (aG C sub E (.cmp o x y))):=by
 intro pz s σ H Q I ⟨σd,st,R,r,ok,q,hq⟩
 refine v8 (bD (ha pz s σ H _ I ⟨σd,st,_,r,ok,q,fun v H' z=>z⟩) fun u s1 ⟨v,H1,I1,rv,d,aC,dH,aS,r1,q1⟩ =>
 bD (hb pz s1 σ H1 _ I1 ⟨σd,aC,_,r.step ok dH,aS,q1,fun v H' z=>z⟩) fun u' s2 ⟨v',H2,I2,bJ,d',aF,gX,bW,r2,q2⟩ =>
 bD (J5 hu o pz s2 σ H2 aF d d' v v' u u' _ I2 bW (r1.step aS gX) rv r2 bJ q2) fun w s3 ⟨k,e,q3,I3⟩=>?_) hm
 subst e
 exact lx ⟨H2,I3,hq _ _ ⟨aF,dH.trans gX,bW,q3⟩⟩
theorem ZW {o o':sT}(hu:X.A.units+180<cLine)(ha:PE X a (cA X.K (aG C sub E x)))(hb:PE X b (cA X.K (aG C sub E y)))(hc:PE X c (cA X.K (aG C sub E z)))(hm:lastMarks [qQ o,qQ o'] [b,c]=false):
 PE X (.Compare a [qQ o,qQ o'] [b,c] pos) (cA X.K (aG C sub E (.chain o o' x y z))):=by
 intro pz s σ H Q I ⟨σd,st,R,r,ok,q,hq⟩
 refine Compare_chain (bD (ha pz s σ H _ I ⟨σd,st,_,r,ok,q,fun v H' z=>z⟩) fun u s1 ⟨v,H1,I1,rv,d,aC,dH,aS,r1,q1⟩ =>
 chain_link (bD (hb pz s1 σ H1 _ I1 ⟨σd,aC,_,r.step ok dH,aS,q1,fun v H' z=>z⟩) fun u' s2 ⟨v',H2,I2,bJ,d',aF,gX,bW,r2,q2⟩ =>
 bD (J5 hu o pz s2 σ H2 aF d d' v v' u u' _ I2 bW (r1.step aS gX) rv r2 bJ q2) fun w s3 ⟨k,e,q3,I3⟩=>?_)) hm
 subst e
 refine lx ?_
 cases k with
 |false=>exact ite_ff ⟨.bl false,H2,I3,rfl,hq _ _ (.after (dH.trans gX) (.here bW (.bl _) q3))⟩
 |true =>
 refine ite_tt (chain_last (bD (hc pz s3 σ H2 _ I3 ⟨σd,aF,_,(r.step ok dH).step aS gX,bW,q3,fun v H' z=>z⟩) fun u3 s4 ⟨v3,H4,I4,rv3,d3,cN,s4s,PV,r4,q4⟩ =>
  bD (J5 hu o' pz s4 σ H4 cN d' d3 v' v3 u' u3 _ I4 PV (r2.step bW s4s) bJ r4 rv3 q4) fun w s5 ⟨k,e,q5,I5⟩=>?_))
 subst e
 exact⟨.bl k,H4,I5,rfl,hq _ _ (.after ((dH.trans gX).trans s4s) (.here PV (.bl k) q5))⟩
end
end L3
end
section
namespace L3
open PySem PySem.Spec PyProof.Rows PyProof.V L2
section
variable {X:Cx}{C:bE}{sub:Nat->Nat->Bool}{E:XK}{a b c e:Expr}{x y z:Ex}{pos:Pos}
theorem Fu (n:Nat)(i:Int):L2.pD n i=pD n i:=rfl
theorem FW {K:aa}{H:Hp}{ds:List D}{vs:List V}{i:Int}{d:D}(r:aL K H ds vs)(h:gQ ds i=some d):∃ v,L2.gQ vs i=some v/\Rep K H d v:=by
 unfold gQ at h
 unfold L2.gQ
 rw[Fu,<-r.length]
 cases e:pD ds.length i with
 |none=>rw[e]at h;cases h
 |some j =>
 rw[e]at h
 obtain⟨v,e1,e2⟩:=r.get (i:=j) h
 exact⟨v,e1,e2⟩
noncomputable def Hn (K:aa):R2:=fun x y H Q=>∃(p:Addr)(T:List (Str×PyData))(k:Str)(d:Uu),x=.ref p/\y=.str k/\wo td (fun b=>K.lookup b) p T=true/\p8 k T=some d/\pJ d=true/\∀ v u,RelV v u->Flat u d->Q v H
noncomputable def Q3 (K:aa):R2:=fun x y H Q=>Pk K x y H Q∨Hn K x y H Q
theorem yE {k:Str}{d:Uu}:∀{T:List (Str×PyData)},p8 k T=some d->p8 k (T.map fun p=>(p.1,vg p.2))=some (.flat d)
 |[],h=>by cases h
 |(x,e)::T,h=>by
  show(if decide (k=x)=true then some (vg e)else _)=_
  have h:(if decide (k=x)=true then some e else p8 k T)=some d:=h
  by_cases c:decide (k=x)=true
  ·rw[if_pos c]at h ⊢;cases h;rfl
  ·rw[if_neg c]at h ⊢;exact yE h
theorem Lq {X:Cx}:yR X (Hn X.K):=by
 intro value slice pz s σ H x y v u Q I rx ry h hs
 obtain⟨p,T,k,d,rfl,rfl,hT,hd,hsd,q⟩:=h
 cases rx
 obtain⟨t,rfl⟩:=ry
 have hh:=GG I hT
 refine subscriptTail_builtin_flat hh.typeIs slot_dict_getitem.lookup ?_ hs
 unfold vb
 try with_reducible refine gk ?_
 refine af (si hh.typeIs (by decide) ?_)
 refine af (i5 (name:=j8 "__getitem__") hh.typeIs zc
  (fu zc hh.typeIs entry_dict_getitem ?_ (args_dict_getitem _ _)))
 show wpAny _ _ (dictGet p (.str k t) >>= _) _ _ s
 refine af (KTD.dictGet_text hh (fun d' v ha hv=>?_) fun hn=>?_)
 ·rw[yE hd]at ha
  cases ha
  have hv:Flat v d:=hv
  refine ar ⟨v,rfl,ar ⟨Flat.notRef hv,?_⟩⟩
  obtain⟨w,rw'⟩:∃ w,RelV w v:=by
   cases d with
   |none=>cases Flat.none_inv hv;exact⟨.non,rfl⟩
   |bool b=>cases Flat.bool_inv hv;exact⟨.bl b,rfl⟩
   |int i=>obtain⟨t,rfl⟩:=Flat.int_inv hv;exact⟨.int i,⟨t,rfl⟩⟩
   |str x=>obtain⟨t,rfl⟩:=Flat.str_inv hv;exact⟨.str x,⟨t,rfl⟩⟩
   |_=>cases hsd
  exact⟨w,H,I.tok _,rw',q w v rw' hv⟩
 ·rw[yE hd]at hn;cases hn
theorem Jk {X:Cx}:yR X (Q3 X.K):=Fe.or Lq
theorem SF {K:aa}(v v':V)(H:Hp)(Q Q':L2.VK)(h:∀ v H,Q v H->Q' v H)(z:Q3 K v v' H Q):Q3 K v v' H Q':=by
 rcases z with z|⟨p,T,k,d,e,e',e1,e2,e3,q⟩
 ·refine .inl ?_
  rcases z with⟨p,xs,i,v,e,e',s,t,q⟩|⟨p,xs,i,v,e,e',s,t,q⟩|⟨z,i,c,e,e',s,t,q⟩
  ·exact .inl ⟨p,xs,i,v,e,e',s,t,h _ _ q⟩
  ·exact .inr (.inl ⟨p,xs,i,v,e,e',s,t,h _ _ q⟩)
  ·exact .inr (.inr ⟨z,i,c,e,e',s,t,h _ _ q⟩)
 ·exact .inr ⟨p,T,k,d,e,e',e1,e2,e3,fun v u r f=>h _ _ (q v u r f)⟩
theorem LM {k:List Nat}{d:D}:∀{T:List (Str×PyData)},(T.all fun p=>pJ p.2)=true->wW (T.map fun p=>.str p.1.cps.toList) (T.map fun p=>uO p.2) (.str k)=some d->∃ e,p8 (⟨k.toArray⟩:Str) T=some e/\pJ e=true/\d=uO e
 |[],_,h=>by cases h
 |(x,e)::T,a,h=>by
  simp only[mq,aw]at a
  have h:(if(x.cps.toList==k)=true then some (uO e)else wW (T.map fun p=>.str p.1.cps.toList) (T.map fun p=>uO p.2) (.str k))=some d:=h
  show ∃ e',(if decide ((⟨k.toArray⟩:Str)=x)=true then some e else p8 _ T)=some e'/\_
  rw[SV]
  by_cases c:(x.cps.toList==k)=true
  ·rw[if_pos c]at h;cases h
   exact⟨e,if_pos c,a.1,rfl⟩
  ·rw[if_neg c]at h
   obtain⟨e',h1,h2⟩:=LM a.2 h
   exact⟨e',(if_neg c).trans h1,h2⟩
theorem X2 {K:aa}{H:Hp}{e:Uu}{v:V}{u:ae}(s:pJ e=true)(r:RelV v u)(f:Flat u e):Rep K H (uO e) v:=by
 cases e with
 |none=>cases Flat.none_inv f;cases RelV.inj r (show RelV .non .none from rfl);exact .non
 |bool b=>cases Flat.bool_inv f;cases RelV.inj r (show RelV (.bl b) (.bool b)from rfl);exact .bl b
 |int i=>obtain⟨t,rfl⟩:=Flat.int_inv f;cases RelV.inj r (show RelV (.int i) (.int i t)from⟨t,rfl⟩);exact .int i
 |str x=>obtain⟨t,rfl⟩:=Flat.str_inv f;cases RelV.inj r (show RelV (.str x) (.str x t)from⟨t,rfl⟩);exact .str x.cps.toList
 |_=>cases s
theorem X9 {K:aa}{H:Hp}{st:aB}{R:VK}{d d':D}{v v':V}(ok:aV K st H)(r:Rep K H d v)(r':Rep K H d' v')(h:nU d d' st R):Q3 K v v' H (QD K H st R):=by
 unfold nU at h
 split at h
 ·obtain⟨a,vs,rfl,f,g⟩:=r.bX
  cases r'.int_inv
  obtain⟨d,e,q⟩:=fA h
  obtain⟨v,e1,e2⟩:=FW g e
  exact .inl (.inr (.inl ⟨a,vs,_,v,rfl,rfl,f,e1,.here ok e2 q⟩))
 ·obtain⟨a,vs,rfl,f,g⟩:=r.lZ
  cases r'.int_inv
  obtain⟨d,e,q⟩:=fA h
  obtain⟨v,e1,e2⟩:=FW g e
  exact .inl (.inl ⟨a,vs,_,v,rfl,rfl,f.sq,e1,.here ok e2 q⟩)
 ·cases r.str_inv
  cases r'.int_inv
  obtain⟨l,h⟩:=h
  obtain⟨c,e,q⟩:=fA h
  exact .inl (.inr (.inr ⟨_,_,c,rfl,rfl,by rw[gD];simpa [kc]using l,e,.here ok (.str [c]) q⟩))
 ·obtain⟨a,rfl,T,h1,h2,h3,h4⟩:=r.NA
  cases r'.str_inv
  obtain⟨d,e,q⟩:=fA h
  rw[h3,h4]at e
  obtain⟨e',e1,e2,rfl⟩:=LM h2 e
  exact .inr ⟨a,T,_,e',rfl,rfl,h1,e1,e2,fun v u r f=>.here ok (X2 e2 r f) q⟩
 ·cases r.cV
  obtain⟨ds,e,q⟩:=tW ok h
  obtain⟨vs,g1,g2⟩:=ok.lst e
  split at q
  ·cases r'.int_inv
   obtain⟨d,e,q⟩:=fA q
   obtain⟨v,e1,e2⟩:=FW g2 e
   exact .inl (.inl ⟨_,vs,_,v,rfl,rfl,eT.of g1,e1,.here ok e2 q⟩)
  ·exact q.elim
 ·exact h.elim
theorem Sm (ha:PE X a (cA X.K (aG C sub E x)))(hb:PE X b (cA X.K (aG C sub E y)))(hp:vI b):PE X (.Subscript a b pos) (cA X.K (aG C sub E (.ix x y))) :=
 (ZA Jk ha hb hp).imp fun σ H Q ⟨σd,st,R,r,ok,q,hq⟩=>by
 exact two (W:=fun d d' aF=>nU d d' aF R) r ok q hq (fun d d' v v' H2 aF bW r1 r2 h=>X9 bW r1 r2 h) SF
theorem zD {prog:bu}{w:de}{A:cb}{E:ae->ag->Prop}{s:ag}{t sl:Addr}{items:Array ae}{vl vu:ae}{lo hi:Option Int}{Q:ae->ag->Prop}(ht:IsTup s.heap t items)(hs:s.heap.IsSliceOf sl vl vu .none)(pl:va vl lo)(pu:va vu hi)
  (hw:HT.cJ items.size 0 lo=0/\HT.cJ items.size items.size hi=items.size)(h:Q (.ref t) s):wpAny (model prog w) A (vb (.ref t) (.ref sl)) Q E s:=by
 obtain⟨os,hos,hcs,hds⟩:=id hs
 have hTs:s.TypeIs (.ref sl) "slice":=⟨os,hos,hcs⟩
 unfold vb
 try with_reducible refine gk ?_
 first|refine af (ar ?_)|skip
 refine af (si ht.typeIs (by decide) ?_)
 refine af (i5 (name:=j8 "__getitem__") ht.typeIs g7
  (fu g7 ht.typeIs xb ?_ (yd _ _)))
 show wpAny _ _ (gv (.ref t) >>= _) _ _ s
 refine af (xo ht ?_)
 refine af (vc hTs ?_)
 rw[if_pos (by decide)]
 refine af (HT.tG hs pl pu ?_)
 have hyes:(((HT.cJ items.size 0 lo:Nat):Int)==0&&(1:Int)==1&&(HT.cJ items.size items.size hi-HT.cJ items.size 0 lo)==items.size)=true:=by
  rw[hw.1,hw.2];simp
 show wpAny _ _ (if(((HT.cJ items.size 0 lo:Nat):Int)==0&&(1:Int)==1&&(HT.cJ items.size items.size hi-HT.cJ items.size 0 lo)==items.size)=true then _ else _) _ _ s
 rw[if_pos hyes]
 have hex:∀{Q:Bool->ag->Prop},Q true s->wpAny (model prog w) A.in1 (rl (.ref t)) Q E s:=fun h=>by
  unfold rl
  exact af (vc ht.typeIs (ar h))
 refine af (hex ?_)
 rw[if_pos rfl]
 exact af (vf (ar ⟨_,rfl,ar h⟩))
theorem RY (n d:Nat)(o:Option Int):HT.cJ n d o=cJ n d o:=rfl
theorem aL.cut {K:aa}{H:Hp}{ds:List D}{vs:List V}(r:aL K H ds vs)(lo hi:Option Int):aL K H (cut ds lo hi) (cut vs lo hi):=by
 unfold L3.cut
 rw[r.length]
 exact(r.drop _).take _
def Jz (K:aa):V->Option Int->Option Int->Hp->L2.VK->Prop:=fun x lo hi H Q=>∃ a xs,x=.ref a/\eU K H a xs/\(HT.cJ xs.length 0 lo=0/\HT.cJ xs.length xs.length hi=xs.length)/\Q (.ref a) H
theorem Ar:zR X (Jz X.K):=by
 intro pz s σ H x v vl vu lo hi sl Q I rx hs pl pu h
 obtain⟨a,xs,rfl,hx,hw,q⟩:=h
 cases rx
 obtain⟨aD,r,ht,hz⟩:=I.tuple hx
 have hlen:aD.toArray.size=xs.length:=by rw[av];exact r.length.symm
 refine⟨"tuple", _,PyProof.Rows.slot_tuple_getitem.lookup,ht.typeIs,?_⟩
 exact zD ht hs pl pu (by rw[hlen];exact hw) ⟨.ref a,H,I,rfl,q⟩
abbrev Fc (K:aa):V->Option Int->Option Int->Hp->L2.VK->Prop:=fun x lo hi H Q=>Ip K x lo hi H Q∨Jz K x lo hi H Q∨Gi K x lo hi H Q
theorem Ia:zR X (Fc X.K):=zR.or L2.K1 (zR.or Ar Bj)
set_option tactic.hygienic true in
theorem XD {K:aa}{H:Hp}{st:aB}{R:VK}{Q:L2.VK}{d:D}{v:V}{lo hi:Option Int}(ok:aV K st H)(r:Rep K H d v)(h:EW d lo hi st R)(hq:∀ v H',QD K H st R v H'->Q v H'):Fc K v lo hi H Q:=by
 unfold EW at h
 split at h
 ·rename_i ds0
  obtain⟨a,vs,rfl,f,g⟩:=r.bX
  by_cases hw:HT.cJ vs.length 0 lo=0/\HT.cJ vs.length vs.length hi=vs.length
  ·refine .inr (.inl ⟨a,vs,rfl,f,hw,hq _ _ (.here ok r ?_)⟩)
   have e:L3.cut ds0 lo hi=ds0:=by
    unfold L3.cut
    rw[g.length,<-RY,<-RY,hw.1,hw.2,rk,Nat.sub_zero,<-g.length,zt]
   rw[e]at h
   exact h
  ·exact .inl ⟨a,vs,rfl,f,hw,fun p hp=>hq _ _ (.MP ok (g.cut lo hi) hp h)⟩
 ·cases r.cV
  obtain⟨ds,e,h⟩:=eH h
  obtain⟨vs,g1,g2⟩:=ok.lst e
  exact .inr (.inr ⟨_,vs,rfl,eT.of g1,fun p hp=>hq _ _ (.iP ok (g2.cut lo hi) hp h)⟩)
 ·exact h.elim
inductive GR (K:aa)(te:St->aB->(List D->aB->Prop)->Prop)(σ:L2.St)(H:Hp)(Q:Option Int->Hp->Prop):Prop where
 |mk (σd:St)(st:aB)(R:Option Int->aB->Prop)(r:dO K H σd σ)(ok:aV K st H)(q:te σd st (fun ds aA=>pS ds fun o=>R o aA))(hq:∀(o:Option Int) H',QX K H st (R o) H'->Q o H'):GR K te σ H Q
theorem _root_.L2.PO.imp {X:Cx}{e:Option Expr}{t t':TO}(i:∀ σ H Q,t' σ H Q->t σ H Q)(h:PO X e t):PO X e t':=fun pz s σ H Q I q=>h pz s σ H Q I (i σ H Q q)
theorem ZZ:PO X none (GR X.K (bQ C sub E [])) :=
 Df.imp fun σ H Q ⟨σd,st,R,r,ok,q,hq⟩=>by
 exact hq _ _ ⟨st,.refl,ok,q⟩
theorem Co (h:PE X e (cA X.K (aG C sub E x))):PO X (some e) (GR X.K (bQ C sub E [x])) :=
 (Ag h).imp fun σ H Q ⟨σd,st,R,r,ok,q,hq⟩=>by
 refine⟨σd,st,_,r,ok,q,fun v H1 ⟨d,aC,s1,aS,r1,q1⟩=>?_⟩
 cases d with
 |int i=>cases r1.int_inv;exact⟨i,rfl,hq _ _ ⟨aC,s1,aS,q1⟩⟩
 |_=>exact q1.elim
theorem Qa {lo hi:Option Expr}{xl xh:List Ex}{p2:Pos}(ha:PE X a (cA X.K (aG C sub E x)))(hl:PO X lo (GR X.K (bQ C sub E xl)))(hh:PO X hi (GR X.K (bQ C sub E xh))):
 PE X (.Subscript a (.Slice lo hi none p2) pos) (cA X.K (aG C sub E (.sl x xl xh))) :=
 (XA Ia ha hl hh).imp fun σ H Q ⟨σd,st,R,r,ok,q,hq⟩=>by
 refine⟨σd,st,_,r,ok,q,fun v H1 ⟨d,aC,s1,aS,r1,q1⟩=>?_⟩
 refine⟨σd,aC,_,r.step ok s1,aS,q1,fun lo H2 ⟨aF,s2,bW,q2⟩=>?_⟩
 refine⟨σd,aF,_,(r.step ok s1).step aS s2,bW,q2,fun hi H3 ⟨aX,s3,qV,q3⟩=>?_⟩
 exact XD qV ((r1.step aS s2).step bW s3) q3 fun v H' z=>hq _ _ (.after ((s1.trans s2).trans s3) z)
def yY (X:Cx)(f:ae)(W:List D->aB->VK->Prop):Prop :=
 ∀(pz:List (Addr×Obj))(s:ag)(σ:L2.St)(H:Hp)(st:aB)(ds:List D)(vs:List V)(us:List ae)(R:VK),Inv X pz σ H s->aV X.K st H->aL X.K H ds vs->aU vs us->W ds st R ->
 wpAny (model X.prog X.w) X.A (call f us) (EP X pz σ (QD X.K H st R)) X.xe s
inductive Ez (K:aa)(W:List D->aB->VK->Prop)(vs:List V)(H:Hp)(Q:L2.VK):Prop where
 |mk (ds:List D)(st:aB)(R:VK)(r:aL K H ds vs)(ok:aV K st H)(q:W ds st R)(hq:∀ v H',QD K H st R v H'->Q v H'):Ez K W vs H Q
theorem yY.call {f:ae}{W:List D->aB->VK->Prop}(h:yY X f W):yC X f (Ez X.K W):=fun pz s σ H vs us Q I rv ⟨ds,st,R,r,ok,q,hq⟩ =>
 bD (h pz s σ H st ds vs us R I ok r rv q) fun u s' ⟨v,H',I',r',z⟩=>⟨v,H',I',r',hq _ _ z⟩
theorem MF {K:aa}{W:List D->aB->VK->Prop}{xs:List Ex}{σ:L2.St}{H:Hp}{Q:L2.VK}(h:cA K (fun σ st R=>bQ C sub E xs σ st fun ds aA=>W ds aA R) σ H Q):Je (Ez K W) (lW K (bQ C sub E xs)) σ H Q:=by
 obtain⟨σd,st,R,r,ok,q,hq⟩:=h
 refine⟨σd,st,_,r,ok,q,fun vs H1 ⟨ds,aC,s1,aS,r1,q1⟩=>?_⟩
 exact⟨ds,aC,R,r1,aS,q1,fun v H' z=>hq _ _ (.after s1 z)⟩
theorem Li {W:List D->aB->VK->Prop}{n:Str}{id:String}{p:Pos}{es:List Expr}{xs:List Ex}(hW:yY X (.builtin id) W)(hg:Gl X n)(hm:X.mg n=none)(hv:cz n=some (.builtin id))(ha:PA X (e::es) (lW X.K (bQ C sub E xs)))
 (hn:n ≠"__name__")(hdb:(n==("__debug__" : Str))=false)(he:ao (e::es) X.env=(false,eval e X.env)::ao es X.env)(dA:(du pos (ao es X.env)).any (·.1)=false):
 PE X (.Call (.Name n p) (e::es) [] pos) (cA X.K fun σ st R=>bQ C sub E xs σ st fun ds aA=>W ds aA R) :=
 (KA hW.call hg hm hv ha hn hdb he dA).imp fun σ H Q h=>MF h
theorem Jn {W:List D->aB->VK->Prop}{n:Str}{T:String}{p:Pos}{es:List Expr}{xs:List Ex}(hW:yY X (.type T) W)(hg:Gl X n)(hm:X.mg n=none)(hv:cz n=some (.type T))(ha:PA X (e::es) (lW X.K (bQ C sub E xs)))
 (hn:n ≠"__name__")(hdb:(n==("__debug__" : Str))=false)(he:ao (e::es) X.env=(false,eval e X.env)::ao es X.env)(dA:(du pos (ao es X.env)).any (·.1)=false):
 PE X (.Call (.Name n p) (e::es) [] pos) (cA X.K fun σ st R=>bQ C sub E xs σ st fun ds aA=>W ds aA R) :=
 (TQ hW.call hg hm hv ha hn hdb he dA).imp fun σ H Q h=>MF h
theorem aL.one {K:aa}{H:Hp}{d:D}{vs:List V}(r:aL K H [d] vs):∃ v,vs=[v]/\Rep K H d v:=by
 cases r with|cons h r=>cases r;exact⟨_,rfl,h⟩
theorem TN {K:aa}{H:Hp}{st:aB}{d:D}{v:V}{P:Nat->Prop}(ok:aV K st H)(r:Rep K H d v)(h:rD d st P):∃ n,Ei K v H n/\P n:=by
 unfold rD at h
 split at h
 ·obtain⟨a,vs,rfl,f,g⟩:=r.bX
  exact⟨_,.inr ⟨vs,f,g.length⟩,h⟩
 ·cases r.str_inv
  exact⟨_,⟨by rw[gD];simpa [kc]using h.1,by simp [kc]⟩,h.2⟩
 ·cases r.cV
  obtain⟨ds,e,h⟩:=tW ok h
  obtain⟨vs,g1,g2⟩:=ok.lst e
  exact⟨_,.inl ⟨vs,eT.of g1,g2.length⟩,h⟩
 ·obtain⟨a,vs,rfl,f,g⟩:=r.lZ
  exact⟨_,.inl ⟨vs,f.sq,g.length⟩,h⟩
 ·exact h.elim
theorem cU:yY X (.builtin "len") (iA .len):=by
 intro pz s σ H st ds vs us R I ok r rv q
 match ds,q with
 |[d],q =>
 have q:rD d st fun n=>R (.int (n:Nat)) st:=q
 obtain⟨v,rfl,rd⟩:=r.one
 obtain⟨n,l,q⟩:=TN ok rd q
 exact VX pz s σ H _ us _ I rv ⟨v,n,rfl,l,.here ok (.int _) q⟩
 |[],q=>exact(show False from q).elim
 |_::_::_,q=>exact(show False from q).elim
end
end L3
end
section
namespace L3
open PySem PySem.Spec PyProof.Rows L2
section
variable {X:Cx}{pz:List (Addr×Obj)}{σ:L2.St}{H:Hp}{s:ag}
def SU (K:aa)(H:Hp)(a:Addr)(vs:List V):Prop:=eT K H a vs∨eU K H a vs
theorem C8 {A:cb}{E:ae->ag->Prop}{a:Addr}{vs:List V}{Q:ae->ag->Prop}(hh:A.handled=none)(I:Inv X pz σ H s)(h:SU X.K H a vs)
  (hQ:∀(aD:List ae)(I0:Addr)(fp wr:List Addr)(St:Nat->Heap->Prop)(s₂:ag),aU vs aD->Walks X.prog X.w A I0 fp wr aD.length (fun i v=>aD[i]? = some v) St->St 0 s₂.heap->(∀ b∈fp,b<s₂.heap.objs.size) ->
   (∀ h' tk,(∀ b o,b∉wr->s₂.heap.get? b=some o->h'.get? b=some o)->Inv X pz σ H { s₂ with heap:=h',toks:=tk })->Q (.ref I0) s₂):wpAny (model X.prog X.w) A (wb (.ref a)) Q E s:=by
 rcases h with h|h
 ·obtain⟨aD,r,p,hz⟩:=I.list h
  have hl:=p.isList
  have cO:a<s.heap.objs.size:=by obtain⟨_,e,_⟩:=hl;exact bh e
  have W:=Walks.list (prog:=X.prog) (w:=X.w) (A:=A) hh s.heap.objs.size a (cg cO) aD.toArray
  have e1:aD.toArray.size=aD.length:=by simp
  have e2:(fun(i:Nat)(v:ae)=>aD.toArray[i]? = some v)=fun i v=>aD[i]? = some v:=by funext i v;simp
  rw[e1,e2]at W
  refine zd hl (hQ aD s.heap.objs.size _ _ _ _ r W ⟨⟨_,bj _ rfl,rfl,rfl⟩,hl.push _⟩ (fun b hb=>?_) fun h' tk hk=>?_)
  ·show b<(s.heap.push _).objs.size
   rw[jr]
   rcases List.mem_cons.mp hb with rfl|hb
   ·exact gh _
   ·rcases List.mem_cons.mp hb with rfl|hb
    ·exact j9 cO
    ·cases hb
  ·exact I.kept (t':=tk) (old_kept hk)
 ·obtain⟨aD,r,p,hz⟩:=I.tuple h
  have hl:s.heap.IsTuple a aD.toArray:=p
  have cO:a<s.heap.objs.size:=by obtain⟨_,e,_⟩:=hl;exact bh e
  have W:=Wg (prog:=X.prog) (w:=X.w) (A:=A) hh s.heap.objs.size a (cg cO) aD.toArray
  have e1:aD.toArray.size=aD.length:=by simp
  have e2:(fun(i:Nat)(v:ae)=>aD.toArray[i]? = some v)=fun i v=>aD[i]? = some v:=by funext i v;simp
  rw[e1,e2]at W
  refine rm hl (hQ aD s.heap.objs.size _ _ _ _ r W ⟨⟨_,bj _ rfl,rfl,rfl⟩,hl.push _⟩ (fun b hb=>?_) fun h' tk hk=>?_)
  ·show b<(s.heap.push _).objs.size
   rw[jr]
   rcases List.mem_cons.mp hb with rfl|hb
   ·exact gh _
   ·rcases List.mem_cons.mp hb with rfl|hb
    ·exact j9 cO
    ·cases hb
  ·refine I.kept (t':=tk) fun b o e=>hk b o (fun hm=>?_) (ai _ e)
   rcases List.mem_cons.mp hm with e1|hm
   ·exact absurd (e1▸Heap.lt_size e) (fh _)
   ·cases hm
theorem nI {K:aa}{st:aB}{d:D}{v:V}{P:List Nat->List D->Prop}(ok:aV K st H)(r:Rep K H d v)(h:dY d st P):∃ a vs as ds,v=.ref a/\SU K H a vs/\aL K H ds vs/\P as ds:=by
 unfold dY at h
 split at h
 ·obtain⟨a,vs,rfl,f,g⟩:=r.bX
  exact⟨a,vs,_,_,rfl,.inr f,g,h⟩
 ·cases r.cV
  obtain⟨ds,e,h⟩:=eH h
  obtain⟨vs,g1,g2⟩:=ok.lst e
  exact⟨_,vs,_,ds,rfl,.inl (eT.of g1),g2,h⟩
 ·obtain⟨a,vs,rfl,f,g⟩:=r.lZ
  exact⟨a,vs,_,_,rfl,.inl f.sq,g,h⟩
 ·exact h.elim
theorem DH {K:aa}:∀{ds:List D}{vs:List V}{aD:List ae}{bs:List Bool},boolsOf ds=some bs->aL K H ds vs->aU vs aD->aD=bs.map qy
 |_,_,_,_,h,.nil,.nil=>by cases h;rfl
 |d::ds,_,_,bs,h,.cons r1 r2,.cons v1 v2=>by
  cases d with
  |bl b =>
   simp only[boolsOf,dq]at h
   obtain⟨bs',e,rfl⟩:=h
   cases r1.fX
   cases v1
   rw[DH e r2 v2];rfl
  |_=>simp [boolsOf]at h
theorem all_range (bs:List Bool):(bb bs.length).all (fun i=>(bs[i]?).getD true)=bs.all id:=by
 induction bs with
 |nil=>rfl
 |cons b bs ih =>
 simp only[bf,ky,mq,qt,ot,jc,nz,jo,id]
 rw[<-ih]
theorem any_range (bs:List Bool):(bb bs.length).any (fun i=>(bs[i]?).getD true)=bs.any id:=by
 induction bs with
 |nil=>rfl
 |cons b bs ih =>
 simp only[bf,ky,kf,kz,ot,jc,nz,jo,id]
 rw[<-ih]
theorem CB {prog:bu}{w:de}{A:cb}(bs:List Bool):TruthOf prog w A (fun i v=>(bs.map qy)[i]? = some v) (fun i=>(bs[i]?).getD true):=fun i v s Q E hP hQ=>by
 have hP:(bs.map qy)[i]? = some v:=hP
 rw[bc,dq]at hP
 obtain⟨b,e,rfl⟩:=hP
 simp only[e,jo]at hQ
 exact lx hQ
theorem jF (hh:X.A.handled=none):yY X (.builtin "all") (iA .all):=by
 intro pz s σ H st ds vs us R I ok r rv q
 match ds,q with
 |[d],q =>
 have q:iA .all [d] st R:=q
 rw[S9]at q
 obtain⟨v,rfl,rd⟩:=r.one
 obtain⟨u,rfl,ru⟩:=vals1 rv
 obtain⟨a,ws,as,xs,rfl,sa,g,q⟩:=nI ok rd q
 cases ru
 obtain⟨bs,e,q⟩:=fA q
 refine call_all_walk (C8 (A:=X.A.in1) hh I sa fun aD I0 fp wr St s₂ rr W h0 hfp hk=>?_)
 cases DH e g rr
 refine⟨I0,fp,wr,_,_,St,_,rfl,W,h0,CB bs,fun h' tk hk'=>⟨.bl _,H,hk h' tk hk',rfl,?_⟩⟩
 rw[ab,all_range]
 exact .here ok (.bl _) q
 |[],q=>exact(show False from q).elim
 |_::_::_,q=>exact(show False from q).elim
theorem HC (hh:X.A.handled=none):yY X (.builtin "any") (iA .any):=by
 intro pz s σ H st ds vs us R I ok r rv q
 match ds,q with
 |[d],q =>
 have q:iA .any [d] st R:=q
 rw[SG]at q
 obtain⟨v,rfl,rd⟩:=r.one
 obtain⟨u,rfl,ru⟩:=vals1 rv
 obtain⟨a,ws,as,xs,rfl,sa,g,q⟩:=nI ok rd q
 cases ru
 obtain⟨bs,e,q⟩:=fA q
 refine call_any_walk (C8 (A:=X.A.in1) hh I sa fun aD I0 fp wr St s₂ rr W h0 hfp hk=>?_)
 cases DH e g rr
 refine⟨I0,fp,wr,_,_,St,_,rfl,W,h0,CB bs,fun h' tk hk'=>⟨.bl _,H,hk h' tk hk',rfl,?_⟩⟩
 rw[ab,any_range]
 exact .here ok (.bl _) q
 |[],q=>exact(show False from q).elim
 |_::_::_,q=>exact(show False from q).elim
theorem EI:yY X (.type "list") (iA .list):=by
 intro pz s σ H st ds vs us R I ok r rv q
 match ds,q with
 |[d],q =>
 have q:iA .list [d] st R:=q
 rw[OR]at q
 obtain⟨v,rfl,rd⟩:=r.one
 obtain⟨a,ws,as,xs,rfl,sa,g,q⟩:=nI ok rd q
 exact MD pz s σ H _ us _ I rv ⟨a,ws,rfl,sa,fun l hl=>.iP ok g hl q.2⟩
 |[],q=>exact(show False from q).elim
 |_::_::_,q=>exact(show False from q).elim
theorem gI:yY X (.type "tuple") (iA .tuple):=by
 intro pz s σ H st ds vs us R I ok r rv q
 match ds,q with
 |[d],q =>
 have q:iA .tuple [d] st R:=q
 rw[KI]at q
 obtain⟨v,rfl,rd⟩:=r.one
 obtain⟨a,ws,as,xs,rfl,sa,g,q⟩:=nI ok rd q
 rcases sa with sa|sa
 ·exact yT pz s σ H _ us _ I rv ⟨a,ws,rfl,.inl ⟨sa,fun l hl=>.MP ok g hl q.2⟩⟩
 ·exact yT pz s σ H _ us _ I rv ⟨a,ws,rfl,.inr ⟨sa,.here ok (.tup sa g) q.2⟩⟩
 |[],q=>exact(show False from q).elim
 |_::_::_,q=>exact(show False from q).elim
theorem N0 {K:aa}:∀{ds:List D}{vs:List V}{aD:List ae}{is:List Int},intsOf ds=some is->aL K H ds vs->aU vs aD->ve aD is
 |_,_,_,_,h,.nil,.nil=>by cases h;exact .nil
 |d::ds,_,_,bs,h,.cons r1 r2,.cons v1 v2=>by
  cases d with
  |int i =>
   simp only[intsOf,dq]at h
   obtain⟨bs',e,rfl⟩:=h
   cases r1.int_inv
   obtain⟨t,rfl⟩:=v1
   exact .cons _ _ (N0 e r2 v2)
  |_=>simp [intsOf]at h
noncomputable def KS (is:List Int)(i:Nat):Int:=(is[i]?).getD 0
theorem S2:∀{aD:List ae}{is:List Int},ve aD is->∀(i:Nat)(v:ae),aD[i]? = some v->∃ t,v=.int (KS is i) t
 |_,_,.nil,i,v,e=>by simp at e
 |_,_,.cons n t r,0,v,e=>by simp at e;exact⟨t,e.symm⟩
 |_,_,.cons n t r,i+1,v,e=>by
  obtain⟨t',e'⟩:=S2 r i v (by simpa using e)
  exact⟨t',by simpa [KS]using e'⟩
theorem OY:∀{aD:List ae}{is:List Int},ve aD is->aD.length=is.length
 |_,_,.nil=>rfl
 |_,_,.cons _ _ r=>by simp [OY r]
theorem take_snoc {r:List Int}{k:Nat}(h:k<r.length):r.take (k+1)=r.take k++[r[k]]:=by rw[List.take_succ_eq_append_getElem h]
theorem DK (is:List Int):∀ n,n<=is.length->preSum (KS is) n=(is.take n).sum
 |0,_=>rfl
 |n+1,h=>by
  rw[take_snoc (by omega),List.sum_append,<-DK is n (by omega)]
  simp [preSum,KS,ah (show n<is.length by omega)]
theorem RP (hh:X.A.handled=none):yY X (.builtin "sum") (iA .sum):=by
 intro pz s σ H st ds vs us R I ok r rv q
 match ds,q with
 |[d],q =>
 have q:iA .sum [d] st R:=q
 rw[UM]at q
 obtain⟨v,rfl,rd⟩:=r.one
 obtain⟨u,rfl,ru⟩:=vals1 rv
 obtain⟨a,ws,as,xs,rfl,sa,g,q⟩:=nI ok rd q
 cases ru
 obtain⟨is,e,q⟩:=fA q
 refine call_sum_walkG (C8 (A:=X.A.in1) hh I sa fun aD I0 fp wr St s₂ rr W h0 hfp hk=>?_)
 have ia:=N0 e g rr
 have hl:=OY ia
 refine⟨I0,fp,wr,_,_,St,KS is,rfl,W,h0,hfp,fun j v e=>S2 ia j v e,fun h' tk t' hk'=>?_⟩
 refine⟨.int _,H,hk h' tk hk',⟨t',rfl⟩,?_⟩
 rw[hl,DK is is.length (az _),zt]
 exact .here ok (.int _) q
 |[],q=>exact(show False from q).elim
 |_::_::_,q=>exact(show False from q).elim
theorem Ud {K:aa}{a:Addr}{vs:List V}(h:H a=some (.lst vs)):VD K "list" (.ref a) H:=.inl ⟨rfl,vs,eT.of h⟩
theorem B2 (l:Addr)(items:Array ae)(n:Nat)(b:Addr)(items2:Array ae)(n2:Nat)(dd:Option Addr)(sl:Array (Option ae))(hs0:¬(!items.isEmpty&&dz (items.size+items2.size))=true)(hs1:items.size<=sizeLine)(hs2:items.size+items2.size<=sizeLine+1):
 Meets (Builtin.«list.extend» ⟨[.ref l,.ref b],[]⟩) (fun _ R s=>s.heap.get? l=some { cls:=.type "list", dict:=none,data:=.seq items n,slots:=#[] }/\s.heap.get? b=some { cls:=.type "tuple", dict:=dd,data:=.seq items2 n2,slots:=sl }/\R (.ok (.ret jd)) { s with heap:=s.heap.update l (jw fun x=>x++items2),toks:=s.toks }) :=
 .of_wp fun prog w A R s h=>by
 obtain⟨hp,g,d,tk,os⟩:=s;obtain⟨hl,hb,h⟩:=h;have f1:=AutoSeq1.idx_int;have f2:=AutoSeq1.sub_tuple_tuple;have f3:=AutoSeq1.sub_list_list;have f4:=AutoSeq1.sub_tuple_list;have f5:=AutoSeq1.sub_list_tuple;
 have hz':(items++items2).size<=sizeLine+1:=by rw[Array.size_append];exact hs2
 wp_walk using(qg hl rfl (hz:=hs1) (_hz':=hz')),tj hl,tj hb;exact⟨_,rfl,h⟩
def V7 (K:aa):V->List V->Hp->L2.VK->Prop:=fun x vs H Q=>∃ l b xs zs,x=.ref l/\vs=[.ref b]/\H l=some (.lst xs)/\eU K H b zs/\xs.length+zs.length<=sizeLine/\Q .non (upd H l (.lst (xs++zs)))
theorem Q1:Y8 X "list.extend" (V7 X.K):=by
 intro pz s σ H x vs v us Q I rx rv h
 obtain⟨l,b,xs,zs,rfl,rfl,hH,hB,hz,q⟩:=h
 cases rx
 obtain⟨u,rfl,ru⟩:=rv.one
 cases ru
 obtain⟨z,aD,n,r,hl,e⟩:=I.yD hH
 obtain⟨oZ,r2,p2,_⟩:=I.tuple hB
 have hl2:=r2.length
 obtain⟨⟨cls,dd,data,sl⟩,ho,hc,n2,hd⟩:=id p2
 simp only at hc hd
 subst hc hd
 have lE:aD.toArray.size+oZ.toArray.size<=sizeLine:=by rw[av,av];omega
 have hlong:¬(!aD.toArray.isEmpty&&dz (aD.toArray.size+oZ.toArray.size))=true:=by
  rw[C2 lE,cq]
  exact e9
 refine ni ye ⟨_,e,rfl⟩ xf (wm _ _)
  (B2 l aD.toArray n b oZ.toArray n2 dd sl hlong (by rw[av];omega) (by omega)) ⟨e,ho,?_⟩
 refine⟨.non,_,I.RN (mL:=aD++oZ) hH e (by simp) (r.append r2) ?_,rfl,q⟩
 rw[bp]
 omega
def ND (X:Cx)(T id:String)(W:D->List D->aB->VK->Prop):Prop :=
 ∀(pz:List (Addr×Obj))(s:ag)(σ:L2.St)(H:Hp)(st:aB)(d:D)(ds:List D)(v:V)(vs:List V)(u:ae)(us:List ae)(R:VK),Inv X pz σ H s->aV X.K st H->Rep X.K H d v->RelV v u->aL X.K H ds vs->aU vs us->W d ds st R ->
 wpAny (model X.prog X.w) X.A (call (.builtin id) (u::us)) (EP X pz σ (QD X.K H st R)) X.xe s
inductive Jh (K:aa)(W:D->List D->aB->VK->Prop)(v:V)(vs:List V)(H:Hp)(Q:L2.VK):Prop where
 |mk (d:D)(ds:List D)(st:aB)(R:VK)(r:Rep K H d v)(rs:aL K H ds vs)(ok:aV K st H)(q:W d ds st R)(hq:∀ v H',QD K H st R v H'->Q v H'):Jh K W v vs H Q
theorem ND.mt {T id:String}{W:D->List D->aB->VK->Prop}(h:ND X T id W):Y8 X id (Jh X.K W):=fun pz s σ H v vs u us Q I rv rvs ⟨d,ds,st,R,r,rs,ok,q,hq⟩ =>
 bD (h pz s σ H st d ds v vs u us R I ok r rv rs rvs q) fun u s' ⟨v,H',I',r',z⟩=>⟨v,H',I',r',hq _ _ z⟩
theorem UN:ND X "list" "list.append" (kP .append):=by
 intro pz s σ H st d ds v vs u us R I ok r rv rs rvs q
 cases d<;>first|exact(show False from q).elim|skip
 match ds,q with
 |[d],q =>
 cases r.cV
 obtain⟨w,rfl,rd⟩:=rs.one
 obtain⟨xs,e,q⟩:=eH (st:=st) q
 obtain⟨ys,g1,g2⟩:=ok.lst e
 exact L2.uS pz s σ H _ _ u us _ I rv rvs ⟨_,ys,w,rfl,rfl,g1,by rw[gD,<-g2.length];exact q.1,.set ok e (g2.append (.cons rd .nil)) .non q.2⟩
 |[],q=>exact(show False from q).elim
 |_::_::_,q=>exact(show False from q).elim
theorem TH:ND X "list" "list.extend" (kP .extend):=by
 intro pz s σ H st d ds v vs u us R I ok r rv rs rvs q
 cases d<;>first|exact(show False from q).elim|skip
 match ds,q with
 |[d],q =>
 cases r.cV
 obtain⟨w,rfl,rd⟩:=rs.one
 obtain⟨xs,e,q⟩:=eH (st:=st) q
 obtain⟨ys,g1,g2⟩:=ok.lst e
 have q:zH d st fun zs=>xs.length+zs.length<=bH/\R .non (put st _ (.lst (xs++zs))):=q
 cases d<;>first|exact(show False from q).elim|skip
 ·obtain⟨b,ws,rfl,f,g⟩:=rd.bX
  exact Q1 pz s σ H _ _ u us _ I rv rvs ⟨_,b,ys,ws,rfl,rfl,g1,f,by rw[gD,<-g2.length,<-g.length];exact q.1,.set ok e (g2.append g) .non q.2⟩
 ·cases rd.cV
  obtain⟨zs,e2,q⟩:=eH (st:=st) q
  obtain⟨ws,k1,k2⟩:=ok.lst e2
  exact L2.zE pz s σ H _ _ u us _ I rv rvs ⟨_,_,ys,ws,rfl,rfl,g1,k1,by rw[gD,<-g2.length,<-k2.length];exact q.1,.set ok e (g2.append k2) .non q.2⟩
 |[],q=>exact(show False from q).elim
 |_::_::_,q=>exact(show False from q).elim
theorem Fo:ND X "list" "list.pop" (kP .pop):=by
 intro pz s σ H st d ds v vs u us R I ok r rv rs rvs q
 cases d<;>first|exact(show False from q).elim|skip
 match ds,q with
 |[],q =>
 cases r.cV
 cases rs
 obtain⟨xs,e,q⟩:=eH (st:=st) q
 obtain⟨ys,g1,g2⟩:=ok.lst e
 obtain⟨d,e2,q⟩:=fA q
 obtain⟨w,k1,k2⟩:=g2.get e2
 exact L2.MZ pz s σ H _ _ u us _ I rv rvs ⟨_,ys,w,rfl,rfl,g1,by rw[<-g2.length];exact k1,.set ok e g2.dropLast k2 q⟩
 |_::_,q=>exact(show False from q).elim
theorem U7 {K:aa}{m:MT}{st:aB}{d:D}{v:V}(hm:m≠.index)(ok:aV K st H)(r:Rep K H d v)(h:A0 m d st):VD K "list" v H:=by
 unfold A0 at h
 split at h
 all_goals first|(exact h.elim;done)|(exact absurd rfl hm;done)|skip
 all_goals
 cases r.cV
 obtain⟨ds,e,_⟩:=eH h
 obtain⟨vs,g,_⟩:=ok.lst e
 exact Ud g
end
section
variable {X:Cx}{C:bE}{sub:Nat->Nat->Bool}{E:XK}{a b c e o:Expr}{x y z:Ex}{pos apos lI:Pos}
theorem UH {m:MT}{name:Str}{id:String}{es:List Expr}{xs:List Ex}(hmi:m≠.index)(slot:Slot "list" name id)(hty:Wr (.builtin id)=pure (.type "method_descriptor"))(hm:ND X "list" id (kP m))(ho:PE X o (cA X.K (aG C sub E x)))(ha:PA X (e::es) (lW X.K (bQ C sub E xs)))
 (kU:f7 o name X.env (eval o X.env)=eval o X.env)
 (vG:((du lI (ao (e::es) X.env)).all (fun x=>!x.1)&&(oi lI (j6 [] X.env)).all (fun x=>x.1.isSome)&&decide ((e::es).length+([]:List qs).length+(if([]:List qs).isEmpty then 0 else 1)<30))=true)(kW:(apos.endLine==lI.line)=true)
 (hs:ao (e::es) X.env=(false,eval e X.env)::ao es X.env)(tP:(du lI (ao es X.env)).any (·.1)=false):
 PE X (.Call (.Attribute o name apos) (e::es) [] lI) (cA X.K (aG C sub E (.cT m x xs))) :=
 (Kf n4 slot hty hm.mt ho ha kU vG kW hs tP).imp fun σ H Q ⟨σd,st,R,r,ok,q,hq⟩=>by
 refine⟨σd,st,_,r,ok,q,fun v H1 ⟨d,aC,s1,aS,r1,q1⟩=>⟨U7 hmi aS r1 q1.1,?_⟩⟩
 refine⟨σd,aC,_,r.step ok s1,aS,q1.2,fun vs H2 ⟨ds,aF,s2,bW,r2,q2⟩=>?_⟩
 exact⟨d,ds,aF,R,r1.step aS s2,r2,bW,q2,fun v H' z=>hq _ _ (.after (s1.trans s2) z)⟩
theorem As {m:MT}{name:Str}{id:String}(hmi:m≠.index)(slot:Slot "list" name id)(hty:Wr (.builtin id)=pure (.type "method_descriptor"))(hm:ND X "list" id (kP m))(ho:PE X o (cA X.K (aG C sub E x)))
 (kU:f7 o name X.env (eval o X.env)=eval o X.env)(kW:(apos.endLine==lI.line)=true):
 PE X (.Call (.Attribute o name apos) [] [] lI) (cA X.K (aG C sub E (.cT m x []))) :=
 (Fd n4 slot hty hm.mt ho kU kW).imp fun σ H Q ⟨σd,st,R,r,ok,q,hq⟩=>by
 refine⟨σd,st,_,r,ok,q,fun v H1 ⟨d,aC,s1,aS,r1,q1⟩=>⟨U7 hmi aS r1 q1.1,?_⟩⟩
 exact⟨d,[],aC,R,r1,.nil,aS,q1.2,fun v H' z=>hq _ _ (.after s1 z)⟩
inductive gA (K:aa)(C:bE)(f:Nat)(vs:List V)(H:Hp)(Q:L2.VK)(E:L2.XK):Prop where
 |mk (ds:List D)(st:aB)(R:VK)(r:aL K H ds vs)(ok:aV K st H)(q:C f ds st R (fun _ _=>False))(hq:∀ v H',QD K H st R v H'->Q v H'):gA K C f vs H Q E
theorem Ec {CX:CD}{k:Nat}{f:Addr}{fid:Nat}{fd:gu}{ps:List Str}{n:Str}{p:Pos}{es:List Expr}{xs:List Ex}(F:fS X.prog X.w X.K X.mg X.base CX k f fd ps (gA X.K C fid))(hr:dC k X.A)(hg:Gl X n)(hm:X.mg n=some (.ref f))
 (hk:ff X.K (.ref f)=true)(hb:Binds X.K fd ps [])(hx:qM CX X E0)(ha:PA X (e::es) (lW X.K (bQ C sub (fun _ _=>False) xs)))
 (hdb:(n==("__debug__" : Str))=false)(he:ao (e::es) X.env=(false,eval e X.env)::ao es X.env)(dA:(du pos (ao es X.env)).any (·.1)=false):
 PE X (.Call (.Name n p) (e::es) [] pos) (cA X.K (aG C sub (fun _ _=>False) (.call fid xs))) :=
 (Dc F hr hg hm hk hb .nil hx ha hdb he dA).imp fun σ H Q ⟨σd,st,R,r,ok,q,hq⟩=>by
 refine⟨σd,st,_,r,ok,q,fun vs H1 ⟨ds,aC,s1,aS,r1,q1⟩=>?_⟩
 show gA X.K C fid (vs++[]) H1 Q E0
 rw[eh]
 exact⟨ds,aC,R,r1,aS,q1,fun v H' z=>hq _ _ (.after s1 z)⟩
end
noncomputable abbrev EF:XK:=fun _ _=>False
structure ER (K:aa)(H:Hp)(st:aB)(P:gZ)(D:Ends):Prop where
 nx:∀ σ' H' eB aA,dO K H' eB σ'->Step H st H' aA->aV K aA H'->P.nx eB aA->D.nx σ' H'
 rt:∀ v H',QD K H st P.rt v H'->D.rt v H'
 bk:∀ σ' H' eB aA,dO K H' eB σ'->Step H st H' aA->aV K aA H'->P.bk eB aA->D.bk σ' H'
 ct:∀ σ' H' eB aA,dO K H' eB σ'->Step H st H' aA->aV K aA H'->P.ct eB aA->D.ct σ' H'
 ex:∀ c σd st,¬P.ex c σd st
theorem ER.after {K:aa}{H H1:Hp}{st aC:aB}{P:gZ}{D:Ends}(h:ER K H st P D)(s:Step H st H1 aC):ER K H1 aC P D :=
 ⟨fun σ' H' eB aA r t ok q=>h.nx σ' H' eB aA r (s.trans t) ok q,fun v H' z=>h.rt v H' (.after s z),fun σ' H' eB aA r t ok q=>h.bk σ' H' eB aA r (s.trans t) ok q,fun σ' H' eB aA r t ok q=>h.ct σ' H' eB aA r (s.trans t) ok q,h.ex⟩
inductive iV (K:aa)(ts:gZ->St->aB->Prop)(D:Ends)(σ:L2.St)(H:Hp):Prop where
 |mk (σd:St)(st:aB)(P:gZ)(r:dO K H σd σ)(ok:aV K st H)(q:ts P σd st)(h:ER K H st P D):iV K ts D σ H
section
variable {X:Cx}{C:bE}{sub:Nat->Nat->Bool}{a b c e:Expr}{x y z:Ex}{pos:Pos}{s:Stmt}{ss:List Stmt}{xs:List Sx}{sx:Sx}
theorem Lu:lQ X [] (iV X.K (cY C sub [])) :=
 Bw.imp fun D σ H ⟨σd,st,P,r,ok,q,h⟩=>by
 exact h.nx _ _ _ _ r .refl ok q
theorem Ed (h1:PS X s (iV X.K (wpS C sub sx)))(h2:lQ X ss (iV X.K (cY C sub xs))):lQ X (s::ss) (iV X.K (cY C sub (sx::xs))) :=
 (W9 h1 h2).imp fun D σ H ⟨σd,st,P,r,ok,q,h⟩=>by
 exact⟨σd,st,_,r,ok,q,⟨fun σ' H' eB aA r' s' fZ q'=>⟨eB,aA,P,r',fZ,q',h.after s'⟩,h.rt,h.bk,h.ct,h.ex⟩⟩
theorem sS {P:gZ}{σd:St}{st:aB}{x:Ex}{Q:VK}(hC:bZ C C)(he:∀ c σd st,¬P.ex c σd st)(q:aG C sub (fun c aA=>P.ex c σd aA) x σd st Q):aG C sub EF x σd st Q :=
 aY hC (fun c st z=>he _ _ _ z) x (fun _ _ z=>z) q
theorem Oj {P:gZ}{σd:St}{st:aB}{xs:List Ex}{Q:List D->aB->Prop}(hC:bZ C C)(he:∀ c σd st,¬P.ex c σd st)(q:bQ C sub (fun c aA=>P.ex c σd aA) xs σd st Q):bQ C sub EF xs σd st Q :=
 cZ hC (fun c st z=>he _ _ _ z) xs (fun _ _ z=>z) q
theorem Mh (hC:bZ C C)(h:PE X e (cA X.K (aG C sub EF x))):PS X (.Return (some e) pos) (iV X.K (wpS C sub (.ret x))) :=
 (Fk h).imp fun D σ H ⟨σd,st,P,r,ok,q,h⟩=>by
 exact⟨σd,st,_,r,ok,sS hC h.ex q,h.rt⟩
theorem Ea:PS X (.Return none pos) (iV X.K (wpS C sub (.ret (.c .non)))) :=
 Bv.imp fun D σ H ⟨σd,st,P,r,ok,q,h⟩=>by
 exact h.rt _ _ (.here ok .non q)
theorem Qy (hC:bZ C C)(h:PE X e (cA X.K (aG C sub EF x)))(hs:l5 e none pos.line X.env=pure false):PS X (.Expr e pos) (iV X.K (wpS C sub (.ex x))) :=
 (Bd h hs).imp fun D σ H ⟨σd,st,P,r,ok,q,h⟩=>by
 exact⟨σd,st,_,r,ok,sS hC h.ex q,fun v H' ⟨d,aA,s',fZ,_,q'⟩=>h.nx _ _ _ _ (r.step ok s') s' fZ q'⟩
theorem Su {as bs:List Stmt}{ax bx:List Sx}(hC:bZ C C)(hc:PT X c (kJ X.K (aG C sub EF x)))(ha:lQ X as (iV X.K (cY C sub ax)))(hb:lQ X bs (iV X.K (cY C sub bx))):PS X (.If c as bs pos) (iV X.K (wpS C sub (.iff x ax bx))) :=
 (Ot hc ha hb).imp fun D σ H ⟨σd,st,P,r,ok,q,h⟩=>by
 refine⟨σd,st,fun k aA=>if k=true then cY C sub ax P σd aA else cY C sub bx P σd aA,r,ok,sS hC h.ex q,fun k H' ⟨aA,s',fZ,q'⟩=>?_⟩
 cases k with
 |true=>exact⟨σd,aA,P,r.step ok s',fZ,q',h.after s'⟩
 |false=>exact⟨σd,aA,P,r.step ok s',fZ,q',h.after s'⟩
theorem Gd {cl:Nat}{es:List Ex}(hC:bZ C C)(hn:∀ σd st,¬bQ C sub EF es σd st fun _ _=>False):PS X s (iV X.K (wpS C sub (.rais cl es))) :=
 WN.imp fun D σ H ⟨σd,st,P,r,ok,q,h⟩=>by
 exact hn σd st (cZ hC (fun c st z=>(h.ex _ _ _ z).elim) es (fun _ _ z=>(h.ex _ _ _ z).elim) q)
inductive KJ (K:aa)(g:D->St->aB->(St->aB->Prop)->Prop)(v:V)(σ:L2.St)(H:Hp)(Q:L2.St->Hp->Prop):Prop where
 |mk (d:D)(σd:St)(st:aB)(M:St->aB->Prop)(r:Rep K H d v)(sr:dO K H σd σ)(ok:aV K st H)(q:g d σd st M)(hq:∀ σ' H' eB aA,dO K H' eB σ'->Step H st H' aA->aV K aA H'->M eB aA->Q σ' H'):KJ K g v σ H Q
theorem _root_.L2.PG.imp {X:Cx}{e:Expr}{t t':TG}(i:∀ v σ H Q,t' v σ H Q->t v σ H Q)(h:PG X e t):PG X e t':=fun pz s σ H v u Q I r q=>h pz s σ H v u Q I r (i v σ H Q q)
theorem X5 {E:XK}{i:Nat}(h:PG X e (EK i)):PG X e (KJ X.K (nZ C sub E (.nm i))) :=
 h.imp fun v σ H Q ⟨d,σd,st,M,rd,r,ok,q,hq⟩=>by
 exact hq _ _ _ _ (r.set i rd) .refl ok q
theorem Q2 {tg:Expr}{t:Tg}(hC:bZ C C)(he:PE X e (cA X.K (aG C sub EF x)))(hg:PG X tg (KJ X.K (nZ C sub EF t)))
 (hs:pj [tg] e pos.line X.env=pure false)(hw:pk [tg] e X.env=pure none)(h1:(e8 [tg] X.env).map (·.2)=[mh tg X.env]):PS X (.Assign [tg] e pos) (iV X.K (wpS C sub (.asg t x))) :=
 (Gm he hg hs hw h1).imp fun D σ H ⟨σd,st,P,r,ok,q,h⟩=>by
 refine⟨σd,st,_,r,ok,sS hC h.ex q,fun v H' ⟨d,aA,s',fZ,rd,q'⟩=>?_⟩
 refine⟨d,σd,aA,P.nx,rd,r.step ok s',fZ,xM hC (fun c st z=>h.ex _ _ _ z) (fun _ _ z=>z) t q',fun σ2 H2 uU aF r2 s2 bW q2=>?_⟩
 exact h.nx _ _ _ _ r2 (s'.trans s2) bW q2
theorem Aj {bs:List Stmt}{bx:List Sx}(hC:bZ C C)(hp:qx (model X.prog X.w) X.A X.env X.xe)(hc:PT X c (kJ X.K (aG C sub EF x)))(hb:lQ X bs (iV X.K (cY C sub bx))):PS X (.While c bs [] pos) (iV X.K (wpS C sub (.whl x bx))) :=
 (WG hp hc hb).imp fun D σ H ⟨σd,st,P,r,ok,q,h⟩=>by
 obtain⟨n,q⟩:=q
 refine⟨fun m σ' H'=>∃ eB aA,dO X.K H' eB σ'/\Step H st H' aA/\aV X.K aA H'/\qC _ m eB aA,⟨n,σd,st,r,.refl,ok,q⟩,fun m σ1 H1 ⟨σd1,aC,r1,s1,aS,q1⟩=>?_⟩
 cases m with
 |zero=>exact q1.elim
 |succ m =>
  simp only[qC]at q1
  refine⟨σd1,aC,fun k aA=>if k=true then cY C sub bx _ σd1 aA else P.nx σd1 aA,r1,aS,sS hC h.ex q1,fun k H2 ⟨aF,s2,bW,q2⟩=>?_⟩
  cases k with
  |false=>exact h.nx _ _ _ _ (r1.step aS s2) (s1.trans s2) bW q2
  |true =>
  refine⟨fun σ' H'=>∃ eB aA,dO X.K H' eB σ'/\Step H st H' aA/\aV X.K aA H'/\qC _ m eB aA,fun σ' H' z=>⟨m,gh _,z⟩,?_⟩
  refine⟨σd1,aF,_,r1.step aS s2,bW,q2,⟨fun σ' H' eB aA r' s' fZ q'=>⟨eB,aA,r',(s1.trans s2).trans s',fZ,q'⟩,fun v H' z=>h.rt _ _ (.after (s1.trans s2) z),fun σ' H' eB aA r' s' fZ q'=>h.nx _ _ _ _ r' ((s1.trans s2).trans s') fZ q',
   fun σ' H' eB aA r' s' fZ q'=>⟨eB,aA,r',(s1.trans s2).trans s',fZ,q'⟩,h.ex⟩⟩
end
noncomputable def YG (x:Str):It:=⟨fun i _=>i<x.cps.size,fun i H v H'=>H'=H/\∃ c,x.cps[i]? = some c/\v=.str ⟨#[c]⟩,fun i _=>x.cps.size<=i⟩
theorem L5 {P:bu}{w:de}{K:aa}{tg:Expr}(it:Addr)(x:Str)(t:Tok)(ty:String)(hty:["enumerate","zip","dict_itemiterator","dict_reverseitemiterator","odict_iterator","itertools.zip_longest","itertools.pairwise"].contains ty=false)
  (W:∀ A:cb,A.handled=none->Walks P w A it [it] [it] x.cps.size (SignAt x) (fun i h=>h.IsStrIter it ty x t i))
  (hd:∀(A:cb)(i:Nat)(s:ag)(Q:Option ae->ag->Prop)(E:ae->ag->Prop),A.handled=none->s.heap.IsStrIter it ty x t i->x.cps.size<=i->(∀ h',(∀ b o,b≠it->s.heap.get? b=some o->h'.get? b=some o)->Q none { s with heap:=h' })->wpAny (model P w) A (ux (.ref it)) Q E s)
  (hself:∀(A:cb)(i:Nat)(s:ag)(Q:ae->ag->Prop)(E:ae->ag->Prop),s.heap.IsStrIter it ty x t i->Q (.ref it) s->wpAny (model P w) A (wb (.ref it)) Q E s):Turn P w K tg (YG x) [it] it (fun i h=>h.IsStrIter it ty x t i) where
 mem:=by simp
 obj:=fun i h st b hb=>by
  have e:b=it:=by simpa using hb
  subst e
  obtain⟨o,e,c,d⟩:=st
  exact⟨o,e,fun v z=>by rw[d]at z;cases z⟩
 keep:=fun i h h' st k=>let⟨o,e,r⟩:=st;⟨o,k it (by simp) o e,r⟩
 item:=by
  intro X hP hw hK hc i pz s σ H E I hf st hg
  subst hP hw hK
  obtain⟨f0,f1,f2,f3,f4,f5⟩:=hf it (by simp)
  refine(W X.A (I.ok.hd hc)).item i s _ _ hg st fun v h' tk hv aA kk=>?_
  obtain⟨c,u,hc',rfl⟩:=hv
  have I1:Inv X pz σ H { s with heap:=h',toks:=tk }:=I.turned (fun b o hb e=>kk b o (by simpa using hb) e) f0 f1 f3 f4 f5
  obtain⟨o,e,c1,d⟩:=id aA
  exact⟨_,rfl,J9 (s:={ s with heap:=h',toks:=tk }) e c1 d hty ⟨.str ⟨#[c]⟩,H,I1,⟨u,rfl⟩,⟨rfl,c,hc',rfl⟩,aA,fun b hb=>(hf b hb).1⟩⟩
 done:=by
  intro X hP hw hK hc i pz s σ H E I hf st hg
  subst hP hw hK
  obtain⟨f0,f1,f2,f3,f4,f5⟩:=hf it (by simp)
  exact hd X.A i s _ _ (I.ok.hd hc) st hg fun h' eb=>⟨rfl,I.turned (t':=s.toks) (fun b o hb e=>eb b o hb e) f0 f1 f3 f4 f5⟩
 self:=fun A i s Q E st h=>hself A i s Q E st h
structure E5 (K:aa)(J:It)(as:List Nat)(xs:List D)(H1:Hp)(aC:aB):Prop where
 go:∀ i H st d,Step H1 aC H st->aV K st H->same as aC st->xs[i]? = some d->J.go i H
 yld:∀ i H st d x H',Step H1 aC H st->aV K st H->same as aC st->xs[i]? = some d->J.yld i H x H'->Step H st H' st/\aV K st H'/\Rep K H' d x
 stop:∀ i H st,Step H1 aC H st->aV K st H->same as aC st->xs.length<=i->J.stop i H
inductive QJ (K:aa)(H:Hp)(st:aB)(M:List Nat->List D->aB->Prop)(J:It)(H1:Hp):Prop where
 |mk (as:List Nat)(xs:List D)(aC:aB)(s:Step H st H1 aC)(ok:aV K aC H1)(j:E5 K J as xs H1 aC)(q:M as xs aC):QJ K H st M J H1
inductive DA (K:aa)(te:St->aB->(List Nat->List D->aB->Prop)->Prop)(σ:L2.St)(H:Hp)(R:It->Hp->Prop):Prop where
 |mk (σd:St)(st:aB)(M:List Nat->List D->aB->Prop)(r:dO K H σd σ)(ok:aV K st H)(q:te σd st M)(hq:∀ J H1,QJ K H st M J H1->R J H1):DA K te σ H R
section
variable {K:aa}{H1:Hp}{aC:aB}{a:Addr}{xs:List D}{vs:List V}
theorem Bp (aS:aV K aC H1)(f:eU K H1 a vs)(g:aL K H1 xs vs):E5 K (Js K a) [] xs H1 aC where
 go:=fun i H st d s ok _ e=>let⟨v,e1,_⟩:=g.get e;⟨vs,v,yJ aS s f,e1⟩
 yld:=fun i H st d x H' s ok _ e ⟨e',h⟩=>by
  subst e'
  obtain⟨v,e1,e2⟩:=g.get e
  have:=h vs (yJ aS s f)
  rw[e1]at this;cases this
  exact⟨.refl,ok,e2.step aS s⟩
 stop:=fun i H st s ok _ l=>⟨vs,yJ aS s f,by rw[<-g.length];exact l⟩
theorem WX (aS:aV K aC H1)(f:nA K H1 a vs)(g:aL K H1 xs vs):E5 K (YN K a) [] xs H1 aC where
 go:=fun i H st d s ok _ e=>let⟨v,e1,_⟩:=g.get e;⟨vs,v,(uF aS s f).sq,e1⟩
 yld:=fun i H st d x H' s ok _ e ⟨e',h⟩=>by
  subst e'
  obtain⟨v,e1,e2⟩:=g.get e
  have:=h vs (uF aS s f).sq
  rw[e1]at this;cases this
  exact⟨.refl,ok,e2.step aS s⟩
 stop:=fun i H st s ok _ l=>⟨vs,(uF aS s f).sq,by rw[<-g.length];exact l⟩
theorem Bb (aS:aV K aC H1)(e0:aC a=some (.lst xs)):E5 K (YN K a) [a] xs H1 aC where
 go:=fun i H st d s ok sm e=>by
  have e':st a=some (.lst xs):=(sm a (by simp)).trans e0
  obtain⟨us,g1,g2⟩:=ok.lst e'
  obtain⟨v,e1,_⟩:=g2.get e
  exact⟨us,v,eT.of g1,e1⟩
 yld:=fun i H st d x H' s ok sm e ⟨e',h⟩=>by
  subst e'
  have e':st a=some (.lst xs):=(sm a (by simp)).trans e0
  obtain⟨us,g1,g2⟩:=ok.lst e'
  obtain⟨v,e1,e2⟩:=g2.get e
  have:=h us (eT.of g1)
  rw[e1]at this;cases this
  exact⟨.refl,ok,e2⟩
 stop:=fun i H st s ok sm l=>by
  have e':st a=some (.lst xs):=(sm a (by simp)).trans e0
  obtain⟨us,g1,g2⟩:=ok.lst e'
  exact⟨us,eT.of g1,by rw[<-g2.length];exact l⟩
theorem SK (lo:Int)(n:Nat):E5 K (Y5 lo n) [] (iZ lo n) H1 aC where
 go:=fun i H st d s ok _ e=>by
  have:=(List.getElem?_eq_some_iff.mp e).1
  show i<n
  simpa [iZ]using this
 yld:=fun i H st d x H' s ok _ e ⟨e',h⟩=>by
  subst e' h
  simp only[iZ,bc,dq]at e
  obtain⟨k,e1,rfl⟩:=e
  have:k=i:=by
   rw[rz]at e1
   obtain⟨_,e2⟩:=e1
   simp at e2
   exact e2.symm
  subst this
  exact⟨.refl,ok,.int _⟩
 stop:=fun i H st s ok _ l=>by show n<=i;simpa [iZ]using l
theorem PB (x:List Nat):E5 K (YG ⟨x.toArray⟩) [] (x.map fun c=>.str [c]) H1 aC where
 go:=fun i H st d s ok _ e=>by
  have:=(List.getElem?_eq_some_iff.mp e).1
  show i<(⟨x.toArray⟩:Str).cps.size
  simpa using this
 yld:=fun i H st d v H' s ok _ e ⟨e',c,ec,ev⟩=>by
  subst e' ev
  simp only[bc,dq]at e
  obtain⟨c',e1,rfl⟩:=e
  have:c=c':=by
   have ec:x.toArray[i]? = some c:=ec
   simp at ec
   rw[ec]at e1;exact cw e1
  subst this
  exact⟨.refl,ok,.str [c]⟩
 stop:=fun i H st s ok _ l=>by
  show(⟨x.toArray⟩:Str).cps.size<=i
  simpa using l
end
section
variable {X:Cx}{C:bE}{sub:Nat->Nat->Bool}{a b c e tg:Expr}{x y z:Ex}{pos:Pos}
theorem _root_.L2.PI.imp {X:Cx}{tg e:Expr}{t t':TI}(i:∀ σ H Q,t' σ H Q->t σ H Q)(h:PI X tg e t):PI X tg e t':=fun pz s σ H Q I q=>h pz s σ H Q I (i σ H Q q)
theorem Ht {E:XK}(h:PE X e (cA X.K (aG C sub E x))):PI X tg e (DA X.K fun σ st M=>bQ C sub E [x] σ st fun ds aC=>jS none ds aC fun as xs=>M as xs aC):=by
 intro pz s σ H R I ⟨σd,st,M,r,ok,q,hq⟩
 refine bD (h pz s σ H _ I ⟨σd,st,_,r,ok,q,fun v H' z=>z⟩) fun u s1 ⟨v,H1,I1,rv,d,aC,dH,aS,r1,q1⟩=>?_
 have fresh:∀{b:Addr},b∈[s1.heap.objs.size]->oT X pz H1 b:=fun{b} hb=>by
  have e:b=s1.heap.objs.size:=by simpa using hb
  subst e
  exact I1.Q4 (az _) (I1.bT.fresh (az _))
 have tup:∀(a:Addr)(vs:List V)(as:List Nat)(xs:List D),v=.ref a->eU X.K H1 a vs->E5 X.K (Js X.K a) as xs H1 aC->M as xs aC->wpAny (model X.prog X.w) X.A (wb u) (YH X pz σ tg R) X.xe s1:=by
  intro a vs as xs e f j q
  subst e
  cases rv
  obtain⟨aD,rr,p,hz⟩:=I1.tuple f
  exact rm (show s1.heap.IsTuple a aD.toArray from p) ⟨s1.heap.objs.size,[s1.heap.objs.size],_,_,H1,rfl,I1.kept (t':=s1.toks) fun b o e=>ai _ e,P9 a _,⟨_,bj _ rfl,rfl,rfl⟩,fun b hb=>fresh hb,hq _ _ ⟨as,xs,aC,dH,aS,j,q⟩⟩
 have lst:∀(a:Addr)(vs:List V)(as:List Nat)(xs:List D),v=.ref a->eT X.K H1 a vs->E5 X.K (YN X.K a) as xs H1 aC->M as xs aC->wpAny (model X.prog X.w) X.A (wb u) (YH X pz σ tg R) X.xe s1:=by
  intro a vs as xs e f j q
  subst e
  cases rv
  obtain⟨aD,rr,p,hz⟩:=I1.list f
  exact zd p.isList ⟨s1.heap.objs.size,[s1.heap.objs.size],_,_,H1,rfl,I1.kept (t':=s1.toks) fun b o e=>ai _ e,US a _,⟨_,bj _ rfl,rfl,rfl⟩,fun b hb=>fresh hb,hq _ _ ⟨as,xs,aC,dH,aS,j,q⟩⟩
 have q1:pZ d aC fun as xs=>M as xs aC:=q1
 cases d with
 |tup ds =>
  obtain⟨a,vs,e,f,g⟩:=r1.bX
  exact tup a vs _ _ e f (Bp aS f g) q1
 |str z =>
  have q1:z.length<=bH/\M [] (z.map fun c=>.str [c]) aC:=q1
  cases r1.str_inv
  obtain⟨t,rfl⟩:=rv
  cases ha:(⟨z.toArray⟩:Str).cps.all (·< 128)
  ·exact wpAny_pyIter_wide ha ⟨s1.heap.objs.size,[s1.heap.objs.size],_,YG ⟨z.toArray⟩,H1,rfl,I1.kept (t':=s1.toks) fun b o e=>ai _ e,
   L5 s1.heap.objs.size ⟨z.toArray⟩ t "str_iterator" (by decide) (fun A hA=>Walks.strWide hA _ _ t) (fun A i s Q E hA hi hn hQ=>wpAny_pyNext_wide_end hA hi (by simpa using hn) fun h' he=>hQ h' he) (fun A i s Q E hi hQ=>wpAny_pyIter_striter_wide hi hQ),
   ⟨_,bj _ rfl,rfl,rfl⟩,fun b hb=>fresh hb,hq _ _ ⟨_,_,aC,dH,aS,PB z,q1.2⟩⟩
  ·exact wpAny_pyIter_ascii ha ⟨s1.heap.objs.size,[s1.heap.objs.size],_,YG ⟨z.toArray⟩,H1,rfl,I1.kept (t':=s1.toks) fun b o e=>ai _ e,
   L5 s1.heap.objs.size ⟨z.toArray⟩ t "str_ascii_iterator" (by decide) (fun A hA=>Walks.strAscii hA _ _ t) (fun A i s Q E hA hi hn hQ=>wpAny_pyNext_ascii_end hA hi (by simpa using hn) fun h' he=>hQ h' he) (fun A i s Q E hi hQ=>wpAny_pyIter_striter_ascii hi hQ),
   ⟨_,bj _ rfl,rfl,rfl⟩,fun b hb=>fresh hb,hq _ _ ⟨_,_,aC,dH,aS,PB z,q1.2⟩⟩
 |ref a =>
  cases r1.cV
  obtain⟨ds,e,q1⟩:=eH (st:=aC) q1
  obtain⟨vs,g1,g2⟩:=aS.lst e
  exact lst _ vs _ _ rfl (eT.of g1) (Bb aS e) q1
 |bO ds =>
  obtain⟨a,vs,e,f,g⟩:=r1.lZ
  exact lst a vs _ _ e f.sq (WX aS f g) q1
 |_=>exact(show False from q1).elim
theorem ZH {E:XK}{p:Pos}(hC:bZ C C)(hg:Gl X "range")(hm:X.mg "range" = none)(ha:PA X [a] (lW X.K (bQ C sub E [x])))(hs:ao [a] X.env=[(false,eval a X.env)]):
 PI X tg (.Call (.Name "range" p) [a] [] pos) (DA X.K fun σ st M=>bQ C sub E [x] σ st fun ds aC=>jS (some .range) ds aC fun as xs=>M as xs aC) :=
 (SY hg hm ha hs).imp fun σ H R ⟨σd,st,M,r,ok,q,hq⟩=>by
 refine⟨σd,st,_,r,ok,xS [x] hC q,fun vs H1 ⟨ds,aC,s1,aS,r1,l1,q1⟩=>?_⟩
 match ds,l1,q1 with
 |[d],_,q1 =>
  obtain⟨v,rfl,rd⟩:=r1.one
  have q1:jS (some .range) [d] aC fun as xs=>M as xs aC:=q1
  cases d with
  |int j =>
  cases rd.int_inv
  exact⟨j,rfl,q1.1.1,q1.1.2,hq _ _ ⟨_,_,aC,s1,aS,SK 0 _,q1.2⟩⟩
  |_=>exact(show False from q1).elim
theorem ZG {k:Option IK}{aD:List Ex}{iter:Expr}{t:Tg}{bs:List Stmt}{bx:List Sx}(hC:bZ C C)(hp:qx (model X.prog X.w) X.A X.env X.xe)(hc:X.calm=true)
 (hi:PI X tg iter (DA X.K fun σ st M=>bQ C sub EF aD σ st fun ds aC=>jS k ds aC fun as xs=>M as xs aC))(hg:PG X tg (KJ X.K (nZ C sub EF t)))(hb:lQ X bs (iV X.K (cY C sub bx)))
 (hs:∀ x,gq iter X.env x=pure x):PS X (.For tg iter bs [] pos) (iV X.K (wpS C sub (.mB t k aD bx))) :=
 (Ik hp hc hi hg hb hs).imp fun DD σ H ⟨σd,st,P,r,ok,q,h⟩=>by
 refine⟨σd,st,_,r,ok,Oj hC h.ex q,fun J H1 ⟨as,xs,aC,s1,aS,j,q1⟩=>?_⟩
 refine⟨fun i m σ' H'=>∃ eB aA,dO X.K H' eB σ'/\Step H1 aC H' aA/\aV X.K aA H'/\m+i=xs.length/\zO (same as aC) (fun(x:L3.D) next σ st=>nZ C sub (fun c aA=>P.ex c σ aA) t x σ st fun σ' aA=>cY C sub bx { P with nx:=next,ct:=next,bk:=P.nx } σ' aA) P.nx (xs.drop i) eB aA,⟨xs.length,σd,aC,r.step ok s1,.refl,aS,by omega,by simpa using q1⟩,fun i m σ2 H2 ⟨uU,aF,r2,s2,bW,e2,q2⟩=>?_⟩
 by_cases hi':i<xs.length
 ·have ed:xs.drop i=xs[i]::xs.drop (i+1):=b9 hi'
  rw[ed]at q2
  obtain⟨g2,q2⟩:=q2
  refine .inr ⟨j.go i H2 aF xs[i] s2 bW g2 (ah hi'),fun σ' H'=>∃ eB aA,dO X.K H' eB σ'/\Step H1 aC H' aA/\aV X.K aA H'/\zO (same as aC) (fun(x:L3.D) next σ st=>nZ C sub (fun c aA=>P.ex c σ aA) t x σ st fun σ' aA=>cY C sub bx { P with nx:=next,ct:=next,bk:=P.nx } σ' aA) P.nx (xs.drop (i+1)) eB aA,
  fun σ' H' ⟨eB,aA,r',s',fZ,q'⟩=>⟨m-1,by omega,eB,aA,r',s',fZ,by omega,q'⟩,fun v H3 y3=>?_⟩
  obtain⟨s3,qV,r3⟩:=j.yld i H2 aF xs[i] v H3 s2 bW g2 (ah hi') y3
  refine⟨xs[i],uU,aF,_,r3,r2.step bW s3,qV,xM hC (fun c st z=>h.ex _ _ _ z) (fun _ _ z=>z) t q2,fun σ4 H4 σd4 cN r4 s4 PV q4=>?_⟩
  refine⟨σd4,cN,_,r4,PV,q4,⟨fun σ' H' eB aA r' s' fZ q'=>⟨eB,aA,r',((s2.trans s3).trans s4).trans s',fZ,q'⟩,fun v H' z=>h.rt _ _ (.after (((s1.trans s2).trans s3).trans s4) z),
  fun σ' H' eB aA r' s' fZ q'=>h.nx _ _ _ _ r' ((((s1.trans s2).trans s3).trans s4).trans s') fZ q',fun σ' H' eB aA r' s' fZ q'=>⟨eB,aA,r',((s2.trans s3).trans s4).trans s',fZ,q'⟩,h.ex⟩⟩
 ·have ed:xs.drop i=[]:=fx (by omega)
  rw[ed]at q2
  exact .inl ⟨j.stop i H2 aF s2 bW q2.1 (by omega),h.nx _ _ _ _ r2 (s1.trans s2) bW q2.2⟩
end
section
variable {X:Cx}{C:bE}{sub:Nat->Nat->Bool}{a b c e o i tg:Expr}{x y z:Ex}{pos:Pos}
noncomputable def mG (is:List Nat)(vs:List V)(σ:L2.St):L2.St:=(is.zip vs).foldl (fun σ p=>σ.set p.1 (some p.2)) σ
noncomputable def vX (is:List Nat):JM:=fun vs σ H Q=>vs.length=is.length/\Q (mG is vs σ) H
theorem Ir:ED X [] (vX []):=fun pz s σ H vs us Q I r h=>by
 have:vs=[]:=List.length_eq_zero_iff.mp h.1
 subst this
 exact Aq pz s σ H [] us Q I r ⟨rfl,h.2⟩
theorem ZS {es:List Expr}{i:Nat}{is:List Nat}(h1:PG X e (EK i))(h2:ED X es (vX is))(hs:(e8 (e::es) X.env).map (·.2)=mh e X.env::(e8 es X.env).map (·.2)):ED X (e::es) (vX (i::is)):=fun pz s σ H vs us Q I r h=>by
 obtain⟨hl,h⟩:=h
 cases vs with
 |nil=>simp at hl
 |cons v vs=>exact XG h1 h2 hs pz s σ H (v::vs) us Q I r ⟨v,vs,rfl,by simpa using hl,h⟩
theorem dO.dI {K:aa}{H:Hp}:∀(is:List Nat){ds:List D}{vs:List V}{σd:St}{σ:L2.St},dO K H σd σ->aL K H ds vs->dO K H ((is.zip ds).foldl (fun σ p=>σ.set p.1 (some p.2)) σd) (mG is vs σ)
 |[],_,_,_,_,r,_=>by simpa [mG]using r
 |_::_,_,_,_,_,r,.nil=>by simpa [mG]using r
 |i::is,_,_,_,_,r,.cons h t=>by
  have:=dO.dI is (r.set i h) t
  simpa [mG]using this
theorem Qe {E:XK}{es:List Expr}{k:Nat}{is:List Nat}(hc:X.calm=true)(h:ED X es (vX is))(hn:(e8 es X.env).length=is.length)(dN:(e8 es X.env).findIdx? (·.1)=none):
 PG X (.Tuple es k pos) (KJ X.K (nZ C sub E (.tp is))) :=
 (RU hc h hn dN).imp fun v σ H Q ⟨d,σd,st,M,rd,r,ok,q,hq⟩=>by
 cases d with
 |tup ds0 =>
  have q:ds0.length=is.length/\M _ st:=q
  obtain⟨a,vs,rfl,f,g⟩:=rd.bX
  exact⟨a,vs,rfl,f,by rw[<-g.length];exact q.1,by rw[<-g.length];exact q.1,hq _ _ _ _ (r.dI is g) .refl ok q.2⟩
 |_=>exact(show False by cases is<;>exact q).elim
theorem Qc {E:XK}(ho:PE X o (cA X.K (aG C sub E x)))(hi:PE X i (cA X.K (aG C sub E y)))
 (ha:∀ v,mh (.Subscript o i pos) X.env v=(do
  let ov <-kg [v] (eval o X.env)
  let iv <-kg [v,ov] (eval i X.env)
  n5 pos
  kg [v,ov,iv] (Vs ov iv v)
  Wu [v,ov,iv] [])):PG X (.Subscript o i pos) (KJ X.K (nZ C sub E (.ix x y))) :=
 (Du ho hi set_list ha).imp fun v σ H Q ⟨d,σd,st,M,rd,r,ok,q,hq⟩=>by
 refine⟨σd,st,_,r,ok,q,fun v1 H1 ⟨d1,aC,s1,aS,r1,q1⟩=>?_⟩
 refine⟨σd,aC,_,r.step ok s1,aS,q1,fun v2 H2 ⟨d2,aF,s2,bW,r2,q2⟩=>?_⟩
 have r1':=r1.step aS s2
 have rd':=(rd.step ok s1).step aS s2
 have q2:C9 d1 d2 d aF fun aX=>M σd aX:=q2
 cases d1<;>first|exact(show False from q2).elim|skip
 cases d2<;>first|exact(show False from q2).elim|skip
 cases r1'.cV
 cases r2.int_inv
 rw[OD]at q2
 obtain⟨xs,e,q2⟩:=eH q2
 obtain⟨j,ej,q2⟩:=fA q2
 obtain⟨vs,g1,g2⟩:=bW.lst e
 refine⟨_,vs,_,j,rfl,rfl,g1,by rw[<-g2.length];exact ej,?_⟩
 have s3:=lR (H:=H2) (st:=aF) (o:=.lst (vs.set j v)) (m':=.lst (xs.set j d)) e
 exact hq _ _ _ _ (((r.step ok s1).step aS s2).step bW s3) ((s1.trans s2).trans s3) (bW.set e (g2.set rd' j)) q2
end
noncomputable def lS (cells:List (Str×Addr)):List (Str×NameKind)->List (Str×Addr)->List (Str×Addr)
 |[],cs=>cs
 |(n,k)::r,cs=>lS cells r (if k == .free then(n,(cells.lookup n).getD 0)::cs else cs)
theorem EM {env:Env}:∀(names:List (Str×NameKind))(cs:List (Str×Addr)),(∀ p∈names,p.2=.free->∃ c,env.cells.lookup p.1=some c) ->
  (forIn names cs fun(p:Str×NameKind)(cs:List (Str×Addr))=>(if p.2 == .free then do let c <-cellOf env p.1;pure (j0 ((p.1,c)::cs))else pure (j0 cs):Sem (ForInStep (List (Str×Addr)))))=pure (lS env.cells names cs)
 |[],cs,_=>by simp [lS]
 |(n,k)::r,cs,h=>by
  have ih:=fun cs=>EM r cs fun p hp=>h p (cj _ hp)
  simp only[qh,lS]
  cases e:(k==mr)with
  |true =>
   obtain⟨c,hc⟩:=h (n,k) (dh ..) (by simpa using e)
   have hc:env.cells.lookup n=some c:=hc
   simp only[if_true,cellOf,hc,jo,pure_bind]
   exact ih _
  |false =>
   simp only[aq,if_false,pure_bind]
   exact ih _
theorem rK {env:Env}{scope:Scope}(h:∀ p∈scope.names,p.2=.free->∃ c,env.cells.lookup p.1=some c):yj scope env=pure (lS env.cells scope.names []):=by
 rw[<-EM scope.names [] h]
 unfold yj
 simp only[bind_pure]
set_option tactic.hygienic true in
theorem lU {cells:List (Str×Addr)}:∀(names:List (Str×NameKind))(cs:List (Str×Addr)){x:Str}{c:Addr},(∀ p∈names,p.2=.free->∃ c,cells.lookup p.1=some c)->(∀ x c,cs.lookup x=some c->cells.lookup x=some c)->(lS cells names cs).lookup x=some c->cells.lookup x=some c
 |[],cs,x,c,_,h,e=>h x c e
 |(n,k)::r,cs,x,c,hn,h,e=>by
  simp only[lS]at e
  refine lU r _ (fun p hp=>hn p (cj _ hp)) (fun y d ed=>?_) e
  split at ed
  ·rename_i hk
   obtain⟨c',hc'⟩:=hn (n,k) (dh ..) (by simpa using hk)
   have hc':cells.lookup n=some c':=hc'
   rw[c9]at ed
   split at ed
   ·rename_i q
    have q:y=n:=by simpa using q
    subst q
    rw[hc']at ed ⊢
    simpa using ed
   ·exact h y d ed
  ·exact h y d ed
theorem HK {cells:List (Str×Addr)}:∀(names:List (Str×NameKind))(cs:List (Str×Addr)){x:Str},(∃ c,cs.lookup x=some c)->∃ c,(lS cells names cs).lookup x=some c
 |[],cs,x,h=>h
 |(n,k)::r,cs,x,h=>by
  simp only[lS]
  refine HK r _ ?_
  split
  ·rw[c9]
   split
   ·exact⟨_,rfl⟩
   ·exact h
  ·exact h
set_option tactic.hygienic true in
theorem xN {cells:List (Str×Addr)}:∀(names:List (Str×NameKind))(cs:List (Str×Addr)){x:Str},names.lookup x=some .free->∃ c,(lS cells names cs).lookup x=some c
 |[],cs,x,h=>by simp at h
 |(n,k)::r,cs,x,h=>by
  simp only[lS]
  rw[c9]at h
  split at h
  ·rename_i q
   cases h
   refine HK r _ ?_
   simp only[beq_self_eq_true,if_true]
   rw[c9,q]
   exact⟨_,rfl⟩
  ·exact xN r _ h
theorem sU {env:Env}:∀{names:List (Str×NameKind)}{x:Str}{k:ua},(names.map fun(n,k)=>if(k==mr&&env.scope.kind == .function&&env.kindOf n==some .cell)then(n,xt)else(n,k)).lookup x=some k->∃ k',names.lookup x=some k'/\(k'=k∨(k'=.free/\k=.cell))
 |[],x,k,h=>by simp at h
 |(n,k0)::r,x,k,h=>by
  simp only[ay]at h
  cases q:(x==n)with
  |true =>
   refine⟨k0,by simp only[c9,q],?_⟩
   by_cases hc:(k0==mr&&env.scope.kind == .function&&env.kindOf n==some .cell)=true
   ·simp only[hc,if_true,c9,q]at h
    cases h
    simp only[aw]at hc
    exact .inr ⟨by simpa using hc.1.1,rfl⟩
   ·simp only[hc,if_false,c9,q,aq]at h
    cases h
    exact .inl rfl
  |false =>
   simp only[c9,q]
   refine sU (env:=env) (names:=r) ?_
   by_cases hc:(k0==mr&&env.scope.kind == .function&&env.kindOf n==some .cell)=true
   ·simp only[hc,if_true,c9,q]at h
    exact h
   ·simp only[hc,if_false,c9,q,aq]at h
    exact h
set_option tactic.hygienic true in
theorem tM {env:Env}:∀{names:List (Str×NameKind)}{x:Str},names.lookup x=some .free->(names.map fun(n,k)=>if(k==mr&&env.scope.kind == .function&&env.kindOf n==some .cell)then(n,xt)else(n,k)).lookup x=some .cell∨(names.map fun(n,k)=>if(k==mr&&env.scope.kind == .function&&env.kindOf n==some .cell)then(n,xt)else(n,k)).lookup x=some .free
 |[],x,h=>by simp at h
 |(n,k0)::r,x,h=>by
  simp only[ay]
  rw[c9]at h
  split at h
  ·rename_i q;cases h
   split
   ·exact .inl (by rw[c9,q])
   ·exact .inr (by rw[c9,q])
  ·rename_i q
   split
   ·rw[c9,q];exact tM h
   ·rw[c9,q];exact tM h
structure mS (X:Cx)(scope:Scope)(cn:List Str)(aJ:List Nat):Prop where
 kind:scope.kind=.function
 nocell:∀ y∈scope.names,y.2≠.cell
 names:∀ y∈scope.names,y.2=.local->scope.names.lookup y.1=some .local
 free:∀ y∈scope.names,y.2=.free->X.env.kindOf y.1=some .cell∨X.env.kindOf y.1=some .free
 len:cn.length=aJ.length
 cap:∀(j:Nat)(y:Str),cn[j]? = some y->scope.names.lookup y=some .free/\∃ i,aJ[j]? = some i/\X.N[i]? = some y/\(X.env.kindOf y=some .cell∨X.env.kindOf y=some .free)
noncomputable def nH (X:Cx)(scope:Scope)(own cn:List Str)(fp:List Addr)(s:ag)(H:Hp)(Ca:Addr):Cx :=
 { X with N:=own++cn,s₀:=s,H₀:=H,env:=compEnvC scope (lS X.env.cells scope.names []) Ca X.env,outer:=X.stack,ex:=fp,fn:=fun _=>false,calm:=true,pn:=[],xe:=fun _ _=>False }
noncomputable def qY (aJ:List Nat)(σ:L2.St):L2.St:=aJ.map fun i=>(σ[i]?).getD none
section
variable {X:Cx}{scope:Scope}{own cn:List Str}{aJ:List Nat}{fp:List Addr}{pz:List (Addr×Obj)}{σ:L2.St}{H:Hp}{s:ag}
theorem mS.cells (S:mS X scope cn aJ)(ok:X.Ok):∀ p∈scope.names,p.2=.free->∃ c,X.env.cells.lookup p.1=some c:=fun p hp e=>ok.has p.1 (S.free p hp e)
theorem X8 (S:mS X scope cn aJ)(hc:X.calm=true)(I:Inv X pz σ H s)(hf:∀ b∈fp,oT X pz H b)(cO:∀ b∈fp,b<s.heap.objs.size){Ca:Addr}(hC:s.heap.objs.size<=Ca):(nH X scope own cn fp s H Ca).Ok where
 mod:=I.ok.mod
 kind:=S.kind
 glob:=I.ok.glob
 blt:=I.ok.blt
 above:=hC
 inj:=fun x y c h1 h2=>I.ok.inj x y c (lU _ [] (S.cells I.ok) (fun _ _ h=>by simp at h) h1) (lU _ [] (S.cells I.ok) (fun _ _ h=>by simp at h) h2)
 has:=fun x h=>by
  refine xN _ [] ?_
  rcases h with h|h
  ·obtain⟨k,e,r⟩:=sU (env:=X.env) (show gz x (p9 _ scope.names)=_ from h)
   rcases r with rfl|⟨rfl,_⟩
   ·exact absurd rfl (S.nocell _ (gy e))
   ·exact e
  ·obtain⟨k,e,r⟩:=sU (env:=X.env) (show gz x (p9 _ scope.names)=_ from h)
   rcases r with rfl|⟨rfl,r⟩
   ·exact e
   ·cases r
 cab:=fun x c h _=>by cases h
 hd:=fun _=>I.ok.hd hc
 frames:=I.ok.frames
 stk:=.inl rfl
 exf:=fun b hb=>⟨fun e=>absurd (cO b hb) (by rw[e];exact Nat.not_lt.mpr hC),fun x c h=>(hf b hb).2.2.2.2.1 x c (lU _ [] (S.cells I.ok) (fun _ _ h=>by simp at h) h)⟩
 bs:=I.bs
 bsz:=c7 I.ok.bsz I.sz
 noex:=fun b o e hb=>by
  rcases(hf b hb).2.2.2.1 with z|z
  ·exact I.ok.noex b o e z
  ·exact absurd (br (bh e) (c7 I.ok.bsz z)) (fh _)
 exfs:=fun b hb z=>by
  rcases List.mem_cons.mp (I.E7 b z)with e|e
  ·exact(hf b hb).2.1 e
  ·exact(hf b hb).2.2.1 e
 mK:=I.stack
 frf:=I.OH
theorem NQ (S:mS X scope cn aJ)(hc:X.calm=true)(I:Inv X pz σ H s)(hf:∀ b∈fp,oT X pz H b)(cO:∀ b∈fp,b<s.heap.objs.size){Ca:Addr}(hC:s.heap.objs.size<=Ca){h1:Heap}{tk:Nat}
  {m:Str->Option ae}(hn:h1.Ns Ca m)(hk:∀ b o,s.heap.get? b=some o->h1.get? b=some o):
  Inv (nH X scope own cn fp s H Ca) [] (ak own.length none++qY aJ σ) H { s with heap:=h1,toks:=tk } where
 ok:=X8 S hc I hf cO hC
 os:=rfl
 bare:=I.bare
 base:=Un.kept hk
 loc:=⟨m,hn,fun i y v h1' h2 h3=>by
  have hi:own.length<=i:=by
   refine zo fun hi=>?_
   rw[bq (by simpa using hi),iu]at h2
   split at h2<;>cases h2
  rw[cp (by simpa using hi)]at h2
  have h1':(own++cn)[i]? = some y:=h1'
  rw[cp hi]at h1'
  simp only[ll,qY,bc,dq]at h2
  obtain⟨k,e1,e2⟩:=h2
  obtain⟨hfr,i',e3,e4,e5⟩:=S.cap _ y h1'
  rw[e1]at e3;cases e3
  cases e6:σ[k]? with
  |none=>rw[e6]at e2;cases e2
  |some u =>
   rw[e6]at e2
   have e2:u=some v:=e2
   subst e2
   obtain⟨m0,hn0,hl0⟩:=I.loc
   obtain⟨w,rw',lk⟩:=hl0 k y v e4 e6 (e5.elim (fun z=>.inr (.inl z)) fun z=>.inr (.inr z))
   refine⟨w,rw',?_⟩
   rcases lk with⟨z,_⟩|⟨_,c,ec,⟨oc,hoc,hdc⟩⟩
   ·rcases e5 with e5|e5
    ·rw[e5]at z;cases z
    ·rw[e5]at z;cases z
   ·obtain⟨c',ec'⟩:=xN (cells:=X.env.cells) scope.names [] hfr
    have:=lU _ [] (S.cells I.ok) (fun _ _ h=>by simp at h) ec'
    rw[ec]at this;cases this
    exact .inr ⟨tM (env:=X.env) hfr,c,ec',⟨oc,hk _ _ hoc,hdc⟩⟩⟩
 cell:=fun x c h=>by
  obtain⟨v,o,ho,hd⟩:=I.cell x c (lU _ [] (S.cells I.ok) (fun _ _ h=>by simp at h) h)
  exact⟨v,o,hk _ _ ho,hd⟩
 free:=I.bT.fresh hC
 lO:=fun x c h=>I.lO x c (lU _ [] (S.cells I.ok) (fun _ _ h=>by simp at h) h)
 pin:=fun p hp=>absurd (show p∈([]:List (Addr×Obj))from hp) (by simp)
 bT:=I.bT.kept hk
 len:=by
  show(ak own.length none++qY aJ σ).length=(own++cn).length
  simp [qY,S.len]
end
noncomputable def BW (ifs:List Expr)(env:Env):Sem Bool:=forIn ifs true fun c r=>if r=true then do let ok <-zk c env (eval c env);pure (j0 ok)else pure (j0 r)
def HG (X:Cx)(ifs:List Expr)(t:L2.TT):Prop :=
 ∀(pz:List (Addr×Obj))(s:ag)(σ:L2.St)(H:Hp)(Q:Bool->Hp->Prop),Inv X pz σ H s->t σ H Q->wpAny (model X.prog X.w) X.A (BW ifs X.env) (TP X pz σ Q) X.xe s
inductive yG (K:aa)(te:St->aB->(Bool->aB->Prop)->Prop)(σ:L2.St)(H:Hp)(Q:Bool->Hp->Prop):Prop where
 |mk (σd:St)(st:aB)(R:Bool->aB->Prop)(r:dO K H σd σ)(ok:aV K st H)(q:te σd st R)(hq:∀(b:Bool) H',QX K H st (R b) H'->Q b H'):yG K te σ H Q
section
variable {X:Cx}{C:bE}{sub:Nat->Nat->Bool}{E:XK}{a b c e o i tg:Expr}{x y z:Ex}{pos:Pos}
theorem CG (env:Env):∀(ifs:List Expr),(forIn ifs false fun c r=>if r=true then do let ok <-zk c env (eval c env);pure (j0 ok)else pure (j0 r):Sem Bool)=pure false
 |[]=>by simp
 |c::r=>by
  simp only[qh,aq,if_false,pure_bind]
  exact CG env r
theorem Fy:HG X [] (yG X.K (iW C sub E [])):=fun pz s σ H Q I ⟨σd,st,R,r,ok,q,hq⟩=>by
 unfold BW
 simp only[Uz]
 exact ar ⟨H,I,hq true H ⟨st,.refl,ok,q⟩⟩
theorem ZI {es:List Expr}{xs:List Ex}(h:PT X e (kJ X.K (aG C sub E x)))(hs:HG X es (yG X.K (iW C sub E xs))):HG X (e::es) (yG X.K (iW C sub E (x::xs))):=fun pz s σ H Q I ⟨σd,st,R,r,ok,q,hq⟩=>by
 unfold BW
 simp only[qh,if_true]
 refine af (af (bD (h pz s σ H _ I ⟨σd,st,fun k aA=>if k=true then iW C sub E xs σd aA R else R false aA,r,ok,q,fun b H' z=>z⟩) fun k s1 ⟨H1,I1,aC,dH,aS,q1⟩=>ar ?_))
 cases k with
 |true =>
 have q1:iW C sub E xs σd aC R:=q1
 refine hs pz s1 σ H1 _ I1 ⟨σd,aC,R,r.step ok dH,aS,q1,fun b H' ⟨aA,s',fZ,q'⟩=>hq b H' ⟨aA,dH.trans s',fZ,q'⟩⟩
 |false =>
 show wpAny _ _ (forIn es false _) _ _ _
 rw[CG]
 exact ar ⟨H1,I1,hq false H1 ⟨aC,dH,aS,q1⟩⟩
end
theorem ML {prog:bu}{w:de}{A:cb}{s:ag}{R:Vt->ag->Prop}{elt target iter:Expr}{ifs:List Expr}{scope:Scope}{pos:Pos}{it acc:ae}{env:Env}(I:Nat->ag->Prop)
 (turn:∀ n s,I n s->wpAny (model prog w) A (ux it) (fun r s₁=>match r with
  |none=>R (.ok .next) s₁
  |some v=>wpAny (model prog w) A (qe target it v) (fun _ s₁'=>wpAny (model prog w) A (mh target env v) (fun _ s₂ =>
   wpAny (model prog w) A (BW ifs env) (fun ok s₃ =>
   if ok=true then wpAny (model prog w) A (eval elt env) (fun x s₄ =>
    wpAny (model prog w) A (call (.builtin "list.append") [acc,x]) (fun _ s₅=>∃ m,m<n/\I m s₅) (fun _ _=>False) s₄) (fun _ _=>False) s₃
   else ∃ m,m<n/\I m s₃) (fun _ _=>False) s₂) (fun _ _=>False) s₁') (fun _ _=>False) s₁) (fun _ _=>False) s)
 (n:Nat)(h:I n s):
 ku (model prog w) A (.compLoop (.ListComp elt [⟨target,iter,ifs,0⟩] scope pos) 0 it acc env) R s:=by
 refine codeAny_loop rfl I (fun n s hI=>?_) n h
 show wpAny _ A ((compTurn (.ListComp elt [⟨target,iter,ifs,0⟩] scope pos) 0 it acc env).onRaise (fun x=>do noteFrame x env;theTreesLotGoes x)) _ _ s
 refine wpAny_noted ?_
 rw[compTurn_list]
 refine af (ph (af (jq (turn n s hI) (fun r s₁ h₁=>?_) fun _ _ h'=>h'.elim)))
 cases r with
 |none=>exact ar h₁
 |some v =>
 refine af (jq h₁ (fun _ s₁' h₁'=>?_) fun _ _ h'=>h'.elim)
 refine af (jq h₁' (fun _ s₂ h₂=>af (jq h₂ (fun ok s₃ h₃=>?_) fun _ _ h'=>h'.elim)) fun _ _ h'=>h'.elim)
 cases ok with
 |false=>exact ar ⟨rfl,h₃⟩
 |true =>
  exact af (af (jq h₃ (fun x s₄ h₄=>af (jq h₄ (fun _ s₅ h₅=>ar (ar ⟨rfl,h₅⟩)) fun _ _ h'=>h'.elim)) fun _ _ h'=>h'.elim))
noncomputable def OO (K:aa):Bool->Nat->TG
 |true,_=>EK 0
 |false,n=>Jm K n (vX (bb n))
theorem EZ:∀(is:List Nat)(vs:List V)(σ:L2.St)(n i:Nat),(∀ j∈is,j<n)->n<=i->(mG is vs σ)[i]? = σ[i]?
 |[],_,_,_,_,_,_=>by simp [mG]
 |_::_,[],_,_,_,_,_=>by simp [mG]
 |j::is,v::vs,σ,n,i,h,hi=>by
  have:=EZ is vs (σ.set j (some v)) n i (fun k hk=>h k (cj _ hk)) hi
  simp only[mG,la,lb]at this ⊢
  rw[this]
  have:=h j (dh ..)
  rw[ig (by omega)]
theorem JD:∀(is:List Nat)(vs:List V)(σ:L2.St),(mG is vs σ).length=σ.length
 |[],_,_=>by simp [mG]
 |_::_,[],_=>by simp [mG]
 |j::is,v::vs,σ=>by
  have:=JD is vs (σ.set j (some v))
  simp only[mG,la,lb,Uh]at this ⊢
  exact this
theorem QE {K:aa}{H:Hp}{one:Bool}{n:Nat}{d:D}{v:V}{σd:St}{σ:L2.St}{P:St->Prop}{Q:L2.St->Hp->Prop}(hn:one=true->n=1)(h:lK one (bb n) d σd P)(r:dO K H σd σ)(rd:Rep K H d v)
 (hQ:∀ σ2 uU,dO K H uU σ2->P uU->(∀ i,n<=i->σ2[i]? = σ[i]?)->σ2.length=σ.length->Q σ2 H):OO K one n v σ H Q:=by
 cases one with
 |true =>
 cases hn rfl
 have h:P (σd.set 0 (some d)):=h
 refine hQ _ _ (r.set 0 rd) h (fun i hi=>?_) (by simp)
 rw[ig (by omega)]
 |false =>
 cases d with
 |tup ds =>
  rw[TY]at h
  obtain⟨a,vs,rfl,f,g⟩:=rd.bX
  have hl:vs.length=n:=by rw[<-g.length,h.1];simp
  refine⟨a,vs,rfl,f,hl,by simp [hl],hQ _ _ (r.dI _ g) h.2 (fun i hi=>EZ _ _ _ n i (fun j hj=>by simpa using hj) hi) (JD _ _ _)⟩
 |_=>exact(show False by cases n<;>exact h).elim
section
variable {K:aa}{H:Hp}{st:aB}{Da:Addr}{ys zs:List V}
theorem Cp (hD:H Da=some (.lst ys)){a:Addr}{vs:List V}(h:eU K H a vs):eU K (upd H Da (.lst zs)) a vs:=by
 rcases h with(h|⟨o,h⟩)|h
 ·exact .inl (.inl (by rw[bI (RB h hD (by simp))];exact h))
 ·exact .inl (.inr ⟨o,by rw[bI (RB h hD (by simp))];exact h⟩)
 ·exact .inr h
theorem WV (hD:H Da=some (.lst ys)){a:Addr}{vs:List V}(h:nA K H a vs):nA K (upd H Da (.lst zs)) a vs:=by
 rcases h with⟨o,h⟩|h
 ·exact .inl ⟨o,by rw[bI (RB h hD (by simp))];exact h⟩
 ·exact .inr h
mutual
theorem Rep.alt (hD:H Da=some (.lst ys)):∀{d:D}{v:V},Rep K H d v->Rep K (upd H Da (.lst zs)) d v
 |_,_,.non=>.non
 |_,_,.bl b=>.bl b
 |_,_,.int i=>.int i
 |_,_,.str x=>.str x
 |_,_,.tup h r=>.tup (Cp hD h) (aL.alt hD r)
 |_,_,.ref a=>.ref a
 |_,_,.bO h r=>.bO (WV hD h) (aL.alt hD r)
 |_,_,.dE h=>.dE h
theorem aL.alt (hD:H Da=some (.lst ys)):∀{ds:List D}{vs:List V},aL K H ds vs->aL K (upd H Da (.lst zs)) ds vs
 |_,_,.nil=>.nil
 |_,_,.cons h r=>.cons (Rep.alt hD h) (aL.alt hD r)
end
theorem aV.alt (ok:aV K st H)(hD:H Da=some (.lst ys))(hn:st Da=none):aV K st (upd H Da (.lst zs)):=fun a o e=>by
 have ne:a≠Da:=fun z=>by rw[z,hn]at e;cases e
 have:=ok a o e
 cases o with
 |lst ds =>
 obtain⟨vs,q,r⟩:=this
 exact⟨vs,by rw[bI ne];exact q,r.alt hD⟩
 |dic _ _=>exact this.elim
 |ins c fs =>
 obtain⟨C,dx,ws,q,q2,q3,r⟩:=this
 exact⟨C,dx,ws,q,by rw[bI ne];exact q2,q3,r.alt hD⟩
 |tab ks vs =>
 obtain⟨xs,ws,q,q0,q1,q2,q3,q4,q5,r⟩:=this
 exact⟨xs,ws,by rw[bI ne];exact q,q0,q1,q2,q3.alt hD,q4,q5,r.alt hD⟩
 |fn f cs =>
 obtain⟨vs,⟨T,clos,pm,ctv,c',oc,ne0,t,q,ec,co,inj,dom,cap⟩,r⟩:=this
 have ka:∀{b o u},H b=some (.frz o u)->upd H Da (.lst zs) b=some (.frz o u):=fun{b o u} z=>by
  rw[bI (fun w=>by rw[w,hD]at z;cases z)];exact z
 exact⟨vs,⟨T,clos,pm,ctv,c',oc,ne0,t,ka q,ka ec,co,inj,dom,cap.of fun b o z=>ka z⟩,r.alt hD⟩
 |cod κ =>
 obtain⟨q0,q|⟨c',oc,q,ec,co⟩⟩:=this
 ·exact⟨q0,.inl (by rw[bI ne];exact q)⟩
 ·exact⟨q0,.inr ⟨c',oc,by rw[bI ne];exact q,by rw[bI (fun w=>by rw[w,hD]at ec;cases ec)];exact ec,co⟩⟩
theorem aV.take (ok:aV K st H)(hD:H Da=some (.lst ys)){ds:List D}(r:aL K H ds ys):aV K (put st Da (.lst ds)) H:=fun a o e=>by
 by_cases ha:a=Da
 ·subst ha
  rw[aQ]at e;cases e
  exact⟨ys,hD,r⟩
 ·rw[aM ha]at e
  exact ok a o e
end
theorem W6 {K:aa}{H:Hp}{σd:St}{σ:L2.St}(r:dO K H σd σ)(n:Nat)(aJ:List Nat):dO K H (ak n none++aJ.map fun i=>(σd[i]?).getD none) (ak n none++qY aJ σ):=by
 refine⟨by simp [qY],fun i d e=>?_⟩
 by_cases hi:i<n
 ·rw[bq (by simpa using hi),iu]at e
  split at e<;>cases e
 ·rw[cp (by simpa using hi)]at e ⊢
  simp only[ll,bc,dq]at e ⊢
  obtain⟨k,e1,e2⟩:=e
  cases q:σd[k]? with
  |none=>rw[q]at e2;cases e2
  |some u =>
   rw[q]at e2
   have e2:u=some d:=e2
   subst e2
   obtain⟨v,h1,h2⟩:=r.2 k d q
   refine⟨v,?_,h2⟩
   simp only[qY,bc,dq]
   exact⟨k,e1,by rw[h1];rfl⟩
theorem Ak {P:bu}{w:de}{H:Hp}{h h':Heap}{Ca:Addr}(ok:iL P w H h)(hn:H Ca=none)(hs:kq Ca h h'):iL P w H h':=fun b u e=>by
 refine(ok b u e).rA (fun c v hc q=>hs.extBut c v ?_ q) (fun _ q=>q) fun _ _ q=>q
 rcases hc with z|z
 ·rw[z];exact fun y=>by rw[y,hn]at e;cases e
 ·exact fun y=>by rw[y,hn]at z;cases z
section
variable {X:Cx}{C:bE}{sub:Nat->Nat->Bool}{elt iter tg:Expr}{ifs:List Expr}{xe:Ex}{nE aD:List Ex}{pos:Pos}{scope:Scope}{own cn:List Str}{aJ:List Nat}{one:Bool}{k:Option IK}
theorem IF (hC:bZ C C)(S:mS X scope cn aJ)(hc:X.calm=true)(pR:one=true->own.length=1)
  (hg:∀ fp s H Ca,PG (nH X scope own cn fp s H Ca) tg (OO X.K one own.length))
  (hts:∀ fp s H Ca,HG (nH X scope own cn fp s H Ca) ifs (yG X.K (iW C sub EF nE)))
  (he:∀ fp s H Ca,PE (nH X scope own cn fp s H Ca) elt (cA X.K (aG C sub EF xe)))
  {use:Option (ae->Sem Unit)}{Qf:ae->ag->Prop}
  {pz:List (Addr×Obj)}{s₂:ag}{σ:L2.St}{σd:St}{H1:Hp}{aC:aB}{J:It}{fp:List Addr}{it:Addr}{tn:Nat->Heap->Prop}{as:List Nat}{xs:List D}{R:List D->aB->Prop}
  (I2:Inv X pz σ H1 s₂)(T:Turn X.prog X.w X.K tg J fp it tn)(t0:tn 0 s₂.heap)(f2:∀ b∈fp,oT X pz H1 b)(r:dO X.K H1 σd σ)(aS:aV X.K aC H1)(j:E5 X.K J as xs H1 aC)
  (q:kG (same as aC) (fun x aF K=>lK one (bb own.length) x (ak own.length none++aJ.map fun i=>(σd[i]?).getD none) fun σ' =>
    iW C sub EF nE σ' aF fun b aX=>if b=true then aG C sub EF xe σ' aX fun d cN=>K (some d) cN else K none aX) xs [] aC R)
  (fin:∀(Da Ca:Addr)(H':Hp)(aA:aB)(ds:List D)(m:Str->Option ae)(s':ag),s'.heap.Ns Ca m->(∀ h',kq Ca s'.heap h'->Inv X pz σ H' { s' with heap:=h' })->Inv X pz σ H' s'->Ca≠X.env.locals->(∀ x c,X.env.cells.lookup x=some c->c≠Ca)->Ca∉X.fs->X.s₀.heap.objs.size<=Ca->(∀ p∈X.pn++pz,p.1≠Ca)->H' Ca=none->Step H1 aC H' aA->aV X.K (put aA Da (.lst ds)) H'->H1 Da=none->aA Da=none->R ds aA ->
   Wh (model X.prog X.w) X.A X.xe use Qf (.ref Da) Ca (.ok .next) s'):
  wpAny (model X.prog X.w) X.A (newList []) (fun acc s₃ =>
   wpAny (model X.prog X.w) X.A (newFunctionEnv scope X.env.globals (lS X.env.cells scope.names []) [] X.env.qual none .none (some X.env)) (fun cenv s₄ =>
    ku (model X.prog X.w) X.A (.compStart (.ListComp elt [⟨tg,iter,ifs,0⟩] scope pos) 0 (.ref it) acc { cenv with scope:=relabel scope X.env }) (Wh (model X.prog X.w) X.A X.xe use Qf acc cenv.locals) s₄) X.xe s₃) X.xe s₂:=by
 have hD1:H1 s₂.heap.objs.size=none:=I2.fresh
 obtain⟨tf,htf0⟩:∃ tf:D->aB->(Option D->aB->Prop)->Prop,tf=fun x aF K=>lK one (bb own.length) x (ak own.length none++aJ.map fun i=>(σd[i]?).getD none) fun σ' =>
    iW C sub EF nE σ' aF fun b aX=>if b=true then aG C sub EF xe σ' aX fun d cN=>K (some d) cN else K none aX:=⟨_,rfl⟩
 have htf:∀ x aF (K:Option D->aB->Prop),tf x aF K->lK one (bb own.length) x (ak own.length none++aJ.map fun i=>(σd[i]?).getD none) fun σ' =>
    iW C sub EF nE σ' aF fun b aX=>if b=true then aG C sub EF xe σ' aX fun d cN=>K (some d) cN else K none aX:=fun x aF K h=>by rw[htf0]at h;exact h
 rw[<-htf0]at q
 refine gw ?_
 have I3:=I2.VV (aD:=[]) (ys:=[]) (t':=s₂.toks) .nil (dm _)
 generalize hS3:({ s₂ with heap:=s₂.heap.push { cls:=.type "list", dict:=none,data:=.seq ([]:List ae).toArray } }:ag)=s₃
 have I3:Inv X pz σ (upd H1 s₂.heap.objs.size (.lst [])) s₃:=by rw[<-hS3];exact I3
 have lt3:s₂.heap.objs.size<s₃.heap.objs.size:=by rw[<-hS3];show _<(s₂.heap.push _).objs.size;rw[jr];exact gh _
 have old3:∀ b o,s₂.heap.get? b=some o->s₃.heap.get? b=some o:=fun b o e=>by rw[<-hS3];exact ai _ e
 generalize hDa:s₂.heap.objs.size=Da at *
 have hlt2:∀ b∈fp,b<Da:=fun b hb=>by
  obtain⟨o,e,_⟩:=T.obj _ _ t0 b hb
  rw[<-hDa];exact bh e
 have f3:∀ b∈fp,oT X pz (upd H1 Da (.lst [])) b:=fun b hb=>⟨by rw[bI (cg (hlt2 b hb))];exact(f2 b hb).1,(f2 b hb).2⟩
 have hlt3:∀ b∈fp,b<s₃.heap.objs.size:=fun b hb=>Vv (hlt2 b hb) lt3
 refine wx S.nocell (by intro y hy;simp at hy) (fun h₁ hns hsb=>?_) S.kind
 have keep1:∀ b o,s₃.heap.get? b=some o->h₁.get? b=some o:=fun b o e=>hsb.extBut b o (cg (bh e)) (ai _ e)
 have t1:tn 0 h₁:=T.keep _ _ _ t0 fun b hb o e=>keep1 b o (old3 b o e)
 have B0:=NQ (own:=own) S hc I3 f3 hlt3 (az _) (tk:=s₃.toks+([]:List (Str×Value)).length) hns keep1
 generalize hXc:nH X scope own cn fp s₃ (upd H1 Da (.lst [])) s₃.heap.objs.size=Xc at B0
 have hgc:PG Xc tg (OO X.K one own.length):=by rw[<-hXc];exact hg _ _ _ _
 have htc:HG Xc ifs (yG X.K (iW C sub EF nE)):=by rw[<-hXc];exact hts _ _ _ _
 have hec:PE Xc elt (cA X.K (aG C sub EF xe)):=by rw[<-hXc];exact he _ _ _ _
 have eP:Xc.prog=X.prog:=by rw[<-hXc];rfl
 have eW:Xc.w=X.w:=by rw[<-hXc];rfl
 have eK:Xc.K=X.K:=by rw[<-hXc];rfl
 have eA:Xc.A=X.A:=by rw[<-hXc];rfl
 have eX:Xc.xe=fun _ _=>False:=by rw[<-hXc];rfl
 have eN:Xc.env=compEnvC scope (lS X.env.cells scope.names []) s₃.heap.objs.size X.env:=by rw[<-hXc];rfl
 have eL:Xc.env.locals=s₃.heap.objs.size:=by rw[eN];rfl
 have eC:Xc.calm=true:=by rw[<-hXc];rfl
 have fC:∀{H':Hp},(∀ b∈fp,H' b=none)->∀ b∈fp,oT Xc [] H' b:=fun{H'} hn b hb=>by
  have ok:=B0.ok
  refine⟨hn b hb,by rw[eL];exact cg (hlt3 b hb),ok.exfs b (by rw[<-hXc];exact hb),.inl (by rw[<-hXc];exact hb),fun x c e=>(ok.exf b (by rw[<-hXc];exact hb)).2 x c e,fun p hp=>?_⟩
  have:p∈([]:List (Addr×Obj)):=by rw[<-hXc]at hp;exact hp
  cases this
 have capsRel:∀{H':Hp}{aA:aB},Step H1 aC H' aA->dO X.K H' (ak own.length none++aJ.map fun i=>(σd[i]?).getD none) (ak own.length none++qY aJ σ):=fun s'=>(W6 r _ _).step aS s'
 have loop:∀ s4:ag,s4 = { s₃ with heap:=h₁,toks:=s₃.toks+([]:List (Str×Value)).length }->ku (model X.prog X.w) X.A (.compLoop (.ListComp elt [⟨tg,iter,ifs,0⟩] scope pos) 0 (.ref it) (.ref Da) Xc.env) (Wh (model X.prog X.w) X.A X.xe use Qf (.ref Da) s₃.heap.objs.size) s4:=by
  rintro s4 rfl
  refine ML (fun n s'=>∃ i H' aA ds ys,n+i=xs.length/\Inv Xc [] (ak own.length none++qY aJ σ) H' s'/\tn i s'.heap/\(∀ b∈fp,H' b=none)/\Step H1 aC H' aA/\aV X.K aA H'/\H' Da=some (.lst ys)/\aA Da=none/\aL X.K H' ds ys /\
   kG (same as aC) tf (xs.drop i) ds aA R) ?_ xs.length
   ⟨0,_,aC,[],[],rfl,B0,t1,fun b hb=>(f3 b hb).1,tJ hD1,aS.new hD1,dD,aS.fresh hD1,.nil,by simpa using q⟩
  rintro n s' ⟨i,H',aA,ds,ys,hni,I',ti,fr',dH,fZ,hD',hst',rs,q'⟩
  by_cases hi:i<xs.length
  ·-- a turn
   have ed:xs.drop i=xs[i]::xs.drop (i+1):=b9 hi
   rw[ed]at q'
   obtain⟨g1,gl,q'⟩:=q'
   have hx:xs[i]? = some xs[i]:=ah hi
   have hpn:=T.item Xc eP eW eK eC i [] s' _ H' (fun _ _=>False) I' (fC fr') ti (j.go i H' aA xs[i] dH fZ g1 hx)
   rw[eA]at hpn
   refine bD hpn fun rr s5 ⟨u,hu,h5⟩=>?_
   subst hu
   refine bD h5 fun _ s6 ⟨v,H6,I6,rv,y6,t6,fr6⟩=>?_
   obtain⟨s6s,Ka,rd⟩:=j.yld i H' aA xs[i] v H6 dH fZ g1 hx y6
   have D6:=s6s Da _ hD' hst'
   have I6':=I6.pinned (fC fr6) (T.obj _ _ t6)
   have hasg:=hgc _ s6 _ H6 v u (fun σ2 H2=>∃ uU,H2=H6/\dO X.K H6 uU σ2/\(∀ i,own.length<=i->σ2[i]? = (ak own.length none++qY aJ σ)[i]?)/\σ2.length=(ak own.length none++qY aJ σ).length /\
    iW C sub EF nE uU aA fun b aX=>if b=true then aG C sub EF xe uU aX fun d cN=>kG (same as aC) tf (xs.drop (i+1)) (ds++[d]) cN R else kG (same as aC) tf (xs.drop (i+1)) ds aX R) I6' rv
    (QE pR (htf _ _ _ q') ((capsRel dH).step fZ s6s) rd fun σ2 uU r2 p2 k2 l2=>⟨uU,rfl,r2,k2,l2,p2⟩)
   rw[eP,eW,eA,eX]at hasg
   refine bD hasg fun _ s7 ⟨σ2,H7,I7,uU,e7,r7,k7,l7,q7⟩=>?_
   subst e7
   have hte:=htc _ s7 σ2 H7 _ I7 ⟨uU,aA,_,r7,Ka,q7,fun b H' z=>z⟩
   rw[eP,eW,eA,eX]at hte
   have again:∀{H8:Hp}{s8:ag}{eI:aB}{ds8:List D}{ys8:List V},Inv Xc ([]++AS fp s6.heap) σ2 H8 s8->Step H1 aC H8 eI->aV X.K eI H8->H8 Da=some (.lst ys8)->eI Da=none->aL X.K H8 ds8 ys8->kG (same as aC) tf (xs.drop (i+1)) ds8 eI R ->
     ∃ m,m<n/\∃ i H' aA ds ys,m+i=xs.length/\Inv Xc [] (ak own.length none++qY aJ σ) H' s8/\tn i s8.heap/\(∀ b∈fp,H' b=none)/\Step H1 aC H' aA/\aV X.K aA H'/\H' Da=some (.lst ys)/\aA Da=none/\aL X.K H' ds ys/\kG (same as aC) tf (xs.drop i) ds aA R:=fun{H8 s8 eI ds8 ys8} I8 s8s VM hD8 hs8 rs8 q8=>by
    have pinned:∀ b∈fp,∀ o,s6.heap.get? b=some o->s8.heap.get? b=some o/\H8 b=none:=fun b hb o e=>by
     have:=I8.pin (b,o) (fj _ (fj _ (yF hb e)))
     exact⟨this.1,this.2.1⟩
    refine⟨n-1,by omega,i+1,H8,eI,ds8,ys8,by omega,?_,T.keep _ _ _ t6 fun b hb o e=>(pinned b hb o e).1,fun b hb=>?_,s8s,VM,hD8,hs8,rs8,q8⟩
    ·refine I8.xT.weak (by rw[l7]) fun i0 v0 e0=>?_
     by_cases hi0:i0<own.length
     ·rw[bq (by simpa using hi0),iu]at e0
      split at e0<;>cases e0
     ·rw[k7 i0 (by omega)];exact e0
    ·obtain⟨o,e,_⟩:=T.obj _ _ t6 b hb
     exact(pinned b hb o e).2
   have s17:=dH.trans s6s
   have rs7:=rs.step fZ s6s
   refine bD hte fun b s8 ⟨H8,I8,eI,s8s,VM,q8⟩=>?_
   have D8:=s8s Da _ D6.1 D6.2
   have rs8:=rs7.step Ka s8s
   cases b with
   |false=>exact again I8 (s17.trans s8s) VM D8.1 D8.2 rs8 q8
   |true =>
    have hel:=hec _ s8 σ2 H8 _ I8 ⟨uU,eI,_,r7.step Ka s8s,VM,q8,fun v H' z=>z⟩
    rw[eP,eW,eA,eX]at hel
    refine bD hel fun u9 s9 ⟨v9,H9,I9,rv9,d9,tR,s9s,Ue,rd9,q9⟩=>?_
    have D9:=s9s Da _ D8.1 D8.2
    have rs9:=rs8.step VM s9s
    have hap:=L2.uS _ s9 σ2 H9 (.ref Da) [v9] (.ref Da) [u9] (fun _ H'=>H'=upd H9 Da (.lst (ys++[v9]))) I9 rfl (.cons rv9 .nil) ⟨Da,ys,v9,rfl,rfl,D9.1,by rw[gD,<-rs9.length];exact gl,rfl⟩
    rw[eP,eW,eA,eX]at hap
    refine bD hap fun _ s10 ⟨_,H10,I10,_,e10⟩=>?_
    subst e10
    refine again I10 (fun a o e0 n0=>?_) (Ue.alt D9.1 D9.2) dD D9.2 ((rs9.append (.cons rd9 .nil)).alt D9.1) q9
    have:=((s17.trans s8s).trans s9s) a o e0 n0
    exact⟨by rw[bI (jB e0 hD1)];exact this.1,this.2⟩
  ·-- the end
   have ed:xs.drop i=[]:=fx (by omega)
   rw[ed]at q'
   have hpn:=T.done Xc eP eW eK eC i [] s' _ H' (fun _ _=>False) I' (fC fr') ti (j.stop i H' aA dH fZ q'.1 (by omega))
   rw[eA]at hpn
   refine bD hpn fun rr s5 ⟨hr,I5⟩=>?_
   subst hr
   have un5:Un (vQ X.stack) fp (upd H1 Da (.lst [])) H' s₃.heap s5.heap:=by have:=I5.base;rw[<-hXc]at this;exact this
   have os5:s5.os=s₃.os:=by have:=I5.os;rw[<-hXc]at this;exact this
   have fC5:H' s₃.heap.objs.size=none:=by have:=I5.free;rw[eL]at this;exact this
   have hch:∀ b∈fp,(b∈X.ex∨X.s₀.heap.objs.size<=b)/\b≠X.env.locals/\(∀ x c,X.env.cells.lookup x=some c->c≠b)/\∀ p∈X.pn++pz,p.1≠b:=fun b hb=>⟨(f2 b hb).2.2.2.1,(f2 b hb).2.1,(f2 b hb).2.2.2.2.1,(f2 b hb).2.2.2.2.2⟩
   have hok5:iL X.prog X.w H' s5.heap:=by have:=I5.bT;rw[eP,eW]at this;exact this
   have Iall:∀ h',(∀ b o,b≠s₃.heap.objs.size->s5.heap.get? b=some o->h'.get? b=some o)->iL X.prog X.w H' h'->Inv X pz σ H' { s5 with heap:=h' }:=fun h' kk bT=>by
    have ne:∀ b o,s₃.heap.get? b=some o->b≠s₃.heap.objs.size:=fun b o e=>cg (bh e)
    refine I3.YE (s':={ s5 with heap:=h' }) (ch:=fp) os5 ⟨fun b o e n hb hx=>kk b o (ne b o e) (un5.keep b o e n hb hx),fun b o e n hb hx=>?_,un5.free,fun b o e hx=>?_,un5.tO,un5.oY,un5.rM⟩ bT I5.bare hch
    ·obtain⟨sl,e'⟩:=un5.slot b o e n hb hx
     exact⟨sl,kk b _ (ne b o e) e'⟩
    ·obtain⟨o',e'⟩:=un5.there b o e hx
     exact⟨o',kk b o' (ne b o e) e'⟩
   obtain⟨m5,ns5,_⟩:=I5.loc
   rw[eL]at ns5
   refine fin Da s₃.heap.objs.size H' aA ds m5 s5 ns5 (fun h' hs=>Iall h' (fun b o hb e=>hs.extBut b o hb e) (Ak hok5 fC5 hs)) (Iall s5.heap (fun b o _ e=>e) hok5) (oe I3.lt) (fun x c e=>?_) (I3.Ji (az _)) I3.sz (fun p hp=>cg (bh (I3.pin p hp).1)) fC5 dH (fZ.take hD' rs) hD1 hst' q'.2
   obtain⟨v,o,ho,_⟩:=I3.cell x c e
   exact cg (bh ho)
 have hl:=loop _ rfl
 rw[eN]at hl
 exact codeAny_compStart_list hl (T.self X.A 0 _ _ _ t1 hl)
theorem LI {H H1 H':Hp}{st aC aA:aB}{Da:Addr}{o:MO}(s1:Step H st H1 aC)(s2:Step H1 aC H' aA)(hD:H1 Da=none):Step H st H' (put aA Da o):=fun a u e n=>by
 have e1:=s1 a u e n
 have e2:=s2 a u e1.1 e1.2
 exact⟨e2.1,by rw[aM (jB e1.1 hD)];exact e2.2⟩
theorem Jg (hC:bZ C C)(S:mS X scope cn aJ)(hc:X.calm=true)(pR:one=true->own.length=1)
 (hi:PI X tg iter (DA X.K fun σ st M=>bQ C sub EF aD σ st fun ds aC=>jS k ds aC fun as xs=>M as xs aC))
 (hg:∀ fp s H Ca,PG (nH X scope own cn fp s H Ca) tg (OO X.K one own.length))
 (hts:∀ fp s H Ca,HG (nH X scope own cn fp s H Ca) ifs (yG X.K (iW C sub EF nE)))
 (he:∀ fp s H Ca,PE (nH X scope own cn fp s H Ca) elt (cA X.K (aG C sub EF xe)))
 (hs:∀ x,gq iter X.env x=pure x):
 PE X (.ListComp elt [⟨tg,iter,ifs,0⟩] scope pos) (cA X.K (aG C sub EF (.comp own.length aJ (bb own.length) one k aD nE xe))):=by
 intro pz s σ H Q I ⟨σd,st,R,r,ok,q,hq⟩
 rw[eval_ListComp]
 refine tm (use:=none) rfl hs (rK (S.cells I.ok)) S.kind S.names ?_
 refine bD (hi pz s σ H _ I ⟨σd,st,_,r,ok,q,fun J H1 z=>z⟩) fun v s1 h1=>bD h1 fun itv s2 h2=>?_
 obtain⟨it,fp,tn,J,H1,rfl,I2,T,t0,f2,as,xs,aC,dH,aS,j,q1⟩:=h2
 refine IF (use:=none) hC S hc pR hg hts he I2 T t0 f2 (r.step ok dH) aS j q1 ?_
 intro Da Ca H' aA ds m s' hns rN hI _ _ _ _ _ _ gX okp hD1 hst' hR
 exact⟨m,hns,fun h' hh=>⟨.ref Da,H',rN h' hh,rfl,hq _ _ ⟨.ref Da,_,LI dH gX hD1,okp,.ref Da,hR.2 Da hst'⟩⟩⟩
theorem Ds {i:Nat}{y:Str}{py spos:Pos}(hC:bZ C C)(S:mS X scope cn aJ)(hc:X.calm=true)(pR:one=true->own.length=1)
  (hi:PI X tg iter (DA X.K fun σ st M=>bQ C sub EF aD σ st fun ds aC=>jS k ds aC fun as xs=>M as xs aC))
  (hg:∀ fp s H Ca,PG (nH X scope own cn fp s H Ca) tg (OO X.K one own.length))
  (hts:∀ fp s H Ca,HG (nH X scope own cn fp s H Ca) ifs (yG X.K (iW C sub EF nE)))
  (he:∀ fp s H Ca,PE (nH X scope own cn fp s H Ca) elt (cA X.K (aG C sub EF xe)))
  (hN:X.N.Nodup)(hy:X.N[i]? = some y)(hx:Loc X.env.scope y)(hf:X.fn y=true∨X.env.scope.names.lookup y=some .local)
  (hsw:l5 (.ListComp elt [⟨tg,iter,ifs,0⟩] scope pos) (some (.Name y py)) spos.line X.env=pure true)
  (hs:∀ x,gq iter X.env x=pure x):
  PS X (.Assign [.Name y py] (.ListComp elt [⟨tg,iter,ifs,0⟩] scope pos) spos) (iV X.K (wpS C sub (.asg (.nm i) (.comp own.length aJ (bb own.length) one k aD nE xe)))):=by
 intro pz s σ H D I ⟨σd,st,P,r,ok,q,h⟩
 have q:=sS hC h.ex q
 rw[exec_Assign_Name_used _ _ _ _ hsw]
 refine af (ph (af ?_))
 show wpAny _ X.A (do let _ <-comprehension (.ListComp elt [⟨tg,iter,ifs,0⟩] scope pos) scope X.env _ (newList []) false (eval iter X.env) (some (mh (.Name y py) X.env))) _ _ s
 refine af (jq (tm (use:=some (mh (.Name y py) X.env)) (Q:=fun _ s'=>SP X pz D .next s') rfl hs (rK (S.cells I.ok)) S.kind S.names ?_) (fun _ s' hq=>ar (ar hq)) fun _ _ e=>e)
 refine bD (hi pz s σ H _ I ⟨σd,st,_,r,ok,q,fun J H1 z=>z⟩) fun v s1 h1=>bD h1 fun itv s2 h2=>?_
 obtain⟨it,fp,tn,J,H1,rfl,I2,T,t0,f2,as,xs,aC,dH,aS,j,q1⟩:=h2
 refine IF (use:=some (mh (.Name y py) X.env)) hC S hc pR hg hts he I2 T t0 f2 (r.step ok dH) aS j q1 ?_
 intro Da Ca H' aA ds m s' hns rN hI hL hcl hfs lE hpins hn gX okp hD1 hst' hR
 show wpAny _ X.A (mh (.Name y py) X.env (.ref Da)) _ _ _
 refine yo (HN hI hN hy hx (v:=.ref Da) rfl (fun s'' I'' kk=>?_) hf)
 obtain⟨ad,sb,had⟩:=kk
 have nad:Ca≠ad:=fun z=>by
  rcases had with e|e
  ·exact hL (z.trans e)
  ·exact hcl y ad e z.symm
 refine⟨m,hns.at' fun o e=>(sb.2 Ca nad).trans e,fun h' hh=>?_⟩
 refine⟨σ.set i (some (.ref Da)),H',I''.turned (t':=s''.toks) (fun b o hb e=>hh.extBut b o hb e) hn hL (.inr lE) hcl hpins,?_⟩
 have aX:=LI (o:=.lst ds) dH gX hD1
 exact h.nx _ _ _ _ ((r.step ok aX).set i (.ref Da)) aX okp (hR.2 Da hst')
end
theorem HF {K:aa}{H:Hp}{ds:List D}{vs:List V}(r:aL K H ds vs){N:List Str}{np:Nat}(h:ds.length=np):dO K H (start np N.length ds) (L2.start N vs):=by
 refine⟨by simp [start,L2.start,r.length,<-h],fun i d e=>?_⟩
 unfold start at e
 by_cases hi:i<ds.length
 ·rw[bq (by simpa using hi),bc,dq]at e
  obtain⟨d',e1,e2⟩:=e
  cases e2
  obtain⟨v,e3,e4⟩:=r.get e1
  refine⟨v,?_,e4⟩
  unfold L2.start
  rw[bq (by rw[ab,<-r.length];exact hi),bc,e3];rfl
 ·rw[cp (by simpa using hi),iu]at e
  split at e<;>cases e
theorem Bi {P:bu}{w:de}{K:aa}{mg:Str->Option ae}{base:Heap}{G:Prog}{f:Nat}{a:Addr}{fd:gu}{ps:List Str}:fS P w K mg base dP 0 a fd ps (gA K (aI G 0) f):=by
 have no:∀ vs H Q E,¬gA K (aI G 0) f vs H Q E:=fun vs H Q E ⟨_,_,_,_,_,h,_⟩=>h
 exact⟨fun vs H Q E h=>absurd h (no vs H Q E),fun A outer s H args us vs Q E _ _ _ _ h=>absurd h (no vs H Q E)⟩
theorem dZ:cz "len" = some (.builtin "len"):=by decide +kernel
theorem oW:cz "all" = some (.builtin "all"):=by decide +kernel
theorem UA:cz "any" = some (.builtin "any"):=by decide +kernel
theorem Dk:cz "sum" = some (.builtin "sum"):=by decide +kernel
theorem JU:cz "isinstance" = some (.builtin "isinstance"):=by decide +kernel
theorem Ey:cz "int" = some (.type "int"):=by decide +kernel
theorem U5:cz "str" = some (.type "str"):=by decide +kernel
theorem NZ:cz "bool" = some (.type "bool"):=by decide +kernel
theorem BD:cz "list" = some (.type "list"):=by decide +kernel
theorem gW:cz "tuple" = some (.type "tuple"):=by decide +kernel
theorem Dm:cz "set" = some (.type "set"):=by decide +kernel
theorem NJ:cz "reversed" = some (.type "reversed"):=by decide +kernel
noncomputable def LG:Ty->String
 |.int =>"int"
 |.str =>"str"
 |.bool =>"bool"
 |.list =>"list"
 |.tuple =>"tuple"
 |.dict =>"dict"
 |.err _ =>"?"
noncomputable def J8:Ty->Bool
 |.err _=>false
 |_=>true
section
variable {X:Cx}{pz:List (Addr×Obj)}{σ:L2.St}{H:Hp}{s:ag}{st:aB}{sub:Nat->Nat->Bool}
abbrev Fv (X:Cx)(s:ag)(u:ae)(t:Ty)(b:Bool):Prop:=∀(A:cb)(Q:ae->ag->Prop)(E:ae->ag->Prop),(∀ tk,Q (.bool b) { s with toks:=tk })->wpAny (model X.prog X.w) A (call (.builtin "isinstance") [u,.type (LG t)]) Q E s
theorem A3 {a:Addr}(I:Inv X pz σ H s)(h:∃ o,s.heap.get? a=some o/\o.cls=.type "list"){t:Ty}{b:Bool}(e:Va X.K (.type "list") (.type (LG t))=some b):Fv X s (.ref a) t b:=fun A Q E hQ =>
 gg PySem.W.kitx_list I.jN h e (fun z=>nomatch z) hQ
theorem OF {a:Addr}(I:Inv X pz σ H s)(h:∃ o,s.heap.get? a=some o/\o.cls=.type "tuple"){t:Ty}{b:Bool}(e:Va X.K (.type "tuple") (.type (LG t))=some b):Fv X s (.ref a) t b:=fun A Q E hQ =>
 gg PySem.W.kitx_tuple I.jN h e (fun z=>nomatch z) hQ
theorem SI {d:D}{v:V}{u:ae}{t:Ty}{P:Bool->Prop}(I:Inv X pz σ H s)(ok:aV X.K st H)(r:Rep X.K H d v)(rv:RelV v u)(ht:J8 t=true)(h:iY sub d st t P):∃ b,P b/\Fv X s u t b:=by
 cases d with
 |non =>
  cases r.gC;cases rv
  refine⟨false,by cases t<;>exact h,fun A Q E hQ=>gg PySem.W.kitx_none I.jN bz ?_ (fun z=>nomatch z) hQ⟩
  cases t<;>first|rfl|cases ht
 |bl k =>
  cases r.fX;cases rv
  cases t with
  |bool=>exact⟨true,h,fun A Q E hQ=>gg sk I.jN bz rfl (fun z=>nomatch z) hQ⟩
  |int=>exact⟨true,h,fun A Q E hQ=>gg sk I.jN bz rfl (fun z=>nomatch z) hQ⟩
  |err _=>cases ht
  |_=>exact⟨false,h,fun A Q E hQ=>gg sk I.jN bz rfl (fun z=>nomatch z) hQ⟩
 |int k =>
  cases r.int_inv;obtain⟨tk,rfl⟩:=rv
  cases t with
  |int=>exact⟨true,h,fun A Q E hQ=>gg zu I.jN bz rfl (fun z=>nomatch z) hQ⟩
  |err _=>cases ht
  |_=>exact⟨false,h,fun A Q E hQ=>gg zu I.jN bz rfl (fun z=>nomatch z) hQ⟩
 |str k =>
  cases r.str_inv;obtain⟨tk,rfl⟩:=rv
  cases t with
  |str=>exact⟨true,h,fun A Q E hQ=>gg zv I.jN bz rfl (fun z=>nomatch z) hQ⟩
  |err _=>cases ht
  |_=>exact⟨false,h,fun A Q E hQ=>gg zv I.jN bz rfl (fun z=>nomatch z) hQ⟩
 |tup ds =>
  obtain⟨a,vs,rfl,f,g⟩:=r.bX
  cases rv
  obtain⟨aD,_,⟨o,h1,h2,_⟩,_⟩:=I.tuple f
  cases t with
  |tuple=>exact⟨true,h,OF I ⟨o,h1,h2⟩ rfl⟩
  |err _=>cases ht
  |_=>exact⟨false,h,OF I ⟨o,h1,h2⟩ rfl⟩
 |ref a =>
  cases r.cV
  cases rv
  have key:∃ ds,st a=some (.lst ds):=by
   cases e:st a with
   |none=>exfalso;cases t<;>first|(simp only[iY,dX,e]at h)|cases ht
   |some o =>
    cases o with
    |lst ds=>exact⟨ds,rfl⟩
    |dic _ _=>exact(ok a _ e).elim
    |ins _ _=>exfalso;cases t<;>first|(simp only[iY,dX,e]at h)|cases ht
    |tab _ _=>exfalso;cases t<;>first|(simp only[iY,dX,e]at h)|cases ht
    |fn _ _=>exfalso;cases t<;>first|(simp only[iY,dX,e]at h)|cases ht
    |cod _=>exfalso;cases t<;>first|(simp only[iY,dX,e]at h)|cases ht
  obtain⟨ds,e⟩:=key
  obtain⟨vs,g1,_⟩:=ok.lst e
  obtain⟨_,aD,n,_,_,e1⟩:=I.yD g1
  have ho:∃ o,s.heap.get? a=some o/\o.cls=.type "list":=⟨_,e1,rfl⟩
  cases t with
  |list=>simp only[iY]at h;rw[fF e]at h;exact⟨true,h,A3 I ho rfl⟩
  |err _=>cases ht
  |_=>simp only[iY]at h;rw[fF e]at h;exact⟨false,h,A3 I ho rfl⟩
 |bO ds =>
  obtain⟨a,vs,rfl,f,g⟩:=r.lZ
  cases rv
  obtain⟨aD,_,p,_⟩:=I.list f.sq
  obtain⟨o,h1,h2,_⟩:=p.isList
  cases t with
  |list=>exact⟨true,h,A3 I ⟨o,h1,h2⟩ rfl⟩
  |err _=>cases ht
  |_=>exact⟨false,h,A3 I ⟨o,h1,h2⟩ rfl⟩
 |dE _ _=>cases t<;>exact(show False from h).elim
 |exc c=>cases r
end
section
variable {X:Cx}{C:bE}{sub:Nat->Nat->Bool}{E:XK}{a:Expr}{x:Ex}{p p2 pos:Pos}
def Sr (K:aa)(sub:Nat->Nat->Bool)(t:Ty):List V->Hp->L2.VK->Prop:=fun vs H Q=>∃ d v st R,vs=[v,.ty (LG t)]/\Rep K H d v/\aV K st H/\iY sub d st t (fun b=>R (.bl b) st)/\∀ v H',QD K H st R v H'->Q v H'
theorem XR {t:Ty}(ht:J8 t=true):yC X (.builtin "isinstance") (Sr X.K sub t):=by
 intro pz s σ H vs us Q I rv h
 obtain⟨d,v,st,R,rfl,r,ok,h,hq⟩:=h
 cases rv with|cons r1 r2=>cases r2 with|cons r2 r3 =>
 cases r3
 cases r2
 obtain⟨b,hb,hi⟩:=SI I ok r r1 ht h
 exact hi X.A _ _ fun tk=>⟨.bl b,H,I.tok tk,rfl,hq _ _ (.here ok (.bl b) hb)⟩
theorem Oc {t:Ty}{n:Str}(ht:J8 t=true)(hg:Gl X "isinstance")(hm:X.mg "isinstance" = none)(hg2:Gl X n)(hm2:X.mg n=none)(hv2:cz n=some (.type (LG t)))(ha:PE X a (cA X.K (aG C sub E x)))
 (hn2:n ≠"__name__")(hd2:(n==("__debug__" : Str))=false)(he:ao [a,.Name n p2] X.env=(false,eval a X.env)::ao [.Name n p2] X.env)(he2:ao [.Name n p2] X.env=[(false,eval (.Name n p2) X.env)])(dA:(du pos (ao [.Name n p2] X.env)).any (·.1)=false):
 PE X (.Call (.Name "isinstance" p) [a,.Name n p2] [] pos) (cA X.K (aG C sub E (.isi x [t]))) :=
 (KA (XR (sub:=sub) ht) hg hm JU (FU ha (FU (Ad hg2 hm2 hv2 (v:=.ty (LG t)) rfl hn2 hd2) UZ he2) he) (by decide) (by decide) he dA).imp fun σ H Q ⟨σd,st,R,r,ok,q,hq⟩=>by
 refine⟨σd,st,_,r,ok,q,fun v H1 ⟨d,aC,s1,aS,r1,q1⟩=>?_⟩
 exact⟨d,v,aC,R,rfl,r1,aS,q1,fun v H' z=>hq _ _ (.after s1 z)⟩
theorem Og {t:String}{j:Nat}(h:j8 t=⟨(W t).toArray⟩):PE X (.Constant (.str (j8 t)) j pos) (cA X.K (aG C sub E (.c (.str (W t))))) :=
 wA Gg fun H=>by rw[h];exact .str _
end
structure JE (X:Cx)(C:bE)(sub:Nat->Nat->Bool)(E:XK)(e:Expr)(x:Ex):Prop where
 h:PE X e (cA X.K (aG C sub E x))
structure JT (X:Cx)(C:bE)(sub:Nat->Nat->Bool)(E:XK)(e:Expr)(x:Ex):Prop where
 h:PT X e (kJ X.K (aG C sub E x))
structure JW (X:Cx)(C:bE)(sub:Nat->Nat->Bool)(E:XK)(e:Expr)(x:Ex):Prop where
 h:PW X e (kJ X.K (aG C sub E x))
structure JA (X:Cx)(C:bE)(sub:Nat->Nat->Bool)(E:XK)(es:List Expr)(xs:List Ex):Prop where
 h:PA X es (lW X.K (bQ C sub E xs))
structure JO (X:Cx)(C:bE)(sub:Nat->Nat->Bool)(E:XK)(e:Option Expr)(xs:List Ex):Prop where
 h:PO X e (GR X.K (bQ C sub E xs))
structure JI (X:Cx)(C:bE)(sub:Nat->Nat->Bool)(E:XK)(tg e:Expr)(k:Option IK)(xs:List Ex):Prop where
 h:PI X tg e (DA X.K fun σ st M=>bQ C sub E xs σ st fun ds aC=>jS k ds aC fun as ys=>M as ys aC)
structure JG (X:Cx)(C:bE)(sub:Nat->Nat->Bool)(E:XK)(tg:Expr)(t:Tg):Prop where
 h:PG X tg (KJ X.K (nZ C sub E t))
structure JN (X:Cx)(tg:Expr)(i:Nat):Prop where
 h:PG X tg (EK i)
structure SW (X:Cx)(es:List Expr)(is:List Nat):Prop where
 h:ED X es (vX is)
structure JB (X:Cx)(tg:Expr)(one:Bool)(n:Nat):Prop where
 h:PG X tg (OO X.K one n)
structure JQ (X:Cx)(C:bE)(sub:Nat->Nat->Bool)(E:XK)(es:List Expr)(xs:List Ex):Prop where
 h:HG X es (yG X.K (iW C sub E xs))
structure JS (X:Cx)(C:bE)(sub:Nat->Nat->Bool)(s:Stmt)(x:Sx):Prop where
 h:PS X s (iV X.K (wpS C sub x))
structure vY (X:Cx)(C:bE)(sub:Nat->Nat->Bool)(ss:List Stmt)(xs:List Sx):Prop where
 h:lQ X ss (iV X.K (cY C sub xs))
structure oA (X:Cx)(C:bE)(n:Str)(fid:Nat):Prop where
 h:∃ k f fd ps,fS X.prog X.w X.K X.mg X.base dP k f fd ps (gA X.K C fid)/\dC k X.A/\X.mg n=some (.ref f)/\ff X.K (.ref f)=true/\Binds X.K fd ps []
def GC (K:aa)(mg:Str->Option ae)(n:Str)(d:D):Prop:=∃ u v,mg n=some u/\RelV v u/\∀ H,Rep K H d v
section
variable {X:Cx}{C:bE}{sub:Nat->Nat->Bool}{E:XK}{a b c e o tg:Expr}{es:List Expr}{x y z:Ex}{xs:List Ex}{p p2 pos apos:Pos}{k:Nat}{n:Str}{s:Stmt}{ss:List Stmt}{sxs:List Sx}
theorem jv (i:Nat)(hN:X.N[i]? = some n:=by kernel_rfl)(hv:X.env.scope.names.lookup n=some .local:=by kernel_rfl)(hd:(n==("__debug__" : Str))=false:=by kernel_rfl)
 (hcd:(n==("__classdict__" : Str))=false:=by kernel_rfl):JE X C sub E (.Name n pos) (.v i):=⟨RE (pv i hN (.inl hv) hd hcd)⟩
theorem cD (i:Nat)(hN:X.N[i]? = some n:=by kernel_rfl)(hv:X.env.scope.names.lookup n=some .cell:=by kernel_rfl)(hd:(n==("__debug__" : Str))=false:=by kernel_rfl)
 (hcd:(n==("__classdict__" : Str))=false:=by kernel_rfl):JE X C sub E (.Name n pos) (.v i):=⟨RE (pv i hN (.inr (.inl hv)) hd hcd)⟩
theorem ji {i:Int}:JE X C sub E (.Constant (.int i) k pos) (.c (.int i)):=⟨wA Dq fun _=>.int _⟩
theorem jb {i:Bool}:JE X C sub E (.Constant (.bool i) k pos) (.c (.bl i)):=⟨wA Lg fun _=>.bl _⟩
theorem jn:JE X C sub E (.Constant .none k pos) (.c .non):=⟨wA Ic fun _=>.non⟩
theorem js {t:String}(h:j8 t=⟨(W t).toArray⟩:=by kernel_rfl):JE X C sub E (.Constant (.str (j8 t)) k pos) (.c (.str (W t))):=⟨Og h⟩
theorem jg {d:D}(h:GC X.K X.mg n d)(hg:X.env.kindOf n=some .globalImplicit:=by kernel_rfl)(hd:(n==("__debug__" : Str))=false:=by kernel_rfl):JE X C sub E (.Name n pos) (.c d):=⟨let⟨u,v,h1,h2,h3⟩:=h;wA (Cy hg h1 h2 hd) h3⟩
theorem ja (h:JE X C sub E e x)(hs:JA X C sub E es xs)(dN:ao (e::es) X.env=(false,eval e X.env)::ao es X.env:=by kernel_rfl):JA X C sub E (e::es) (x::xs):=⟨Es h.h hs.h dN⟩
theorem jt (m:bZ C C)(hs:JA X C sub E es xs)(hl:xs.length<=bH:=by decide):JE X C sub E (.Tuple es k pos) (.tup xs):=⟨Mn m hs.h hl⟩
theorem zB {o:sT}(u:X.A.units+180<cLine)(ha:JE X C sub E a x)(hb:JE X C sub E b y)(hm:lh (qQ o) b=false:=by kernel_rfl):JE X C sub E (.Compare a [qQ o] [b] pos) (.cmp o x y):=⟨Lh u ha.h hb.h hm⟩
theorem fD {o:sT}(u:X.A.units+180<cLine)(ha:JE X C sub E a x)(hb:JE X C sub E b y)(hm:lh (qQ o) b=false:=by kernel_rfl):JT X C sub E (.Compare a [qQ o] [b] pos) (.cmp o x y):=⟨Gu u ha.h hb.h hm⟩
theorem Gq {o o':sT}(u:X.A.units+180<cLine)(ha:JE X C sub E a x)(hb:JE X C sub E b y)(hc:JE X C sub E c z)(hm:lastMarks [qQ o,qQ o'] [b,c]=false:=by kernel_rfl):JE X C sub E (.Compare a [qQ o,qQ o'] [b,c] pos) (.chain o o' x y z):=⟨ZW u ha.h hb.h hc.h hm⟩
theorem tp (h:JE X C sub E e x)(he:∀ whole,zk e X.env whole=(do let v <-whole;n5 e.pos;kg [v] (Wq v)):=by intro _;rfl):JT X C sub E e x:=⟨WO h.h he⟩
theorem bU (ha:JE X C sub E a x)(hb:JE X C sub E b y)(hp:vI b:=by intro _ _;rfl):JE X C sub E (.Subscript a b pos) (.ix x y):=⟨Sm ha.h hb.h hp⟩
theorem cC {fid:Nat}(h:oA X C n fid)(ha:JA X C sub EF (e::es) xs)(hg:X.env.kindOf n=some .globalImplicit:=by kernel_rfl)(hdb:(n==("__debug__" : Str))=false:=by kernel_rfl)(he:ao (e::es) X.env=(false,eval e X.env)::ao es X.env:=by kernel_rfl)(dA:(du pos (ao es X.env)).any (·.1)=false:=by kernel_rfl):
 JE X C sub EF (.Call (.Name n p) (e::es) [] pos) (.call fid xs):=⟨let⟨k,f,fd,ps,h1,h2,h3,h4,h5⟩:=h.h;Ec h1 h2 hg h3 h4 h5 JZ ha.h hdb he dA⟩
theorem eE {f:BI}{id:String}(hW:yY X (.builtin id) (iA f))(hv:cz n=some (.builtin id))(hm:X.mg n=none)(ha:JA X C sub E (e::es) xs)(hg:X.env.kindOf n=some .globalImplicit:=by kernel_rfl)
 (hn:n ≠"__name__":=by decide)(hdb:(n==("__debug__" : Str))=false:=by kernel_rfl)(he:ao (e::es) X.env=(false,eval e X.env)::ao es X.env:=by kernel_rfl)(dA:(du pos (ao es X.env)).any (·.1)=false:=by kernel_rfl):
 JE X C sub E (.Call (.Name n p) (e::es) [] pos) (.bi f xs):=⟨(Li hW hg hm hv ha.h hn hdb he dA).imp fun σ H Q ⟨σd,st,R,r,ok,q,hq⟩=>⟨σd,st,R,r,ok,q,hq⟩⟩
theorem sN {f:BI}{id:String}(hW:yY X (.type id) (iA f))(hv:cz n=some (.type id))(hm:X.mg n=none)(ha:JA X C sub E (e::es) xs)(hg:X.env.kindOf n=some .globalImplicit:=by kernel_rfl)
 (hn:n ≠"__name__":=by decide)(hdb:(n==("__debug__" : Str))=false:=by kernel_rfl)(he:ao (e::es) X.env=(false,eval e X.env)::ao es X.env:=by kernel_rfl)(dA:(du pos (ao es X.env)).any (·.1)=false:=by kernel_rfl):
 JE X C sub E (.Call (.Name n p) (e::es) [] pos) (.bi f xs):=⟨(Jn hW hg hm hv ha.h hn hdb he dA).imp fun σ H Q ⟨σd,st,R,r,ok,q,hq⟩=>⟨σd,st,R,r,ok,q,hq⟩⟩
theorem E9 {t:Ty}(hv:cz n=some (.type (LG t)))(hm:X.mg "isinstance" = none)(hm2:X.mg n=none)(ha:JE X C sub E a x)(ht:J8 t=true:=by kernel_rfl)(hg:X.env.kindOf "isinstance" = some .globalImplicit:=by kernel_rfl)(hg2:X.env.kindOf n=some .globalImplicit:=by kernel_rfl)
 (hn2:n ≠"__name__":=by decide)(hd2:(n==("__debug__" : Str))=false:=by kernel_rfl)(he:ao [a,.Name n p2] X.env=(false,eval a X.env)::ao [.Name n p2] X.env:=by kernel_rfl)(he2:ao [.Name n p2] X.env=[(false,eval (.Name n p2) X.env)]:=by kernel_rfl)(dA:(du pos (ao [.Name n p2] X.env)).any (·.1)=false:=by kernel_rfl):
 JE X C sub E (.Call (.Name "isinstance" p) [a,.Name n p2] [] pos) (.isi x [t]):=⟨Oc ht hg hm hg2 hm2 hv ha.h hn2 hd2 he he2 dA⟩
theorem sJ (ho:JE X C sub E o x)(ha:JA X C sub E (e::es) xs)(kU:f7 o "append" X.env (eval o X.env)=eval o X.env:=by kernel_rfl)
 (vG:((du pos (ao (e::es) X.env)).all (fun x=>!x.1)&&(oi pos (j6 [] X.env)).all (fun x=>x.1.isSome)&&decide ((e::es).length+([]:List qs).length+(if([]:List qs).isEmpty then 0 else 1)<30))=true:=by kernel_rfl)(kW:(apos.endLine==pos.line)=true:=by kernel_rfl)
 (hs:ao (e::es) X.env=(false,eval e X.env)::ao es X.env:=by kernel_rfl)(tP:(du pos (ao es X.env)).any (·.1)=false:=by kernel_rfl):
 JE X C sub E (.Call (.Attribute o "append" apos) (e::es) [] pos) (.cT .append x xs):=⟨UH (fun z=>nomatch z) PySem.F.slot_list_append PySem.F.type_list_append UN ho.h ha.h kU vG kW hs tP⟩
theorem Tp (ho:JE X C sub E o x)(ha:JA X C sub E (e::es) xs)(kU:f7 o "extend" X.env (eval o X.env)=eval o X.env:=by kernel_rfl)
 (vG:((du pos (ao (e::es) X.env)).all (fun x=>!x.1)&&(oi pos (j6 [] X.env)).all (fun x=>x.1.isSome)&&decide ((e::es).length+([]:List qs).length+(if([]:List qs).isEmpty then 0 else 1)<30))=true:=by kernel_rfl)(kW:(apos.endLine==pos.line)=true:=by kernel_rfl)
 (hs:ao (e::es) X.env=(false,eval e X.env)::ao es X.env:=by kernel_rfl)(tP:(du pos (ao es X.env)).any (·.1)=false:=by kernel_rfl):
 JE X C sub E (.Call (.Attribute o "extend" apos) (e::es) [] pos) (.cT .extend x xs):=⟨UH (fun z=>nomatch z) PySem.F.slot_list_extend PySem.F.type_list_extend TH ho.h ha.h kU vG kW hs tP⟩
theorem Te (ho:JE X C sub E o x)(kU:f7 o "pop" X.env (eval o X.env)=eval o X.env:=by kernel_rfl)(kW:(apos.endLine==pos.line)=true:=by kernel_rfl):
 JE X C sub E (.Call (.Attribute o "pop" apos) [] [] pos) (.cT .pop x []):=⟨As (fun z=>nomatch z) PySem.F.slot_list_pop PySem.F.type_list_pop Fo ho.h kU kW⟩
theorem sx (m:bZ C C)(h:JE X C sub EF e x)(hs:l5 e none pos.line X.env=pure false:=by kernel_rfl):JS X C sub (.Expr e pos) (.ex x):=⟨Qy m h.h hs⟩
theorem sn {i:Nat}(m:bZ C C)(nd:X.N.Nodup)(he:JE X C sub EF e x)(hi:X.N[i]? = some n:=by kernel_rfl)(hx:X.env.scope.names.lookup n=some .local:=by kernel_rfl)
 (hs:pj [.Name n p] e pos.line X.env=pure false:=by kernel_rfl)(hw:pk [.Name n p] e X.env=pure none:=by kernel_rfl)(h1:(e8 [.Name n p] X.env).map (·.2)=[mh (.Name n p) X.env]:=by kernel_rfl):JS X C sub (.Assign [.Name n p] e pos) (.asg (.nm i) x):=⟨Q2 m he.h (X5 (vH nd hi (.inl hx) (.inr hx))) hs hw h1⟩
theorem IQ {i:Nat}(m:bZ C C)(nd:X.N.Nodup)(he:JE X C sub EF e x)(hi:X.N[i]? = some n:=by kernel_rfl)(hx:X.env.scope.names.lookup n=some .cell:=by kernel_rfl)(hf:X.fn n=true:=by kernel_rfl)
 (hs:pj [.Name n p] e pos.line X.env=pure false:=by kernel_rfl)(hw:pk [.Name n p] e X.env=pure none:=by kernel_rfl)(h1:(e8 [.Name n p] X.env).map (·.2)=[mh (.Name n p) X.env]:=by kernel_rfl):JS X C sub (.Assign [.Name n p] e pos) (.asg (.nm i) x):=⟨Q2 m he.h (X5 (vH nd hi (.inr hx) (.inl hf))) hs hw h1⟩
theorem gn {i:Nat}(nd:X.N.Nodup)(hi:X.N[i]? = some n:=by kernel_rfl)(hx:X.env.scope.names.lookup n=some .local:=by kernel_rfl):JN X (.Name n p) i:=⟨vH nd hi (.inl hx) (.inr hx)⟩
theorem Tu {i:Nat}(nd:X.N.Nodup)(hi:X.N[i]? = some n:=by kernel_rfl)(hx:X.env.scope.names.lookup n=some .cell:=by kernel_rfl)(hf:X.fn n=true:=by kernel_rfl):JN X (.Name n p) i:=⟨vH nd hi (.inr hx) (.inl hf)⟩
theorem gc {i:Nat}{is:List Nat}(h1:JN X e i)(h2:SW X es is)(hs:(e8 (e::es) X.env).map (·.2)=mh e X.env::(e8 es X.env).map (·.2):=by kernel_rfl):SW X (e::es) (i::is):=⟨ZS h1.h h2.h hs⟩
theorem gt {is:List Nat}(h:SW X es is)(hc:X.calm=true:=by kernel_rfl)(hn:(e8 es X.env).length=is.length:=by kernel_rfl)(dN:(e8 es X.env).findIdx? (·.1)=none:=by kernel_rfl):JG X C sub E (.Tuple es k pos) (.tp is):=⟨Qe hc h.h hn dN⟩
theorem gi (ho:JE X C sub E o x)(hi:JE X C sub E a y)
 (ha:∀ v,mh (.Subscript o a pos) X.env v=(do
  let ov <-kg [v] (eval o X.env)
  let iv <-kg [v,ov] (eval a X.env)
  n5 pos
  kg [v,ov,iv] (Vs ov iv v)
  Wu [v,ov,iv] []):=by intro _;rfl):JG X C sub E (.Subscript o a pos) (.ix x y):=⟨Qc ho.h hi.h ha⟩
theorem sg {t:Tg}(m:bZ C C)(he:JE X C sub EF e x)(hg:JG X C sub EF tg t)
 (hs:pj [tg] e pos.line X.env=pure false:=by kernel_rfl)(hw:pk [tg] e X.env=pure none:=by kernel_rfl)(h1:(e8 [tg] X.env).map (·.2)=[mh tg X.env]:=by kernel_rfl):JS X C sub (.Assign [tg] e pos) (.asg t x):=⟨Q2 m he.h hg.h hs hw h1⟩
theorem sw (m:bZ C C)(hc:JT X C sub EF c x)(hb:vY X C sub ss sxs)(hp:qx (model X.prog X.w) X.A X.env X.xe:=by exact vt):JS X C sub (.While c ss [] pos) (.whl x sxs):=⟨Aj m hp hc.h hb.h⟩
theorem sf {kk:Option IK}{t:Tg}(m:bZ C C)(hi:JI X C sub EF tg e kk xs)(hg:JG X C sub EF tg t)(hb:vY X C sub ss sxs)
 (hp:qx (model X.prog X.w) X.A X.env X.xe:=by exact vt)(hc:X.calm=true:=by kernel_rfl)(hs:∀ x,gq e X.env x=pure x:=by intro _;rfl):JS X C sub (.For tg e ss [] pos) (.mB t kk xs sxs):=⟨ZG m hp hc hi.h hg.h hb.h hs⟩
theorem B5 {kk:Option IK}{i:Nat}(m:bZ C C)(nd:X.N.Nodup)(hi:JI X C sub EF (.Name n p) e kk xs)(hb:vY X C sub ss sxs)
 (hN:X.N[i]? = some n:=by kernel_rfl)(hx:X.env.scope.names.lookup n=some .local:=by kernel_rfl)
 (hp:qx (model X.prog X.w) X.A X.env X.xe:=by exact vt)(hc:X.calm=true:=by kernel_rfl)(hs:∀ x,gq e X.env x=pure x:=by intro _;rfl):JS X C sub (.For (.Name n p) e ss [] pos) (.mB (.nm i) kk xs sxs):=⟨ZG m hp hc hi.h (X5 (vH nd hN (.inl hx) (.inr hx))) hb.h hs⟩
theorem SA (m:bZ C C)(hm:X.mg "range" = none)(ha:JA X C sub E [a] [x])(hg:X.env.kindOf "range" = some .globalImplicit:=by kernel_rfl)(hs:ao [a] X.env=[(false,eval a X.env)]:=by kernel_rfl):
 JI X C sub E tg (.Call (.Name "range" p) [a] [] pos) (some .range) [x]:=⟨ZH m hg hm ha.h hs⟩
theorem Pp {cl:Nat}{t:String}(m:bZ C C):JS X C sub s (.rais cl [.c (.str (W t))]):=⟨Gd m fun σd st h=>h⟩
end
section
variable {X:Cx}{C:bE}{sub:Nat->Nat->Bool}{E:XK}{a b c e o tg:Expr}{es rest:List Expr}{x y z:Ex}{xs:List Ex}{p p2 pos apos:Pos}{k:Nat}{n:Str}{s:Stmt}{ss as bs:List Stmt}{sx1:Sx}{sxs ax bx:List Sx}
theorem an:JA X C sub E [] []:=⟨Ov⟩
theorem jl (hs:JA X C sub E es xs):JE X C sub E (.List es pos) (.lst xs):=⟨Oq hs.h⟩
theorem dB {op:vP}(ha:JE X C sub E a x)(hb:JE X C sub E b y):JE X C sub E (.BinOp a (Jv op) b pos) (.bin op x y):=⟨Nf ha.h hb.h⟩
theorem Y2 (ha:JE X C sub E a x):JE X C sub E (.UnaryOp .Not a pos) (.not_ x):=⟨Ml ha.h⟩
theorem oE {op:Wt}(ha:JE X C sub E a x):JE X C sub E (.BoolOp op [a] pos) x:=⟨La ha.h⟩
theorem oN (ha:JE X C sub E a x)(hb:JE X C sub E (.BoolOp .And (b::rest) pos) y):JE X C sub E (.BoolOp .And (a::b::rest) pos) (.and_ x y):=⟨Ni ha.h hb.h⟩
theorem Y3 (ha:JE X C sub E a x)(hb:JE X C sub E (.BoolOp .Or (b::rest) pos) y):JE X C sub E (.BoolOp .Or (a::b::rest) pos) (.or_ x y):=⟨Qs ha.h hb.h⟩
theorem on:JO X C sub E none []:=⟨ZZ⟩
theorem os (h:JE X C sub E e x):JO X C sub E (some e) [x]:=⟨Co h.h⟩
theorem OC {lo hi:Option Expr}{xl xh:List Ex}(ha:JE X C sub E a x)(hl:JO X C sub E lo xl)(hh:JO X C sub E hi xh):JE X C sub E (.Subscript a (.Slice lo hi none p2) pos) (.sl x xl xh):=⟨Qa ha.h hl.h hh.h⟩
theorem wG (h:JT X C sub E e x):JT X C sub E (.UnaryOp .Not e pos) (.not_ x):=⟨Dt h.h⟩
theorem zC (h:JW X C sub E e x):JT X C sub E e x:=⟨h.h.pt⟩
theorem zA {op:Wt}(h:JT X C sub E e x):JW X C sub E (.BoolOp op [e] pos) x:=⟨Ih h.h⟩
theorem Fb (m:bZ C C)(ha:JT X C sub E a x)(hb:JW X C sub E (.BoolOp .And (b::rest) pos) y):JW X C sub E (.BoolOp .And (a::b::rest) pos) (.and_ x y):=⟨Gf m ha.h hb.h⟩
theorem zN (m:bZ C C)(ha:JT X C sub E a x)(hb:JW X C sub E (.BoolOp .Or (b::rest) pos) y):JW X C sub E (.BoolOp .Or (a::b::rest) pos) (.or_ x y):=⟨Ly m ha.h hb.h⟩
theorem iv (h:JE X C sub E e x):JI X C sub E tg e none [x]:=⟨Ht h.h⟩
theorem qn:JQ X C sub E [] []:=⟨Fy⟩
theorem qc (h:JT X C sub E e x)(hs:JQ X C sub E es xs):JQ X C sub E (e::es) (x::xs):=⟨ZI h.h hs.h⟩
theorem nn:SW X [] []:=⟨Ir⟩
theorem b1 (h:JN X tg 0):JB X tg true 1:=⟨h.h⟩
theorem bt {is:List Nat}{q:Nat}(h:SW X es is)(hi:is=bb q:=by rfl)(hc:X.calm=true:=by kernel_rfl)(hn:(e8 es X.env).length=q:=by kernel_rfl)(dN:(e8 es X.env).findIdx? (·.1)=none:=by kernel_rfl):JB X (.Tuple es k pos) false q:=⟨by
 subst hi
 exact RU hc h.h hn dN⟩
theorem c0:vY X C sub [] []:=⟨Lu⟩
theorem cc (h1:JS X C sub s sx1)(h2:vY X C sub ss sxs):vY X C sub (s::ss) (sx1::sxs):=⟨Ed h1.h h2.h⟩
theorem fJ (m:bZ C C)(hc:JT X C sub EF c x)(ha:vY X C sub as ax)(hb:vY X C sub bs bx):JS X C sub (.If c as bs pos) (.iff x ax bx):=⟨Su m hc.h ha.h hb.h⟩
theorem cI (m:bZ C C)(h:JE X C sub EF e x):JS X C sub (.Return (some e) pos) (.ret x):=⟨Mh m h.h⟩
theorem Tv:JS X C sub (.Return none pos) (.ret (.c .non)):=⟨Ea⟩
end
section
variable {X:Cx}{C:bE}{sub:Nat->Nat->Bool}{elt iter tg:Expr}{ifs:List Expr}{xe:Ex}{nE aD:List Ex}{pos:Pos}{scope:Scope}{own cn:List Str}{aJ:List Nat}{one:Bool}{k:Option IK}
theorem mJ (m:bZ C C)(S:mS X scope cn aJ)(hi:JI X C sub EF tg iter k aD)
 (hg:∀ fp s H Ca,JB (nH X scope own cn fp s H Ca) tg one own.length)
 (hts:∀ fp s H Ca,JQ (nH X scope own cn fp s H Ca) C sub EF ifs nE)
 (he:∀ fp s H Ca,JE (nH X scope own cn fp s H Ca) C sub EF elt xe)(hc:X.calm=true:=by kernel_rfl)(pR:one=true->own.length=1:=by decide)
 (hs:∀ x,gq iter X.env x=pure x:=by intro _;rfl):
 JE X C sub EF (.ListComp elt [⟨tg,iter,ifs,0⟩] scope pos) (.comp own.length aJ (bb own.length) one k aD nE xe) :=
 ⟨Jg m S hc pR hi.h (fun a b c d=>(hg a b c d).h) (fun a b c d=>(hts a b c d).h) (fun a b c d=>(he a b c d).h) hs⟩
theorem R6 {i:Nat}{y:Str}{py spos:Pos}(m:bZ C C)(nd:X.N.Nodup)(S:mS X scope cn aJ)(hi:JI X C sub EF tg iter k aD)
 (hg:∀ fp s H Ca,JB (nH X scope own cn fp s H Ca) tg one own.length)
 (hts:∀ fp s H Ca,JQ (nH X scope own cn fp s H Ca) C sub EF ifs nE)
 (he:∀ fp s H Ca,JE (nH X scope own cn fp s H Ca) C sub EF elt xe)(hy:X.N[i]? = some y:=by kernel_rfl)(hx:X.env.scope.names.lookup y=some .local:=by kernel_rfl)
 (hsw:l5 (.ListComp elt [⟨tg,iter,ifs,0⟩] scope pos) (some (.Name y py)) spos.line X.env=pure true:=by kernel_rfl)(hc:X.calm=true:=by kernel_rfl)(pR:one=true->own.length=1:=by decide)
 (hs:∀ x,gq iter X.env x=pure x:=by intro _;rfl):
 JS X C sub (.Assign [.Name y py] (.ListComp elt [⟨tg,iter,ifs,0⟩] scope pos) spos) (.asg (.nm i) (.comp own.length aJ (bb own.length) one k aD nE xe)) :=
 ⟨Ds m S hc pR hi.h (fun a b c d=>(hg a b c d).h) (fun a b c d=>(hts a b c d).h) (fun a b c d=>(he a b c d).h) nd hy (.inl hx) (.inr hx) hsw hs⟩
end
noncomputable def Q7 (k:Option ua):Bool:=k==some .cell||k==some .free
noncomputable def Y0 (names on:List (Str×NameKind))(N cn:List Str)(aJ:List Nat):Bool :=
 names.all (fun y=>!(y.2 == .cell)&&(!(y.2 == .local)||names.lookup y.1==some .local)&&(!(y.2 == .free)||Q7 (on.lookup y.1)))&&(cn.length==aJ.length) &&
 (cn.zip aJ).all (fun p=>names.lookup p.1==some .free&&N[p.2]? == some p.1&&Q7 (on.lookup p.1))
theorem OP {k:Option ua}(h:Q7 k=true):k=some .cell∨k=some .free:=by
 unfold Q7 at h
 rw[qf]at h
 rcases h with h|h
 ·exact .inl (by simpa using h)
 ·exact .inr (by simpa using h)
theorem jX {X:Cx}{scope:Scope}{cn:List Str}{aJ:List Nat}{on:List (Str×NameKind)}{N:List Str}(h:Y0 scope.names on N cn aJ=true)(hE:X.env.scope.names=on:=by kernel_rfl)(hN:X.N=N:=by kernel_rfl)(hk:scope.kind=.function:=by kernel_rfl):mS X scope cn aJ:=by
 unfold Y0 at h
 rw[aw,aw]at h
 obtain⟨⟨h1,h2⟩,h3⟩:=h
 have h1:=List.all_eq_true.mp h1
 have hl:cn.length=aJ.length:=by simpa using h2
 refine⟨hk,fun y hy=>?_,fun y hy e=>?_,fun y hy e=>?_,hl,fun j y e=>?_⟩
 ·have:=h1 y hy
  simp only[aw]at this
  intro z;rw[z]at this;simp at this
 ·have:=h1 y hy
  simp only[aw,qf]at this
  rcases this.1.2 with q|q
  ·rw[e]at q;simp at q
  ·simpa using q
 ·have:=h1 y hy
  simp only[aw,qf]at this
  rcases this.2 with q|q
  ·rw[e]at q;simp at q
  ·show X.env.scope.names.lookup y.1=_∨X.env.scope.names.lookup y.1=_
   rw[hE];exact OP q
 ·obtain⟨hj,ej⟩:=List.getElem?_eq_some_iff.mp e
  have hj':j<aJ.length:=by omega
  have hm:(y,aJ[j])∈cn.zip aJ:=by
   rw[<-ej]
   exact List.mem_iff_getElem.mpr ⟨j,by simp;omega,by simp⟩
  have:=List.all_eq_true.mp h3 _ hm
  simp only[aw]at this
  refine⟨by simpa using this.1.1,aJ[j],ah hj',by rw[hN];simpa using this.1.2,?_⟩
  show X.env.scope.names.lookup y=_∨X.env.scope.names.lookup y=_
  rw[hE];exact OP this.2
end L3
namespace L3
theorem DQ {k:Nat}{A:PySem.Around}(hr:L2.dC k A):A.units+180<wy:=by have:=hr.un;omega
end L3
end
section
namespace PySem
open Sem (wp)
section
variable {prog:bu}{w:de}{A:cb}{s:ag}{R:Vt->ag->Prop}{I:Addr}{fp wr:List Addr}{n:Nat}{P:Nat->ae->Prop}{St:Nat->Heap->Prop}
def A1 (prog:bu)(w:de)(I:Addr)(St:Nat->Heap->Prop):Prop:=∀(A:cb)(s:ag)(Q:Bool->ag->Prop)(E:ae->ag->Prop),St 0 s.heap->(∀ b tk,Q b { s with toks:=tk })->wpAny (model prog w) A (l0 (.ref I)) Q E s
theorem UE {T:String}(W:Walks prog w A.in1 I fp wr n P St)(hn:n<=sizeLine)(hT:∀ h,St 0 h->∃ o,h.get? I=some o/\o.cls=.type T)(h2:(fz T==fz "list")=false)(h3:(fz T==fz "tuple")=false)(hint:A1 prog w I St)
  (S:Addr)(res:ae)(c₀:Nat)(dN:St 0 s.heap)(hSf:S∉fp)(hI:I∈fp)(hS:s.heap.get? S=some { cls:=.type "list", data:=.seq #[] c₀ })
  (hR:∀ h' tk pB c',(∀ b o,b∉S::wr->s.heap.get? b=some o->h'.get? b=some o)->h'.get? S=some { cls:=.type "list", dict:=none,data:=.seq pB c',slots:=#[] }->Um P pB n->R (.ok (.ret res)) { s with heap:=h',toks:=tk }):
  wpAny (model prog w) A.in1 (jk (.ref S) (.ref I) res)
   (fun fin s'=>match fin with|.done f=>R (.ok f) s'|.again c'=>c'.quiet=true/\ku (model prog w) A c' R s') (fun e s'=>R (.error e) s') s:=by
 have hSI:S≠I:=fun e=>hSf (e▸hI)
 have key:∀(h:Heap)(c₁ tk:Nat),St 0 h->(∀ b o,b≠S->s.heap.get? b=some o->h.get? b=some o)->h.get? S=some { cls:=.type "list", data:=.seq #[] c₁ } ->
   ku (model prog w) A (.builtin "list.extend.loop" ⟨[.ref S,.ref I,res],[]⟩) R { s with heap:=h,toks:=tk }:=by
  intro h c₁ tk hst₁ hk hS₁
  refine codeAny_extend_loopS W.toS hn S hSf res n 0 _ #[] c₁ rfl (dm _) hst₁ hS₁ (ItemsOf.nil _) fun s' pB c' hm hS' hacc=>?_
  rw[Moved.eq_with hm]
  exact hR s'.heap s'.toks pB c' (fun b o hb e=>hm.heap b o hb (hk b o (fun z=>hb (by rw[z];exact dh ..)) e)) hS' hacc
 unfold jk
 refine af (vc (T:=T) (hT _ dN) ?_)
 have h1:tq (.ref S) (.ref I)=false:=by simp [tq,hSI]
 simp only[h1,h2,h3,xp,aq,if_false]
 refine af (W.self 0 _ _ _ dN ?_)
 refine af (gk (hint _ _ _ _ dN fun b tk=>?_))
 have touch:∀{Q:Fin->ag->Prop}{E:ae->ag->Prop}{k:Unit->Sem Fin},(∀ h' , St 0 h'->(∀ b o,b≠S->s.heap.get? b=some o->h'.get? b=some o)->(∃ c₁,h'.get? S=some { cls:=.type "list", data:=.seq #[] c₁ })->wpAny (model prog w) A.in1 (k ()) Q E { s with heap:=h',toks:=tk }) ->
   wpAny (model prog w) A.in1 (rule "list.extend.makes-room" >>= fun _=>Builtin.List.listTouch (.ref S) >>= k) Q E { s with toks:=tk }:=fun{Q E k} hk=>by
  refine af (vf (af ?_))
  show wpAny _ A.in1 (Vq S (·.push .none) >>= fun _=>Vq S (·.pop)) _ _ _
  refine af (qg hS rfl ?_)
  have hS₂:=g8 (jw (·.push jd)) hS rfl
  refine qg (hz:=by seq_fits) hS₂ rfl ?_
  have hS₃:=g8 (jw (·.pop)) hS₂ rfl
  have oth:∀ b o,b≠S->s.heap.get? b=some o->((s.heap.update S (jw (·.push jd))).update S (jw (·.pop))).get? b=some o :=
   fun b o hb e=>(fv _ _ (ey hb)).trans ((fv _ _ (ey hb)).trans e)
  exact hk _ (W.frame _ _ _ dN fun b hb o e=>oth b o (fun h=>hSf (h▸hb)) e) oth ⟨_,hS₃⟩
 refine df (fun _=>?_) (fun _=>ar ⟨plainId_quiet xi _,key _ c₀ _ dN (fun b o _ e=>e) hS⟩)
 refine touch fun h' a b ⟨c₁,c⟩=>ar ⟨plainId_quiet xi _,key _ c₁ _ a b c⟩
theorem LJ {T:String}(W:Walks prog w A.in1 I fp wr n P St)(hn:n<=sizeLine)(hT:∀ h,St 0 h->∃ o,h.get? I=some o/\o.cls=.type T)(h2:(fz T==fz "list")=false)(h3:(fz T==fz "tuple")=false)(hint:A1 prog w I St)
 (S:Addr)(dN:St 0 s.heap)(hSf:S∉fp)(hI:I∈fp)(hS:s.heap.get? S=some { cls:=.type "list", data:=.seq #[] })
 (hR:∀ h' tk pB c',(∀ b o,b∉S::wr->s.heap.get? b=some o->h'.get? b=some o)->h'.get? S=some { cls:=.type "list", dict:=none,data:=.seq pB c',slots:=#[] }->Um P pB n->R (.ok (.ret .none)) { s with heap:=h',toks:=tk }):
 wpAny (model prog w) A.in1 (Builtin.«list.__init__» ⟨[.ref S,.ref I],[]⟩)
  (fun fin s'=>match fin with|.done f=>R (.ok f) s'|.again c'=>c'.quiet=true/\ku (model prog w) A c' R s') (fun e s'=>R (.error e) s') s:=by
 show wpAny _ A.in1 (do let old <-vh (.ref S);Builtin.List.listUpdate (.ref S) (fun _=>#[]);letGo old.toList.reverse;jk (.ref S) (.ref I) .none) _ _ s
 refine af ?_
 unfold vh
 refine af (Uy hS rfl (ar ?_))
 show wpAny _ A.in1 (Vq S (fun _=>#[]) >>= fun _=>letGo (#[]:Array ae).toList.reverse >>= fun _=>jk (.ref S) (.ref I) .none) _ _ s
 refine af (qg hS rfl ?_)
 have hS₂:=g8 (jw (fun _=>(#[]:Array ae))) hS rfl
 have oth:∀ b o,b≠S->s.heap.get? b=some o->(s.heap.update S (jw (fun _=>(#[]:Array ae)))).get? b=some o :=
 fun b o hb e=>(fv _ _ (ey hb)).trans e
 refine af (wpAny_letGo ?_)
 refine UE W hn hT h2 h3 hint S .none _ (W.frame _ _ _ dN fun b hb o e=>oth b o (fun h=>hSf (h▸hb)) e) hSf hI hS₂ fun h' tk pB c' hm hS' hacc=>?_
 exact hR h' tk pB c' (fun b o hb e=>hm b o hb (oth b o (fun z=>hb (by rw[z];exact dh ..)) e)) hS' hacc
end
section
variable {prog:bu}{w:de}{A:cb}{E:ae->ag->Prop}{s:ag}{I:Addr}{fp wr:List Addr}{n:Nat}{P:Nat->ae->Prop}{St:Nat->Heap->Prop}
theorem A2 {T:String}{Q:ae->ag->Prop}(W:Walks prog w A.in1.in1 I fp wr n P St)(hn:n<=sizeLine)(hT:∀ h,St 0 h->∃ o,h.get? I=some o/\o.cls=.type T)(h2:(fz T==fz "list")=false)(h3:(fz T==fz "tuple")=false)(hint:A1 prog w I St)
  (dN:St 0 s.heap)(hfp:∀ b∈fp,b<s.heap.objs.size)(hI:I∈fp)
  (hQ:∀ h' tk pB c',(∀ b o,b∉wr->s.heap.get? b=some o->h'.get? b=some o)->h'.get? s.heap.objs.size=some { cls:=.type "list", dict:=none,data:=.seq pB c',slots:=#[] }->Um P pB n->Q (.ref s.heap.objs.size) { s with heap:=h',toks:=tk }):
  wpAny (model prog w) A (call (.type "list") [.ref I]) Q E s:=by
 have hSf:s.heap.objs.size∉fp:=fun hm=>fh _ (hfp _ hm)
 refine Vb (Q₁:=fun obj s₁=>obj=.ref s.heap.objs.size/\s₁ = { s with heap:=s.heap.push { cls:=.type "list", data:=.seq #[] } }) F.called_list (F.typeCall_list_1 _) F.entry_list_init
  (code_list_new _ ⟨rfl,rfl⟩) fun obj s₁ h₁=>?_
 obtain⟨rfl,rfl⟩:=h₁
 have hS:(s.heap.push { cls:=.type "list", data:=.seq #[] }).get? s.heap.objs.size=some { cls:=.type "list", data:=.seq #[] }:=bj _ rfl
 refine⟨⟨_,hS,rfl⟩,F.args_list_init_2 _ _,LJ (A:=A.in1) W hn hT h2 h3 hint _ (W.frame _ _ _ dN fun b _ o e=>ai _ e) hSf hI hS fun h' tk pB c' hk hS' hacc=>?_⟩
 refine⟨rfl,hQ h' tk pB c' (fun b o hb e=>hk b o (fun z=>?_) (ai _ e)) hS' hacc⟩
 rcases List.mem_cons.mp z with z|z
 ·exact absurd (bh e) (by rw[z];exact fh _)
 ·exact hb z
end
end PySem
end
section
namespace PySem
namespace F
theorem P6:rg (.type "list_reverseiterator") "__len__" = pure none:=by rw[gV,d7];kernel_rfl
theorem XB:rg (.type "list_reverseiterator") "__length_hint__" = pure (some (.builtin "list_reverseiterator.__length_hint__")):=by rw[gV,d7];kernel_rfl
end F
section
variable {prog:bu}{w:de}
theorem WZ {I l:Addr}{items:Array ae}:A1 prog w I (fun i h=>i<=items.size/\h.IsRevIter I l ((items.size:Int)-1-(i:Int))/\h.IsList l items):=fun A s Q E dN hQ=>by
 have hT:=dN.2.1.typeIs
 unfold l0
 refine af (gf hT F.P6 ?_)
 refine df (fun eD=>absurd eD (by decide)) (fun _=>?_)
 refine df (fun eD=>absurd eD (by decide)) (fun _=>?_)
 refine af (gf hT F.XB ?_)
 generalize hid:("list_reverseiterator.__length_hint__" : String)=id0
 wp_delta
 rw[show splitId id0=some ("list_reverseiterator","__length_hint__")from by subst hid;decide +kernel]
 subst hid
 refine af (l6 (T :="list_reverseiterator") (b:=true) hT (by rw[jx];kernel_rfl) ?_)
 refine df (fun eD=>absurd eD (by decide)) (fun _=>?_)
 refine df (fun _=>?_) (fun eD=>absurd (by decide +kernel) eD)
 refine df (fun eD=>absurd eD (by decide +kernel)) (fun _=>?_)
 exact ar (hQ false s.toks)
end
end PySem
end
section
namespace PySem
open PyProof.Rows
namespace F
theorem Q8:rg (.type "tuple") "__reversed__" = pure none:=by rw[gV,d7];kernel_rfl
theorem LD:rg (.type "tuple") "__getitem__" = pure (some (.builtin "tuple.__getitem__")):=by rw[gV,d7];kernel_rfl
theorem P8:rg (.type "reversed") "__len__" = pure none:=by rw[gV,d7];kernel_rfl
theorem zX:Manifest.owners.lookup (String.ofList ['d','e','s','r','e','v','e','r'].reverse)=some Manifest.sig_reversed:=by kernel_rfl
theorem lC:Slot "reversed" "__next__" "reversed.__next__" :=
 .of (owner :="reversed") (n :="__next__") (by rw[gV,d7];kernel_rfl) (by decide +kernel) (by decide +kernel) (by decide +kernel)
 (by first|exact .inl (by decide +kernel)|exact .inr (by decide +kernel)) (by rw[jx];kernel_rfl)
theorem rC:Slot "reversed" "__length_hint__" "reversed.__length_hint__" :=
 .of (owner :="reversed") (n :="__length_hint__") (by rw[gV,d7];kernel_rfl) (by decide +kernel) (by decide +kernel) (by decide +kernel)
 (by first|exact .inl (by decide +kernel)|exact .inr (by decide +kernel)) (by rw[jx];kernel_rfl)
theorem yW:Slot "reversed" "__iter__" "reversed.__iter__" :=
 .of (owner :="reversed") (n :="__iter__") (by rw[gV,d7];kernel_rfl) (by decide +kernel) (by decide +kernel) (by decide +kernel)
 (by first|exact .inl (by decide +kernel)|exact .inr (by decide +kernel)) (by rw[jx];kernel_rfl)
theorem vM:Wi table "reversed.__next__" = some Builtin.«reversed.__next__»:=zw (by kernel_rfl)
theorem FE:Wi table "reversed.__length_hint__" = some Builtin.«reversed.__length_hint__»:=zw (by kernel_rfl)
theorem uH (a:ae):Vc "reversed.__next__" ⟨[a],[]⟩:=by
 unfold Vc;rw[xv (id :="reversed.__next__") (n:=['_','_','t','x','e','n','_','_']) (o:=['d','e','s','r','e','v','e','r']) (by kernel_rfl) zX];kernel_rfl
theorem D4 (a:ae):Vc "reversed.__length_hint__" ⟨[a],[]⟩:=by
 unfold Vc;rw[xv (id :="reversed.__length_hint__") (n :="__length_hint__".toList.reverse) (o:=['d','e','s','r','e','v','e','r']) (by kernel_rfl) zX];kernel_rfl
theorem EE (a:ae):Vc "reversed.__iter__" ⟨[a],[]⟩:=by
 unfold Vc;rw[xv (id :="reversed.__iter__") (n:=['_','_','r','e','t','i','_','_']) (o:=['d','e','s','r','e','v','e','r']) (by kernel_rfl) zX];kernel_rfl
theorem GF:Wi table "reversed.__iter__" = some Builtin.«dict_keyiterator.__iter__» :=
 entryFor_alias (id' :="dict_keyiterator.__iter__") (by kernel_rfl) (by first|rfl|decide +kernel|(unfold String.splitOn;simp +decide [String.splitOnAux])) (by decide +kernel) (by kernel_rfl)
end F
end PySem
end
section
namespace PySem
open PyProof.Rows
section
variable {prog:bu}{w:de}{A:cb}{E:ae->ag->Prop}{s:ag}
noncomputable def P2 (t:Addr)(i:Int):Obj:={ cls:=.type "reversed", data:=.fields #[.ref t,gp i] }
def Heap.lY (h:Heap)(a t:Addr)(i:Int):Prop:=∃ o,h.get? a=some o/\o.cls=.type "reversed" /\ o.data=.fields #[.ref t,gp i]
theorem Heap.lY.typeIs {a t:Addr}{i:Int}(x:s.heap.lY a t i):s.TypeIs (.ref a) "reversed":=let⟨o,ho,hc,_⟩:=x;⟨o,ho,hc⟩
theorem Heap.lY.at {h h':Heap}{a t:Addr}{i:Int}(x:h.lY a t i)(e:∀ o,h.get? a=some o->h'.get? a=some o):h'.lY a t i:=let⟨o,ho,r⟩:=x;⟨o,e _ ho,r⟩
theorem zV {t:Addr}{items:Array ae}{Q₁:ae->ag->Prop}(ht:IsTup s.heap t items)(pA:(items.size:Int)<2 ^ 63)
 (h:Q₁ (.ref s.heap.objs.size) { s with heap:=s.heap.push (P2 t ((items.size:Int)-1)),toks:=s.toks+1+1 }):
 ku (model prog w) A (.call (.builtin "reversed.__new__") ⟨[.type "reversed", .ref t],[]⟩) (wants Q₁ E) s:=by
 refine Ul ?_
 show wpAny _ A.in1 (do checkBuiltinCall "reversed.__new__" ⟨[.type "reversed", .ref t],[]⟩;again (.builtin "reversed.__new__" ⟨[.type "reversed", .ref t],[]⟩)) _ _ s
 refine af (kn (F.newCall_reversed_1 _) (ar ⟨plainId_quiet wz _,qi F.entry_reversed_new ?_⟩))
 rw[qa wz _]
 unfold Builtin.«reversed.__new__»
 refine af (kn (newClass_reversed _) ?_)
 try dsimp only
 refine af (kn (a:=()) (by first|rfl|kernel_rfl) ?_)
 refine af (kn (a:=()) (by first|rfl|kernel_rfl) ?_)
 try dsimp only
 refine af (gf ht.typeIs F.Q8 ?_)
 try dsimp only
 refine af ?_
 wp_delta
 refine af (l6 (T :="tuple") (b:=false) ht.typeIs (by rw[jx];kernel_rfl) ?_)
 refine df (fun eD=>absurd eD (by decide)) (fun _=>?_)
 refine af (gf ht.typeIs F.LD ?_)
 refine df (fun _=>?_) (fun eD=>absurd (by decide +kernel) eD)
 refine ar ?_
 refine df (fun eD=>absurd eD (by decide)) (fun _=>?_)
 refine af (Vn ht pA ?_)
 refine af (m:=asInt? _) (ar ?_)
 refine af (m:=Builtin.SmallTypes.newRecord (.type "reversed") [gx t,gp ((items.size:Int)-1)]) ?_
 show wpAny _ _ (newObj (.type "reversed") (.fields #[gx t,gp ((items.size:Int)-1)])) _ _ _
 exact gw (ar h)
theorem B3 {it t:Addr}{i:Int}{Q:ae->ag->Prop}(hit:s.heap.lY it t i)(h:Q (.ref it) s):wpAny (model prog w) A (wb (.ref it)) Q E s:=by
 refine wpAny_pyIter_slot hit.typeIs F.yW (fu F.yW hit.typeIs F.GF ?_ (F.EE _))
 show wpAny _ _ (ret (.ref it)) _ _ s
 exact ar ⟨_,rfl,"reversed", _,hit.typeIs,F.lC.lookup,h⟩
theorem vE {it t:Addr}{i:Nat}{items:Array ae}{x:ae}{Q:Option ae->ag->Prop}(hit:s.heap.lY it t (i:Int))(ht:IsTup s.heap t items)(pA:(items.size:Int)<2 ^ 63)(hx:items[i]? = some x)
  (hQ:∀ h',h'.lY it t ((i:Int)-1)->kq it s.heap h'->Q (some x) { s with heap:=h',toks:=s.toks+1 }):wpAny (model prog w) A (ux (.ref it)) Q E s:=by
 obtain⟨o,ho,hc,hd⟩:=id hit
 have hi:i<items.size:=by
  rcases Nat.lt_or_ge i items.size with z|z
  ·exact z
  ·rw[Array.getElem?_eq_none z]at hx;cases hx
 unfold ux
 refine af (tu (i5 (name:=j8 "__next__") hit.typeIs F.lC
  (fu F.lC hit.typeIs F.vM ?_ (F.uH _))))
 unfold Builtin.«reversed.__next__»
 refine af (kn (a:=(gx it,[])) rfl ?_)
 try dsimp only
 refine af (j7 ho hd (x:=.ref t) rfl ?_)
 refine af (j7 ho hd (x:=gp (i:Int)) rfl ?_)
 show wpAny _ _ (if(i:Int)<0 then _ else _) _ _ s
 rw[if_neg (by omega)]
 refine af (gf ht.typeIs F.LD ?_)
 refine df (fun eD=>absurd eD (by decide)) (fun _=>?_)
 refine af (sj ?_)
 refine af (tu (PyProof.Rows.getItem_tuple (j:=i) ht (by omega) (by omega) (wj (by omega) (by omega)) hx ?_))
 refine af (j7 ho hd (x:=gp (i:Int)) rfl ?_)
 refine af (w4 ho hd (by simp) ?_)
 first
 |refine ar ⟨x,rfl,ar (hQ _ ?_ (xj ..))⟩
 |refine af (ar (ar ⟨x,rfl,ar (hQ _ ?_ (xj ..))⟩))
 exact⟨_,g8 _ ho (wa (nk hd _)),(Obj.cls_mapFields ..).trans hc,by
  rw[nk hd];simp⟩
end
end PySem
end
section
namespace PySem
open PyProof.Rows
section
variable {prog:bu}{w:de}{A:cb}{E:ae->ag->Prop}{s:ag}
theorem wM {it t:Addr}{Q:Option ae->ag->Prop}(hh:A.handled=none)(hit:s.heap.lY it t (-1))
 (hQ:∀ h',Wj it s.heap h'->Q none { s with heap:=h' }):wpAny (model prog w) A (ux (.ref it)) Q E s:=by
 obtain⟨o,ho,hc,hd⟩:=id hit
 unfold ux
 refine af (tu (i5 (name:=j8 "__next__") hit.typeIs F.lC
 (fu F.lC hit.typeIs F.vM ?_ (F.uH _))))
 unfold Builtin.«reversed.__next__»
 refine af (kn (a:=(gx it,[])) rfl ?_)
 try dsimp only
 refine af (j7 ho hd (x:=.ref t) rfl ?_)
 refine af (j7 ho hd (x:=gp (-1)) rfl ?_)
 show wpAny _ _ (if(-1:Int)<0 then _ else _) _ _ s
 rw[if_pos (by decide)]
 refine af (vf ?_)
 refine af ?_
 wp_delta
 have ho2:=g8 (xw (·.setIfInBounds 1 (gp (-1)))) ho (wa (nk hd _))
 refine af (w4 ho hd (by simp) ?_)
 refine w4 ho2 (nk hd _) (by simp) ?_
 first
 |show wpAny _ _ (Ws (.type "StopIteration") [] >>= _) _ _ _
 |(refine af ?_;show wpAny _ _ (Ws (.type "StopIteration") [] >>= _) _ _ _)
 refine af ?_
 simp only[Ws,newTuple]
 refine af (gw ?_ (by size_fits))
 refine af (m:=Vd _ _) (kn (a:=jd) (by first|rfl|(simp only[Vd];rfl)) ?_)
 refine gw ?_ (by size_fits)
 simp only[raiseNew]
 refine af (wpAny_handled ?_)
 first|rw[show A.in1.handled=none from hh]|rw[hh]
 refine af (ar (wpAny_throw ?_))
 refine af (l6 (T :="StopIteration") (b:=true) ⟨_,bj _ rfl,rfl⟩ isSubtype_stop ?_)
 refine ar (hQ _ ?_)
 have e1:Wj it s.heap ((s.heap.update it (xw (·.setIfInBounds 1 (gp (-1))))).update it (xw (·.setIfInBounds 0 jd))):=fun b u hb e =>
 (fv _ _ (ey hb)).trans ((fv _ _ (ey hb)).trans e)
 exact(e1.push _).push _
end
theorem Walks.Fw {prog:bu}{w:de}{A:cb}(hh:A.handled=none)(I l:Addr)(hne:l≠I)(items:Array ae)(pA:(items.size:Int)<2 ^ 63):
  Walks prog w A I [I,l] [I] items.size (fun i v=>items[items.size-1-i]? = some v) (fun i h=>i<=items.size/\h.lY I l ((items.size:Int)-1-(i:Int))/\IsTup h l items) where
 sub:=fun b hb=>by simp at hb;simp [hb]
 frame:=fun _ _ _ x hk=>⟨x.1,x.2.1.at fun o e=>hk I (by simp) o e,let⟨o,ho,r⟩:=x.2.2;⟨o,hk l (by simp) o ho,r⟩⟩
 item:=fun i s Q E hi x hQ=>by
  have e:(items.size:Int)-1-(i:Int)=((items.size-1-i:Nat):Int):=by omega
  have hit:=x.2.1
  rw[e]at hit
  have hx:items[items.size-1-i]? = some (items[items.size-1-i]'(by omega)):=r8 (by omega)
  refine vE hit x.2.2 pA hx fun h' hit' gR=>?_
  have e2:((items.size-1-i:Nat):Int)-1=(items.size:Int)-1-((i+1:Nat):Int):=by omega
  rw[e2]at hit'
  exact hQ _ h' _ hx ⟨hi,hit',let⟨o,ho,r⟩:=x.2.2;⟨o,(gR.2 l hne).trans ho,r⟩⟩ fun b o hb eo=>gR.extBut b o (fun h=>hb (by simp [h])) eo
 done:=fun s Q E x hQ=>by
  have e:(items.size:Int)-1-(items.size:Int) = -1:=by omega
  have hit:=x.2.1
  rw[e]at hit
  exact wM hh hit fun h' he'=>hQ h' s.toks fun b o hb eo=>he' b o (fun h=>hb (by simp [h])) eo
 self:=fun _ _ _ _ x hQ=>B3 x.2.1 hQ
section
variable {prog:bu}{w:de}{A:cb}{E:ae->ag->Prop}{s:ag}
theorem F.AF:Slot "reversed" "__init__" "object.__init__" :=
 .of (owner :="object") (n :="__init__") (by rw[gV,d7];kernel_rfl) (by decide +kernel) (by decide +kernel) (by decide +kernel)
 (by first|exact .inl (by decide +kernel)|exact .inr (by decide +kernel)) (by rw[jx];kernel_rfl)
theorem F.oX:TypeCalled "reversed" "reversed.__new__" "object.__init__" :=
 ⟨by decide +kernel,by decide +kernel,⟨_,_,F.mro_reversed⟩,F.made_reversed,by decide +kernel,by rw[jx];kernel_rfl,F.AF⟩
theorem B1 {t:Addr}{items:Array ae}{Q:ae->ag->Prop}(ht:IsTup s.heap t items)(pA:(items.size:Int)<2 ^ 63)
  (h:Q (.ref s.heap.objs.size) { s with heap:=s.heap.push (P2 t ((items.size:Int)-1)),toks:=s.toks+1+1 }):wpAny (model prog w) A (call (.type "reversed") [.ref t]) Q E s:=by
 refine Vb (Q₁:=fun obj s₁=>s₁.TypeIs obj "reversed" /\ Q obj s₁) F.oX (F.typeCall_reversed_1 _) F.entry_object_init
  (zV ht pA ⟨⟨_,bj _ rfl,rfl⟩,h⟩) fun obj s₁ hq=>⟨hq.1,F.args_object_init_2 obj _,?_⟩
 exact object_init_meets F.oX.init.lookup F.oX.made (by decide) prog w A.in1 _ s₁ ⟨hq.1,rfl,hq.2⟩
theorem XM {I l:Addr}{items:Array ae}(pA:items.size<=sizeLine):A1 prog w I (fun i h=>i<=items.size/\h.lY I l ((items.size:Int)-1-(i:Int))/\IsTup h l items):=fun A s Q E dN hQ=>by
 have hit:=dN.2.1
 have hT:=hit.typeIs
 obtain⟨o,ho,hc,hd⟩:=id hit
 have hf:(items.size:Int)<2 ^ 63:=by have:=pA;rw[j5]at this;omega
 unfold l0
 refine af (gf hT F.P8 ?_)
 refine df (fun eD=>absurd eD (by decide)) (fun _=>?_)
 refine df (fun eD=>absurd eD (by decide)) (fun _=>?_)
 refine af (gf hT F.rC.lookup ?_)
 generalize hid:("reversed.__length_hint__" : String)=id0
 wp_delta
 rw[show splitId id0=some ("reversed","__length_hint__")from by subst hid;decide +kernel]
 subst hid
 refine af (l6 (T :="reversed") (b:=true) hT (by rw[jx];kernel_rfl) ?_)
 refine df (fun eD=>absurd eD (by decide)) (fun _=>?_)
 refine df (fun eD=>absurd eD (by decide +kernel)) (fun _=>?_)
 refine af (vf ?_)
 refine af (kn (F.rC.bind _) ?_)
 refine af (tu (fu F.rC hT F.FE ?_ (F.D4 _)))
 unfold Builtin.«reversed.__length_hint__»
 refine af (kn (a:=gx I) rfl ?_)
 refine af (j7 ho hd (x:=.ref l) rfl ?_)
 refine df (fun eD=>absurd eD (by simp)) (fun _=>?_)
 refine af (Vn dN.2.2 hf ?_)
 refine af (m:=asInt? _) (ar ?_)
 refine af (m:=field (.ref I) 1) (j7 ho hd (x:=gp ((items.size:Int)-1-((0:Nat):Int))) rfl ?_)
 show wpAny _ _ (if(items.size:Int)<((items.size:Int)-1-((0:Nat):Int))+1 then _ else _) _ _ _
 rw[if_neg (by omega)]
 refine af (sj (ar ⟨_,rfl,?_⟩))
 refine af (m:=asInt? _) (ar ?_)
 dsimp only
 have e0:(items.size:Int)-1-((0:Nat):Int)+1=items.size:=by omega
 rw[e0]
 have hfi:Builtin.List.listFitsIndex (items.size:Int)=true:=Us (by omega) hf
 have htl:dz ((items.size:Int).toNat)=false:=by simp [dz];exact pA
 rw[hfi,htl]
 refine df (fun eD=>absurd eD (by decide)) (fun _=>?_)
 refine df (fun eD=>absurd eD (by omega)) (fun _=>?_)
 refine df (fun eD=>absurd eD (by decide)) (fun _=>ar (hQ _ _))
end
end PySem
end
section
namespace L3
open PySem PySem.Spec PyProof.Rows L2
theorem XN {X:Cx}{pz:List (Addr×Obj)}{σ:L2.St}{H:Hp}{s:ag}{h':Heap}{t':Nat}{it:Addr}{ys:List V}{aD:List ae}{n:Nat}(I:Inv X pz σ H s)(f:oT X pz H it)(k:∀ b o,b≠it->s.heap.get? b=some o->h'.get? b=some o)
  (new:h'.get? s.heap.objs.size=some { cls:=.type "list", data:=.seq aD.toArray n })(hv:aU ys aD)(hz:ys.length<=sizeLine):Inv X pz σ (upd H s.heap.objs.size (.lst ys)) { s with heap:=h',toks:=t' }:=by
 have hS:=I.fresh
 have neS:∀ b o,s.heap.get? b=some o->b≠s.heap.objs.size:=fun b o e=>cg (bh e)
 have tr:∀ b u,H b=some u->b≠s.heap.objs.size:=fun b u e=>jB e hS
 obtain⟨f0,f1,f2,f3,f4,f5⟩:=f
 refine I.step (g':=s.gens) (d':=s.drawn) (ch:=[it]) (fun b hb=>?_) (fun b o _ _ hc e _=>k b o (fun z=>hc (by simp [z])) e) (fun b o _ _ hc e _=>⟨o.slots,k b o (fun z=>hc (by simp [z])) e⟩) (fun b o _ e n=>by rw[bI (neS b o e)];exact n)
  (fun b o hc e=>⟨o,k b o (fun z=>hc (by simp [z])) e⟩) (fun b xs e=>by rw[bI (tr b _ e)];exact e) (fun b o u e=>by rw[bI (tr b _ e)];exact e) (fun b ps e=>⟨#[],by rw[bI (tr b _ e),e];simp⟩) (fun m hm=>?_) (fun b u e=>?_) I.bare
 ·have e:b=it:=by simpa using hb
  subst e
  exact⟨f3,f1,f4,f5⟩
 ·obtain⟨o,es,ep,ho,r⟩:=hm
  exact⟨o,es,ep,k _ o (ey f1) ho,r⟩
 ·by_cases hb:b=s.heap.objs.size
  ·subst hb
   rw[dD]at e;cases e
   exact⟨hz,aD,n,hv,new⟩
  ·rw[bI hb]at e
   refine(I.bT b u e).rA (fun c v hc q=>k c v ?_ q) (fun c q=>by rw[bI (tr c _ q)];exact q) fun c xs q=>by rw[bI (tr c _ q)];exact q
   rcases hc with z|z
   ·rw[z];exact fun y=>by rw[y,f0]at e;cases e
   ·exact fun y=>by rw[y,f0]at z;cases z
theorem S6 {aD:List ae}{acc:Array ae}(h:Um (fun i v=>aD.toArray[aD.toArray.size-1-i]? = some v) acc aD.toArray.size):acc=aD.reverse.toArray:=by
 obtain⟨h1,h2⟩:=h
 apply Array.ext
 ·rw[h1];simp
 ·intro i hi hi'
  have:aD.toArray[aD.toArray.size-1-i]? = some acc[i]:=h2 i acc[i] (r8 hi)
  have hl:i<aD.length:=by rw[h1]at hi;simpa using hi
  have e:aD.toArray[aD.toArray.size-1-i]? = some (aD.reverse.toArray[i]):=by
   simp
  rw[e]at this
  exact(cw this).symm
theorem aU.reverse:∀{vs:List V}{us:List ae},aU vs us->aU vs.reverse us.reverse
 |_,_,.nil=>.nil
 |_,_,.cons h t=>by simp only[i7];exact(aU.reverse t).append (.cons h .nil)
section
variable {X:Cx}{C:bE}{sub:Nat->Nat->Bool}{E:XK}{a b c e o tg:Expr}{es:List Expr}{x y z:Ex}{xs:List Ex}{p p2 pos pos2:Pos}{kk:IK}
theorem Kl (hm:X.mg "list" = none)(hm2:X.mg "reversed" = none)(hc:X.calm=true)(ha:PA X [a] (lW X.K (bQ C sub E [x])))(hg:X.env.kindOf "list" = some .globalImplicit:=by kernel_rfl)(hg2:X.env.kindOf "reversed" = some .globalImplicit:=by kernel_rfl)
  (he:ao [.Call (.Name "reversed" p2) [a] [] pos2] X.env=(false,eval (.Call (.Name "reversed" p2) [a] [] pos2) X.env)::ao [] X.env:=by kernel_rfl)(dA:(du pos (ao [] X.env)).any (·.1)=false:=by kernel_rfl)
  (he2:ao [a] X.env=(false,eval a X.env)::ao [] X.env:=by kernel_rfl)(hpl2:(du pos2 (ao [] X.env)).any (·.1)=false:=by kernel_rfl):
  PE X (.Call (.Name "list" p) [.Call (.Name "reversed" p2) [a] [] pos2] [] pos) (cA X.K (aG C sub E (.bit .list .rev [x]))):=by
 intro pz s σ H Q I ⟨σd,st,R,r,ok,q,hq⟩
 refine fb (qP I hg hm BD ?_ (by decide) (by decide))
 refine gj ?_ he dA
 rw[he]
 show wpAny _ _ (ym ((false,eval (.Call (.Name "reversed" p2) [a] [] pos2) X.env)::du pos (ao [] X.env))) _ _ s
 refine ju ?_
 refine fb (qP I hg2 hm2 NJ ?_ (by decide) (by decide))
 refine gj (bD (ha pos2 pz s σ H _ I ⟨σd,st,_,r,ok,q,fun vs H' z=>z⟩) fun us s1 ⟨vs,H1,I1,rv,ds,aC,dH,aS,rs,q1⟩=>?_) he2 hpl2
 match ds,rs,q1 with
 |[d],rs,q1 =>
  obtain⟨v,rfl,rd⟩:=rs.one
  obtain⟨u,rfl,ru⟩:=vals1 rv
  have q1:dY d aC fun as xs=>iP xs.reverse aC R:=q1
  obtain⟨l,ws,as,ys,rfl,sa,g,q1⟩:=nI aS rd q1
  cases ru
  have hh:X.A.handled=none:=I1.ok.hd hc
  have nil:∀{Q':List ae->ag->Prop}{s':ag},Q' [] s'->wpAny (model X.prog X.w) X.A (ym (du pos (ao [] X.env))) Q' X.xe s':=fun h=>oj h
  have fin:∀(aD:List ae)(s2:ag)(h':Heap)(tk:Nat)(acc:Array ae)(cc:Nat),aU ws aD->ws.length<=sizeLine->Inv X pz σ H1 s2->oT X pz H1 s1.heap.objs.size->(∀ b o,b∉[s1.heap.objs.size]->s2.heap.get? b=some o->h'.get? b=some o) ->
    h'.get? s2.heap.objs.size=some { cls:=.type "list", dict:=none,data:=.seq acc cc,slots:=#[] }->Um (fun i v=>aD.toArray[aD.toArray.size-1-i]? = some v) acc aD.toArray.size->EP X pz σ Q (.ref s2.heap.objs.size) { s2 with heap:=h',toks:=tk }:=by
   intro aD s2 h' tk acc cc hv hz I2 f2 k2 hS hacc
   have ea:=S6 hacc
   subst ea
   refine⟨.ref s2.heap.objs.size,_,XN I2 f2 (fun b o hb e=>k2 b o (by simpa using hb) e) hS (aU.reverse hv) (by simpa using hz),rfl,hq _ _ (.after dH ?_)⟩
   exact .iP aS g.reverse I2.fresh q1.2
  rcases sa with sa|sa
  ·obtain⟨aD,r1,pl,hz⟩:=I1.list sa
   have hl:=pl.isList
   have cO:l<s1.heap.objs.size:=by obtain⟨_,e,_⟩:=hl;exact bh e
   have hzz:aD.toArray.size<=sizeLine:=by simp;rw[<-r1.length];exact hz
   refine call_reversed_list hl (nil ?_)
   have I2:Inv X pz σ H1 { s1 with heap:=s1.heap.push (revObj l ((aD.toArray.size:Int)-1)) }:=I1.kept (t':=s1.toks) fun b o e=>ai _ e
   have W:=fun A hA=>Walks.listRev (prog:=X.prog) (w:=X.w) (A:=A) hA s1.heap.objs.size l (cg cO) aD.toArray
   refine A2 (W _ hh) hzz (fun h st=>let⟨o,ho,hcl,_⟩:=st.2.1;⟨o,ho,hcl⟩) (by decide) (by decide) WZ ⟨Nat.zero_le _,⟨_,bj _ rfl,rfl,by simp [revObj]⟩,hl.push _⟩ (fun b hb=>?_) (by simp) fun h' tk acc cc k hS hacc=>?_
   ·show b<(s1.heap.push _).objs.size
    rw[jr]
    rcases List.mem_cons.mp hb with rfl|hb
    ·exact gh _
    ·rcases List.mem_cons.mp hb with rfl|hb
     ·exact j9 cO
     ·cases hb
   ·exact fin aD _ h' tk acc cc r1 hz I2 (I1.Q4 (az _) I1.fresh) k hS hacc
  ·obtain⟨aD,r1,pl,hz⟩:=I1.tuple sa
   have cO:l<s1.heap.objs.size:=by obtain⟨_,e,_⟩:=pl;exact bh e
   have hzz:aD.toArray.size<=sizeLine:=by simp;rw[<-r1.length];exact hz
   have pA:(aD.toArray.size:Int)<2 ^ 63:=by have:=hzz;rw[j5]at this;omega
   refine B1 pl pA (nil ?_)
   have I2:Inv X pz σ H1 { s1 with heap:=s1.heap.push (P2 l ((aD.toArray.size:Int)-1)),toks:=s1.toks+1+1 }:=I1.kept (t':=s1.toks+1+1) fun b o e=>ai _ e
   have W:=fun A hA=>Walks.Fw (prog:=X.prog) (w:=X.w) (A:=A) hA s1.heap.objs.size l (cg cO) aD.toArray pA
   refine A2 (W _ hh) hzz (fun h st=>let⟨o,ho,hcl,_⟩:=st.2.1;⟨o,ho,hcl⟩) (by decide) (by decide) (XM hzz) ⟨Nat.zero_le _,⟨_,bj _ rfl,rfl,by simp [P2]⟩,let⟨o,ho,r⟩:=pl;⟨o,ai _ ho,r⟩⟩ (fun b hb=>?_) (by simp) fun h' tk acc cc k hS hacc=>?_
   ·show b<(s1.heap.push _).objs.size
    rw[jr]
    rcases List.mem_cons.mp hb with rfl|hb
    ·exact gh _
    ·rcases List.mem_cons.mp hb with rfl|hb
     ·exact j9 cO
     ·cases hb
   ·exact fin aD _ h' tk acc cc r1 hz I2 (I1.Q4 (az _) I1.fresh) k hS hacc
theorem Pt (hm:X.mg "list" = none)(hm2:X.mg "reversed" = none)(ha:JA X C sub E [a] [x])(hc:X.calm=true:=by kernel_rfl)(hg:X.env.kindOf "list" = some .globalImplicit:=by kernel_rfl)(hg2:X.env.kindOf "reversed" = some .globalImplicit:=by kernel_rfl)
 (he:ao [.Call (.Name "reversed" p2) [a] [] pos2] X.env=(false,eval (.Call (.Name "reversed" p2) [a] [] pos2) X.env)::ao [] X.env:=by kernel_rfl)(dA:(du pos (ao [] X.env)).any (·.1)=false:=by kernel_rfl)
 (he2:ao [a] X.env=(false,eval a X.env)::ao [] X.env:=by kernel_rfl)(hpl2:(du pos2 (ao [] X.env)).any (·.1)=false:=by kernel_rfl):
 JE X C sub E (.Call (.Name "list" p) [.Call (.Name "reversed" p2) [a] [] pos2] [] pos) (.bit .list .rev [x]):=⟨Kl hm hm2 hc ha.h hg hg2 he dA he2 hpl2⟩
end
theorem Hb {K:aa}{h:Heap}{mg:Str->Option ae}(X:K.In h)(G:h.Ns cu mg){n:Str}{i:Int}{t:Tok}(a:h9 K cu n=some (some (.int i t))):GC K mg n (.int i):=⟨_,.int i,lj X G a,⟨t,rfl⟩,fun _=>.int i⟩
theorem Eb {K:aa}{h:Heap}{mg:Str->Option ae}(X:K.In h)(G:h.Ns cu mg){n:Str}{x:Str}{w:List Nat}{t:Tok}(a:h9 K cu n=some (some (.str x t)))(e:x=⟨w.toArray⟩):GC K mg n (.str w):=⟨_,.str x,lj X G a,⟨t,rfl⟩,fun _=>by rw[e];exact .str w⟩
noncomputable def RH:D->ae->Bool
 |.non,.none=>true
 |.bl b,.bool c=>b==c
 |.int i,.int j _=>i==j
 |.str w,.str x _=>w==x.cps.toList
 |_,_=>false
noncomputable def J1:List D->List ae->Bool
 |[],[]=>true
 |d::ds,u::us=>RH d u&&J1 ds us
 |_,_=>false
noncomputable def YM:D->V
 |.bl b=>.bl b
 |.int i=>.int i
 |.str w=>.str ⟨w.toArray⟩
 |_=>.non
set_option tactic.hygienic true in
theorem X7 {K:aa}{H:Hp}{d:D}{u:ae}(h:RH d u=true):L2.RelV (YM d) u/\Rep K H d (YM d):=by
 unfold RH at h
 split at h
 ·exact⟨rfl,.non⟩
 ·exact⟨by rw[eq_of_beq h];rfl,.bl _⟩
 ·exact⟨⟨_,by rw[eq_of_beq h]⟩,.int _⟩
 ·rename_i w x t
  exact⟨⟨t,by rw[eq_of_beq h]⟩,.str w⟩
 ·cases h
theorem K5 {K:aa}{H:Hp}:∀{ds:List D}{us:List ae},J1 ds us=true->aU (ds.map YM) us/\aL K H ds (ds.map YM)
 |[],[],_=>⟨.nil,.nil⟩
 |d::ds,u::us,h=>by
  simp only[J1,aw]at h
  have r:=X7 (K:=K) (H:=H) h.1
  have s:=K5 (K:=K) (H:=H) h.2
  exact⟨.cons r.1 s.1,.cons r.2 s.2⟩
 |[],_::_,h=>by cases h
 |_::_,[],h=>by cases h
theorem SQ {K:aa}{h:Heap}{mg:Str->Option ae}(X:K.In h)(G:h.Ns cu mg){n:Str}{ds:List D}{p:Addr}{aD:Array ae}{k:Nat}{sl:Array (Option ae)}(a:h9 K cu n=some (some (.ref p)))
 (l:K.lookup p=some ⟨.type "tuple", none,.seq aD k,sl⟩)(f:J1 ds aD.toList=true)(z:Nat.ble aD.size 1000=true):GC K mg n (.tup ds):=by
 refine⟨_,.ref p,lj X G a,rfl,fun H=>?_⟩
 have s:=K5 (K:=K) (H:=H) f
 exact .tup (.inr ⟨_,aD,k,l,rfl,rfl,rfl,qp (TZ (Nat.le_of_ble_eq_true z)),s.1⟩) s.2
noncomputable def Hf:D->Uu
 |.bl b=>.bool b
 |.int i=>.int i
 |.str w=>.str ⟨w.toArray⟩
 |_=>.none
noncomputable def Ph:D->Bool
 |.non=>true
 |.bl _=>true
 |.int _=>true
 |.str _=>true
 |_=>false
noncomputable def xR:List D->List D->List (Str×PyData)
 |.str w::ks,v::vs=>(⟨w.toArray⟩,Hf v)::xR ks vs
 |_,_=>[]
noncomputable def Y4:List D->List D->Bool
 |[],[]=>true
 |.str _::ks,v::vs=>Ph v&&Y4 ks vs
 |_,_=>false
theorem Ii {v:D}(h:Ph v=true):uO (Hf v)=v/\pJ (Hf v)=true:=by
 cases v<;>first|exact⟨rfl,rfl⟩|cases h
theorem SE:∀{ks vs:List D},Y4 ks vs=true->((xR ks vs).all fun p=>pJ p.2)=true/\ks=(xR ks vs).map (fun p=>.str p.1.cps.toList)/\vs=(xR ks vs).map (fun p=>uO p.2)
 |[],[],_=>⟨rfl,rfl,rfl⟩
 |.str w::ks,v::vs,h=>by
  simp only[Y4,aw]at h
  obtain⟨a,b,c⟩:=SE h.2
  obtain⟨d,e⟩:=Ii h.1
  refine⟨?_,?_,?_⟩
  ·simp only[xR,mq,e,a,eu]
  ·simp only[xR,ay];rw[<-b]
  ·simp only[xR,ay,d];rw[<-c]
 |[],_::_,h=>by cases h
 |.str _::_,[],h=>by cases h
 |.non::_,_,h=>by cases h
 |.bl _::_,_,h=>by cases h
 |.int _::_,_,h=>by cases h
 |.tup _::_,_,h=>by cases h
 |.ref _::_,_,h=>by cases h
 |.dE _ _::_,_,h=>by cases h
 |.bO _::_,_,h=>by cases h
 |.exc _::_,_,h=>by cases h
theorem Hg {K:aa}{h:Heap}{mg:Str->Option ae}(X:K.In h)(G:h.Ns cu mg){n:Str}{ks vs:List D}{p:Addr}{es:Array DictEntry}{ep:Nat}(a:h9 K cu n=some (some (.ref p)))
 (l:K.lookup p=some ⟨.type "dict", none,.dict es ep,#[]⟩)(f:(KTD.rowsLook td es.toList (xR ks vs)&&Y4 ks vs && !(p==ox))=true):GC K mg n (.dE ks vs):=by
 simp only[aw]at f
 obtain⟨⟨f1,f2⟩,f3⟩:=f
 obtain⟨a1,a2,a3⟩:=SE f2
 refine⟨_,.ref p,lj X G a,rfl,fun H=>.dE ⟨xR ks vs,?_,a1,a2,a3⟩⟩
 simp only[wo,l,f1,f3]
 rfl
end L3
end
section
namespace L3
open PySem PySem.Spec PyProof.Rows L2 PySem.SeqAt
theorem NK {β:Type}(n:Nat)(b:β)(f:Nat->β->Sem (ForInStep β)):forIn [0:n] b f=forIn (sv 0 n 1) b f:=by
 rw[Std.Legacy.Range.forIn_eq_forIn_range']
 have lE:([0:n]:zx).size=n:=by simp [Std.Legacy.Range.size]
 show forIn (sv 0 ([0:n]:zx).size 1) b f=_
 rw[lE]
theorem C4 {prog:bu}{w:de}{A:cb}{E:ae->ag->Prop}{s:ag}{t:Addr}{items:Array ae}{x:ae}{e:ae->Bool}{j:Nat}{P:Fin->ag->Prop}(ht:IsTup s.heap t items)
  (he:∀ y,y∈items->EqAt A s y x (e y))(hj:j<items.size)(hit:e items[j]=true)(hno:∀ m (hm:m<items.size),m<j->e items[m]=false)
  (h:P (.done (.ret (.int j s.toks))) { s with toks:=s.toks+1 }):wpAny (model prog w) A (Builtin.«tuple.index» ⟨[.ref t,x],[]⟩) P E s:=by
 show wpAny _ _ (gv (.ref t) >>= _) _ _ s
 refine af (xo ht ?_)
 show wpAny _ _ (forIn [0:min items.size items.size] _ _ >>= _) _ _ s
 rw[Nat.min_self,NK]
 refine af (jq (Q:=fun(b:Option PySem.Fin×Unit) s'=>b.1=some (.done (.ret (.int j s.toks)))/\s' = { s with toks:=s.toks+1 }) (uf (β:=Option PySem.Fin×Unit) _ (fun rest b s'=>s'=s/\b.1=none/\∃ i,rest=sv i (items.size-i) 1/\i<=j) _ ?_ ?_ _ _ ⟨rfl,rfl,0,rfl,dm _⟩) ?_ fun _ _ z=>z)
 ·rintro i rest b s' ⟨rfl,hb,k,hk,hkj⟩
  have cO:k<items.size:=by omega
  have e1:items.size-k=(items.size-(k+1))+1:=by omega
  rw[e1,zy]at hk
  injection hk with h1 h2
  subst h1
  have hg:items[i]? = some items[i]:=by simp [cO]
  rw[hg]
  show wpAny _ _ (eqBool items[i] x >>= _) _ _ _
  refine af (he _ (Array.getElem_mem cO) prog w _ _ ?_)
  by_cases hij:i=j
  ·subst hij
   rw[hit]
   exact af (af (sj (ar (ar ⟨rfl,rfl⟩))))
  ·rw[hno i cO (by omega)]
   exact ar ⟨rfl,rfl,i+1,h2,by omega⟩
 ·rintro b s' ⟨_,_,i,hi,hij⟩
  have:(sv i (items.size-i) 1).length=0:=by rw[<-hi];rfl
  simp at this
  omega
 ·rintro⟨b1,b2⟩ s' ⟨hb,rfl⟩
  simp only at hb
  subst hb
  exact ar h
section
variable {X:Cx}
theorem KN {pz:List (Addr×Obj)}{s:ag}{σ:L2.St}{H:Hp}{st:aB}(I:Inv X pz σ H s)(ok:aV X.K st H){ds:List D}{vs:List V}{aD:List ae}{d:D}{v:V}{u:ae}{A:cb}
  (g:aL X.K H ds vs)(r:aU vs aD)(p:dR st ds)(pd:plainS st d)(rd:Rep X.K H d v)(rv:RelV v u)(hu:A.units+178<cLine):
  ∃ e:ae->Bool,(∀ y,y∈aD.toArray->EqAt A.in1 s y u (e y))/\∀ j (hj:j<aD.length)(hj':j<ds.length),e aD[j]=bV st ds[j] d:=by
 classical
 have hD:jY=80:=rfl
 have item:∀(d':D)(v':V)(y:ae),d'∈ds->Rep X.K H d' v'->RelV v' y->EqAt A.in1 s y u (bV st d' d):=fun d' v' y m r' bJ=>by
  have h1:=kD m
  have h2:=p.2
  exact(RJ I ok 80 (by omega) (hU p.1 m) pd.1 r' bJ rd rv (by simp only[fw];omega)).2.1
 let e:ae->Bool:=fun y=>decide (∃ d' v',d'∈ds/\Rep X.K H d' v'/\RelV v' y/\bV st d' d=true)
 have he:∀(d':D)(v':V)(y:ae),d'∈ds->Rep X.K H d' v'->RelV v' y->e y=bV st d' d:=fun d' v' y m r' bJ=>by
  show decide _=_
  cases q:bV st d' d with
  |true=>exact decide_eq_true ⟨d',v',m,r',bJ,q⟩
  |false =>
   refine decide_eq_false fun⟨d2,v2,m2,r2,rv2,q2⟩=>?_
   cases RelV.inj bJ rv2
   have:=NC I ok _ (az _) (hU p.1 m) (hU p.1 m2) r' r2
   subst this
   rw[q]at q2;cases q2
 refine⟨e,fun y hy=>?_,fun j hj hj'=>?_⟩
 ·obtain⟨j,hj,rfl⟩:=Array.mem_iff_getElem.mp hy
  obtain⟨v',e1,e2⟩:=aU.at r hj
  obtain⟨d',e3,e4⟩:=aL.get' g e1
  rw[he d' v' _ (bg e3) e4 e2]
  exact item d' v' _ (bg e3) e4 e2
 ·obtain⟨v',e1,e2⟩:=aU.at r (by simpa using hj)
  obtain⟨d',e3,e4⟩:=aL.get' g e1
  have e5:ds[j]=d':=(List.getElem?_eq_some_iff.mp e3).2
  rw[e5]
  exact he d' v' _ (bg e3) e4 (by simpa using e2)
theorem xZ {st:aB}{d:D}:∀{ds:List D}{j:Nat},findD st d ds=some j->∃ hj:j<ds.length,bV st ds[j] d=true/\∀ m (hm:m<ds.length),m<j->bV st ds[m] d=false
 |[],_,h=>by cases h
 |x::r,j,h=>by
  have h:(if bV st x d=true then some 0 else(findD st d r).map (·+ 1))=some j:=h
  by_cases c:bV st x d=true
  ·rw[if_pos c]at h;cases h
   exact⟨by simp,c,fun m _ hm=>by omega⟩
  ·rw[if_neg c]at h
   obtain⟨k,e,rfl⟩:=Option.map_eq_some_iff.mp h
   obtain⟨h1,h2,h3⟩:=xZ e
   refine⟨by simpa using h1,by simpa using h2,fun m hm hl=>?_⟩
   cases m with
   |zero=>simpa using c
   |succ m=>simpa using h3 m (by simpa using hm) (by omega)
theorem index_list {pz:List (Addr×Obj)}{s:ag}{σ:L2.St}{H:Hp}{st:aB}{R:VK}{ds:List D}{vs:List V}{d:D}{v:V}{u:ae}{a:Addr}{j:Nat}(hu:X.A.units+180<cLine)(I:Inv X pz σ H s)(ok:aV X.K st H)(f:eT X.K H a vs)(g:aL X.K H ds vs)
  (rd:Rep X.K H d v)(rv:RelV v u)(pd:plainS st d)(ps:dR st ds)(hj:findD st d ds=some j)(q:R (.int (j:Nat)) st):wpAny (model X.prog X.w) X.A (call (.builtin "list.index") [.ref a,u]) (EP X pz σ (QD X.K H st R)) X.xe s:=by
 obtain⟨aD,r1,p1,hz⟩:=I.list f
 obtain⟨e,he,ha⟩:=KN I ok g r1 ps pd rd rv (A:=X.A) (by omega)
 obtain⟨h1,h2,h3⟩:=xZ hj
 have l1:=g.length
 have l2:=r1.length
 have hn:=rZ
 obtain⟨⟨cls,dd,data,sl⟩,ho,hc,n,hd⟩:=id p1.isList
 simp only at hc hd
 subst hc hd
 refine ni uh ⟨_,ho,rfl⟩ PySem.F.entry_list_index (PySem.F.args_list_index_2 _ _)
  (list_indexAt a aD.toArray n dd sl u e j (by simp;omega) (by omega) ?_ ?_) ⟨ho,he,?_⟩
 ·show e aD[j]=true
  rw[ha j (by omega) h1];exact h2
 ·intro m hm hl
  have hm:m<aD.length:=by simpa using hm
  show e aD[m]=false
  rw[ha m hm (by omega)];exact h3 m (by omega) hl
 ·exact⟨.int j,H,I.tok _,⟨_,rfl⟩,.here ok (.int _) q⟩
theorem R9 {pz:List (Addr×Obj)}{s:ag}{σ:L2.St}{H:Hp}{st:aB}{R:VK}{ds:List D}{vs:List V}{d:D}{v:V}{u:ae}{a:Addr}{j:Nat}(hu:X.A.units+180<cLine)(I:Inv X pz σ H s)(ok:aV X.K st H)(f:eU X.K H a vs)(g:aL X.K H ds vs)
  (rd:Rep X.K H d v)(rv:RelV v u)(pd:plainS st d)(ps:dR st ds)(hj:findD st d ds=some j)(q:R (.int (j:Nat)) st):wpAny (model X.prog X.w) X.A (call (.builtin "tuple.index") [.ref a,u]) (EP X pz σ (QD X.K H st R)) X.xe s:=by
 obtain⟨aD,r1,p1,hz⟩:=I.tuple f
 obtain⟨e,he,ha⟩:=KN I ok g r1 ps pd rd rv (A:=X.A) (by omega)
 obtain⟨h1,h2,h3⟩:=xZ hj
 have l1:=g.length
 have l2:=r1.length
 refine fu tw p1.typeIs PySem.F.entry_tuple_index (C4 p1 he (j:=j) (by simp;omega) ?_ ?_ ⟨_,rfl,?_⟩) (PySem.F.args_tuple_index_2 _ _)
 ·show e aD[j]=true
  rw[ha j (by omega) h1];exact h2
 ·intro m hm hl
  have hm:m<aD.length:=by simpa using hm
  show e aD[m]=false
  rw[ha m hm (by omega)];exact h3 m (by omega) hl
 ·exact⟨.int j,H,I.tok _,⟨_,rfl⟩,.here ok (.int _) q⟩
end
section
variable {X:Cx}{C:bE}{sub:Nat->Nat->Bool}{E:XK}{e o:Expr}{x y:Ex}{pos apos lI:Pos}
noncomputable def Gz:D->Bool
 |.tup _=>true
 |_=>false
theorem K2 {K:aa}{H:Hp}{st:aB}{d:D}{v:V}{Kk:List Nat->List D->Prop}(ok:aV K st H)(r:Rep K H d v)(h:dY d st Kk):∃ a vs as ds,v=.ref a/\aL K H ds vs/\((Gz d=false/\eT K H a vs)∨(Gz d=true/\eU K H a vs))/\Kk as ds:=by
 unfold dY at h
 split at h
 ·obtain⟨a,vs,rfl,f,g⟩:=r.bX
  exact⟨a,vs,_,_,rfl,g,.inr ⟨rfl,f⟩,h⟩
 ·cases r.cV
  obtain⟨ds,e,h⟩:=eH h
  obtain⟨vs,g1,g2⟩:=ok.lst e
  exact⟨_,vs,_,_,rfl,g2,.inl ⟨rfl,eT.of g1⟩,h⟩
 ·obtain⟨a,vs,rfl,f,g⟩:=r.lZ
  exact⟨a,vs,_,_,rfl,g,.inl ⟨rfl,f.sq⟩,h⟩
 ·exact h.elim
theorem WD (m:bZ C C)(hu:X.A.units+180<cLine)(ho:JE X C sub E o x)(ha:JA X C sub E [e] [y])(kU:f7 o "index" X.env (eval o X.env)=eval o X.env:=by kernel_rfl)
  (vG:((du pos (ao [e] X.env)).all (fun x=>!x.1)&&(oi pos (j6 [] X.env)).all (fun x=>x.1.isSome)&&decide ([e].length+([]:List qs).length+(if([]:List qs).isEmpty then 0 else 1)<30))=true:=by kernel_rfl)(kW:(apos.endLine==pos.line)=true:=by kernel_rfl)
  (hs:ao [e] X.env=[(false,eval e X.env)]:=by kernel_rfl):
  JE X C sub E (.Call (.Attribute o "index" apos) [e] [] pos) (.cT .index x [y]):=⟨by
 intro pz s σ H Q I ⟨σd,st,R,r,ok,q,hq⟩
 refine vd kU vG kW rfl (bD (ho.h pz s σ H _ I ⟨σd,st,_,r,ok,q,fun v H' z=>z⟩) fun v s1 ⟨x1,H1,I1,r1,d1,aC,dH,aS,rd1,q1⟩=>?_)
 obtain⟨rc,q1⟩:=q1
 obtain⟨a,vs,as,ds,rfl,g,ty,-⟩:=K2 aS rd1 rc
 cases r1
 have rest:∀ id:String,(∀(s2:ag)(H2:Hp)(aF:aB)(d2:D)(v2:V)(u2:ae),Inv X pz σ H2 s2->Step H1 aC H2 aF->aV X.K aF H2->Rep X.K H2 d2 v2->RelV v2 u2->kP .index d1 [d2] aF R->wpAny (model X.prog X.w) X.A (call (.builtin id) [.ref a,u2]) (EP X pz σ (QD X.K H2 aF R)) X.xe s2) ->
   wpAny (model X.prog X.w) X.A (wc pos (.builtin id) [.ref a] (du pos (ao [e] X.env)) []) (EP X pz σ Q) X.xe s1:=by
  intro id hc
  have hA:=ha.h pos pz s1 σ H1 _ I1 ⟨σd,aC,_,r.step ok dH,aS,xS [y] m q1,fun vs H' z=>z⟩
  rw[hs]at hA ⊢
  refine kx (by rfl) (p0 ?_)
  refine bD hA fun us s2 ⟨ws,H2,I2,r2,es,aF,gX,bW,rs2,l2,q2⟩=>?_
  match es,l2,ws,rs2,us,r2 with
  |[d2],_,_,.cons rd2 .nil,_,.cons rv2 .nil =>
   exact bD (hc s2 H2 aF d2 _ _ I2 gX bW rd2 rv2 q2) fun w s3 ⟨v3,H3,I3,r3,z⟩=>⟨v3,H3,I3,r3,hq _ _ (.after (dH.trans gX) z)⟩
 rcases ty with⟨tk,ty⟩|⟨tk,ty⟩
 ·obtain⟨aD,_,p1,_⟩:=I1.list ty
  refine⟨"list","list.index", n4,uh,PySem.F.type_list_index,p1.isList.typeIs,fun b e=>?_,rest _ fun s2 H2 aF d2 v2 u2 I2 gX bW rd2 rv2 q2=>?_⟩
  ·cases e
   obtain⟨o,n,e,c,hd,_⟩:=p1
   exact⟨o,e,hd⟩
  ·obtain⟨a',vs2,as2,ds2,e2,g2,ty2,pd,ps,q2⟩:=K2 bW (rd1.step aS gX) q2
   cases e2
   obtain⟨j,hj,q2⟩:=fA q2
   rcases ty2 with⟨tk2,ty2⟩|⟨tk2,ty2⟩
   ·exact index_list hu I2 bW ty2 g2 rd2 rv2 pd ps hj q2
   ·rw[tk]at tk2;cases tk2
 ·obtain⟨aD,_,p1,_⟩:=I1.tuple ty
  refine⟨"tuple","tuple.index", PySem.F.plainAttrs_tuple,tw,PySem.F.type_tuple_index,p1.typeIs,fun b e=>?_,rest _ fun s2 H2 aF d2 v2 u2 I2 gX bW rd2 rv2 q2=>?_⟩
  ·cases e
   exact I1.Ol ty
  ·obtain⟨a',vs2,as2,ds2,e2,g2,ty2,pd,ps,q2⟩:=K2 bW (rd1.step aS gX) q2
   cases e2
   obtain⟨j,hj,q2⟩:=fA q2
   rcases ty2 with⟨tk2,ty2⟩|⟨tk2,ty2⟩
   ·rw[tk]at tk2;cases tk2
   ·exact R9 hu I2 bW ty2 g2 rd2 rv2 pd ps hj q2⟩
end
noncomputable def uG (val:Nat->Str):Nat->Nat
 |0=>0
 |i+1=>if((bb i).map val).any (·== val i)then uG val i else uG val i+1
theorem RR (val:Nat->Str):∀ i,uG val i<=i
 |0=>az _
 |i+1=>by
  have:=RR val i
  unfold uG
  split<;>omega
section
variable {prog:bu}{w:de}{A:cb}{R:Vt->ag->Prop}{I:Addr}{fp wr:List Addr}{G:Array Uo->Array Uo->Prop}{n:Nat}{P:Nat->ae->Prop}{St:Nat->ag->Prop}
abbrev rR (prog:bu)(w:de)(val:Nat->Str)(S:Addr)(i:Nat)(h:Heap):Prop:=h.SetOf (strKind prog w) S (fun k=>((bb i).map val).any (·== k)) (uG val i)
theorem NV {val:Nat->Str}{S:Addr}{i:Nat}{h:Heap}(x:h.SetOf (strKind prog w) S (fun k'=>((bb i).map val).any (·== k')||decide (k'=val i)) (if((bb i).map val).any (·== val i)then uG val i else uG val i+1)):rR prog w val S (i+1) h:=by
 refine SetOf_congr x (fun k=>?_) rfl
 rw[j1,dg,List.any_append]
 congr 1
 simp only[ay,fe,kf,List.any_nil,xp]
 by_cases e:k=val i
 ·subst e;simp
 ·rw[decide_eq_false e];symm;exact beq_eq_false_iff_ne.mpr fun z=>e z.symm
theorem WT (W:WalksS prog w A.in1 I fp wr G n P St)(S:Addr)(hSf:S∉fp)(val:Nat->Str)(hval:∀ i v,P i v->∃ t,v=.str (val i) t)(hb:n+1<uj):
 ∀(k i:Nat)(s:ag),n-i=k->i<=n->St i s->rR prog w val S i s.heap->(∀ s',Moved (S::wr) G s s'->rR prog w val S n s'.heap->R (.ok (.ret .none)) s') ->
  ku (model prog w) A (.builtin "set.update.loop" ⟨[.ref S,.ref I],[]⟩) R s:=by
 have hSw:S∉wr:=fun h=>hSf (W.sub _ h)
 have hsub:∀ b∈wr,b∈S::wr:=fun b hb=>cj _ hb
 have keep:∀{i:Nat}{s s':ag},rR prog w val S i s.heap->Moved wr G s s'->rR prog w val S i s'.heap:=fun⟨o,es,ep,t,ho,rest⟩ hm=>⟨o,es,ep,t,hm.heap S _ hSw ho,rest⟩
 intro k
 induction k with
 |zero =>
 intro i s hk hi dN hS hR
 obtain rfl:i=n:=by omega
 refine qi mj ?_
 rw[qa jj _]
 show wpAny _ A.in1 (ux (.ref I) >>= _) _ _ s
 refine af (W.done s _ _ dN fun s' hm=>?_)
 show wpAny _ A.in1 (ret jd) _ _ s'
 exact ar (hR s' (hm.mono hsub) (keep hS hm))
 |succ k ih =>
 intro i s hk hi dN hS hR
 have cO:i<n:=by omega
 refine qi mj ?_
 rw[qa jj _]
 show wpAny _ A.in1 (ux (.ref I) >>= _) _ _ s
 refine af (W.item i s _ _ cO dN fun v s' hP hst' hm=>?_)
 obtain⟨t,rfl⟩:=hval i v hP
 show wpAny _ A.in1 (kg [zj (val i) t] (setAdd S (.str (val i) t)) >>= _) _ _ s'
 refine af (gk ?_)
 unfold setAdd
 refine gk (af ((strKind prog w).pyHash (k:=val i) (yh _ _ _ _) ?_))
 refine wpAny_setAddHashed_of (knd:=strKind prog w) (s:={ s' with toks:=s'.toks+1 }) (yh _ _ _ _) rfl (show rR prog w val S i s'.heap from keep hS hm) (by have:=RR val i;omega) fun h' hsb hS2=>?_
 refine ar ⟨plainId_quiet jj _,ih (i+1) _ (by omega) cO (W.frame _ s' _ _ hst' (we _) fun b hb o e=>?_) (NV hS2) fun s'' hm'' hS''=>?_⟩
 ·rw[hsb.2 b (fun h:b=S=>hSf (by rw[<-h];exact hb))];exact e
 ·refine hR s'' (Moved.trans W.gtrans ((hm.mono hsub).then_heap (we _) fun b o hb e=>?_) hm'') hS''
  rw[hsb.2 b (fun h:b=S=>hb (by rw[h];exact dh))];exact e
end
section
variable {prog:bu}{w:de}{A:cb}{E:ae->ag->Prop}{s:ag}
noncomputable abbrev iO (led:Bool):Obj:={ cls:=.type "set", dict:=none,data:=.set #[] 0 (.fresh 0 0 led) }
theorem GJ {l:Addr}{items:Array ae}{val:Nat->Str}{led:Bool}{Q:PySem.Fin->ag->Prop}(hh:A.handled=none)(hl:s.heap.IsTuple l items)(hv:∀(i:Nat)(v:ae),items[i]? = some v->∃ t,v=.str (val i) t)(hb:items.size+1<uj)
  (h:∀(h':Heap)(tk:Nat),rR prog w val s.heap.objs.size items.size h'->(∀ b o,s.heap.get? b=some o->h'.get? b=some o)->Q (.done (.ret .none)) { s with heap:=h',toks:=tk }):
  wpAny (model prog w) A (Builtin.«set.__init__» ⟨[.ref s.heap.objs.size,.ref l],[]⟩) Q E { s with heap:=s.heap.push (iO led) }:=by
 obtain⟨ol,hol,hcl,nl,hdl⟩:=hl
 obtain⟨ocls,odict,odata,oslots⟩:=ol
 simp only at hcl hdl
 subst hcl;subst hdl
 have hS:(s.heap.push (iO led)).get? s.heap.objs.size=some (iO led):=bj _ rfl
 have hT:Vl { s with heap:=s.heap.push (iO led) } (.ref s.heap.objs.size) "set":=⟨_,hS,rfl⟩
 have hol':(s.heap.push (iO led)).get? l=some { cls:=.type "tuple", dict:=odict,data:=.seq items nl,slots:=oslots }:=ai _ hol
 have hsls:=PySem.F.sub_tuple_set
 have hslf:=PySem.F.sub_tuple_frozenset
 have hne:(fz "tuple" == fz "dict")=false:=by decide
 have hl1:(s.heap.push (iO led)).IsTuple l items:=⟨_,hol',rfl,nl,rfl⟩
 unfold Builtin.«set.__init__» noKeywords Builtin.Frozenset.updateFrom
 generalize hPI:wb=PI
 wp_walk
 subst hPI
 refine rm hl1 ?_
 refine af (wpAny_runValue ?_)
 have hlS:l<s.heap.objs.size:=bh hol
 have hh3:A.in1.handled=none:=by simp [hh]
 have lE:(s.heap.push (iO led)).objs.size=s.heap.objs.size+1:=jr ..
 have hneI:l≠(s.heap.push (iO led)).objs.size:=by rw[lE];exact cg (j9 hlS)
 have hSf:s.heap.objs.size∉[(s.heap.push (iO led)).objs.size,l]:=by
  simp only[cy,bw,or_false,not_or]
  exact⟨by rw[lE];exact cg (gh _),oe hlS⟩
 refine WT ((Wg hh3 _ l hneI items).toS) s.heap.objs.size hSf val hv hb (items.size-0) 0 _ (by omega) (dm _) ⟨?hT1,?hT0⟩ ?hS0 ?hR
 case hT1=>exact⟨_,bj _ rfl,rfl,rfl⟩
 case hT0=>exact⟨_,ai _ hol',rfl,nl,rfl⟩
 case hS0=>exact SetOf_congr ((setObjOf_fresh (knd:=strKind prog w) led).setOf (ai _ hS) (by unfold uj;omega)) (fun _=>rfl) rfl
 case hR =>
  intro s' hm hS'
  obtain⟨h',g',d',tk',os'⟩:=s'
  have eg:g'=s.gens:=hm.gens
  have ed:d'=s.drawn:=hm.drawn
  have eo:os'=s.os:=hm.os
  subst eg;subst ed;subst eo
  show wpAny _ _ _ _ _ _
  refine ar ?_
  show wpAny _ _ (ret jd) _ _ _
  refine ar (h h' tk' hS' fun b o e=>?_)
  have hb1:b<s.heap.objs.size:=bh e
  exact hm.heap b o (by simp only[cy,bw,or_false,not_or];exact⟨Nat.ne_of_lt hb1,by rw[lE];exact cg (j9 hb1)⟩) (ai _ (ai _ e))
set_option maxHeartbeats 6400000 in
theorem MH {l:Addr}{items:Array ae}{val:Nat->Str}{Q:ae->ag->Prop}(hh:A.handled=none)(hl:s.heap.IsTuple l items)(hv:∀(i:Nat)(v:ae),items[i]? = some v->∃ t,v=.str (val i) t)(hb:items.size+1<uj)
 (h:∀(h':Heap)(tk:Nat),rR prog w val s.heap.objs.size items.size h'->(∀ b o,s.heap.get? b=some o->h'.get? b=some o)->Q (.ref s.heap.objs.size) { s with heap:=h',toks:=tk }):
 wpAny (model prog w) A (call (.type "set") [.ref l]) Q E s:=by
 obtain⟨c,tl,hmro⟩:=PySem.F.called_set.mro
 have hmade:=PySem.F.called_set.made
 have hsub:=PySem.F.called_set.sub
 refine uy (Ul ?_)
 show wpAny _ _ (callAny (.type "set") _) _ _ _
 refine ar ⟨Code.quiet_builtin _ (by decide +kernel),qi PySem.F.entry_type_call ?_⟩
 rw[Around.under_plain (weight_type_call_type "set" [.ref l] []) rfl]
 have h1:=PySem.F.called_set.notType
 have h2:=PySem.F.called_set.canCreate
 have hct:=PySem.F.typeCall_set_1 (.ref l)
 repeat (any_goals (first|assumption|wp_step))
 refine kv (code_set_new_1 (.ref l) (E:=E) (Q₁:=fun obj s₁=>∃ led:Bool,obj=.ref s.heap.objs.size/\s₁ = { s with heap:=s.heap.push (iO led) }) fun led=>⟨led,rfl,rfl⟩) fun r s₁ hr=>?_
 cases r with
 |error e=>exact hr
 |ok fl =>
 cases fl with
 |ret obj =>
  obtain⟨led,rfl,rfl⟩:=hr
  have hT:Vl { s with heap:=s.heap.push (iO led) } (.ref s.heap.objs.size) "set":=⟨_,bj _ rfl,rfl⟩
  have hli:=PySem.F.called_set.init.lookup
  have hbi:=PySem.F.called_set.init.bind (.ref s.heap.objs.size)
  repeat (any_goals (first|assumption|wp_step))
  refine kv (codeAny_call_builtin (R:=wants (fun r s₂=>r=.none/\∃ h' tk,s₂ = { s with heap:=h',toks:=tk }/\rR prog w val s.heap.objs.size items.size h'/\(∀ b o,s.heap.get? b=some o->h'.get? b=some o)) E) PySem.F.called_set.init.plain PySem.F.entry_set_init (check_set_init_1 hT ?_)) fun r₂ s₂ hr₂=>?_
  ·exact GJ (by simp [hh]) hl hv hb fun h' tk hS hk=>⟨rfl,h',tk,rfl,hS,hk⟩
  ·cases r₂ with
  |error e=>exact hr₂
  |ok fl₂ =>
   cases fl₂ with
   |ret r =>
   obtain⟨rfl,h',tk,rfl,hS',hk'⟩:=hr₂
   repeat (any_goals (first|assumption|wp_step))
   exact h _ _ hS' hk'
   |_=>exact hr₂.elim
 |_=>exact hr.elim
end
noncomputable abbrev oO (ws:List (List Nat))(i:Nat):Str:=⟨(ws.getD i []).toArray⟩
theorem Wx (a b:List Nat):((⟨a.toArray⟩:Str)==⟨b.toArray⟩)=(a==b):=by
 by_cases h:a=b
 ·subst h;simp
 ·rw[beq_eq_false_iff_ne.mpr h]
  refine beq_eq_false_iff_ne.mpr fun e=>h ?_
  have e1:a.toArray=b.toArray:=congrArg Wy e
  simpa using e1
theorem S7 (ws:List (List Nat)):∀(rest seen:List (List Nat)),ws=seen++rest->uG (oO ws) seen.length+AV seen rest=uG (oO ws) ws.length
 |[],seen,h=>by simp [h,AV]
 |w::r,seen,h=>by
  have ih:=S7 ws r (seen++[w]) (by simp [h])
  rw[<-ih]
  have e1:oO ws seen.length=⟨w.toArray⟩:=by simp [oO,h]
  have e2:((bb seen.length).map (oO ws)).any (·== oO ws seen.length)=seen.any (·== w):=by
   have e3:(bb seen.length).map (oO ws)=seen.map fun x=>(⟨x.toArray⟩:Str):=by
    refine List.ext_getElem (by simp) fun i h1 h2=>?_
    have hi:i<seen.length:=by simpa using h1
    simp [oO,h,bq hi,ah hi]
   rw[e3,e1,kz]
   congr 1
   funext x
   exact Wx x w
  simp only[bp,bf,be,AV]
  have e5:uG (oO ws) (seen.length+1)=if seen.any (·== w)=true then uG (oO ws) seen.length else uG (oO ws) seen.length+1:=by rw[<-e2];rfl
  show _=uG (oO ws) (seen.length+1)+_
  rw[e5]
  by_cases c:seen.any (·== w)=true
  ·rw[if_pos c,if_pos c];omega
  ·rw[if_neg c,if_neg c];omega
theorem G6 {K:aa}{H:Hp}:∀{ds:List D}{ws:List (List Nat)}{vs:List V}{us:List ae},strsOf ds=some ws->aL K H ds vs->aU vs us->us.length=ws.length/\∀(i:Nat)(v:ae),us[i]? = some v->∃ t,v=.str (oO ws i) t
 |[],ws,_,_,h,.nil,.nil=>by cases h;exact⟨rfl,fun i v e=>by simp at e⟩
 |.str w::r,ws,_,_,h,.cons rd rs,.cons rv rvs=>by
  have h:(strsOf r).map (w :: ·)=some ws:=h
  obtain⟨ws',e,rfl⟩:=Option.map_eq_some_iff.mp h
  obtain⟨l,ih⟩:=G6 e rs rvs
  refine⟨by simpa using l,fun i v e=>?_⟩
  cases i with
  |zero =>
   cases rd.str_inv
   obtain⟨t,rfl⟩:=rv
   simp at e
   exact⟨t,e.symm⟩
  |succ i=>exact ih i v (by simpa using e)
 |.non::_,_,_,_,h,_,_=>by cases h
 |.bl _::_,_,_,_,h,_,_=>by cases h
 |.int _::_,_,_,_,h,_,_=>by cases h
 |.tup _::_,_,_,_,h,_,_=>by cases h
 |.ref _::_,_,_,_,h,_,_=>by cases h
 |.dE _ _::_,_,_,_,h,_,_=>by cases h
 |.bO _::_,_,_,_,h,_,_=>by cases h
 |.exc _::_,_,_,_,h,_,_=>by cases h
theorem Tn {a b:D}{r:List D}{st:aB}{Q:VK}(h:iA .tQ (a::b::r) st Q):False:=by
 unfold iA at h
 split at h<;>simp_all
section
variable {X:Cx}{C:bE}{sub:Nat->Nat->Bool}{E:XK}{a:Expr}{x:Ex}{p p2 pos pos2:Pos}
theorem Tc (hm:X.mg "len" = none)(hm2:X.mg "set" = none)(ha:JA X C sub E [a] [x])(hc:X.calm=true:=by kernel_rfl)(hg:X.env.kindOf "len" = some .globalImplicit:=by kernel_rfl)(hg2:X.env.kindOf "set" = some .globalImplicit:=by kernel_rfl)
  (he:ao [.Call (.Name "set" p2) [a] [] pos2] X.env=(false,eval (.Call (.Name "set" p2) [a] [] pos2) X.env)::ao [] X.env:=by kernel_rfl)(dA:(du pos (ao [] X.env)).any (·.1)=false:=by kernel_rfl)
  (he2:ao [a] X.env=(false,eval a X.env)::ao [] X.env:=by kernel_rfl)(hpl2:(du pos2 (ao [] X.env)).any (·.1)=false:=by kernel_rfl):
  JE X C sub E (.Call (.Name "len" p) [.Call (.Name "set" p2) [a] [] pos2] [] pos) (.bi .tQ [x]):=⟨by
 intro pz s σ H Q I ⟨σd,st,R,r,ok,q,hq⟩
 refine fb (qP I hg hm dZ ?_ (by decide) (by decide))
 rw[he]
 refine kx (by show(false||(du pos (ao [] X.env)).any (·.1))=false;rw[dA];rfl) (p0 ?_)
 show wpAny _ _ (ym ((false,eval (.Call (.Name "set" p2) [a] [] pos2) X.env)::du pos (ao [] X.env))) _ _ s
 refine ju ?_
 refine fb (qP I hg2 hm2 Dm ?_ (by decide) (by decide))
 refine gj (bD (ha.h pos2 pz s σ H _ I ⟨σd,st,_,r,ok,q,fun vs H' z=>z⟩) fun us s1 ⟨vs,H1,I1,rv,ds,aC,dH,aS,rs,q1⟩=>?_) he2 hpl2
 match ds,rs,q1 with
 |[d],rs,q1 =>
  obtain⟨v,rfl,rd⟩:=rs.one
  obtain⟨u,rfl,ru⟩:=vals1 rv
  cases d with
  |tup es =>
   rw[IU]at q1
   obtain⟨ws,e1,hl,q1⟩:=fA q1
   obtain⟨l,vs,rfl,f,g⟩:=rd.bX
   cases ru
   obtain⟨aD,r1,pl,hz⟩:=I1.tuple f
   obtain⟨hlen,hat⟩:=G6 e1 g r1
   have hh:X.A.handled=none:=I1.ok.hd hc
   refine MH (val:=oO ws) hh (show s1.heap.IsTuple l aD.toArray from pl) (fun i v e=>hat i v (by simpa using e)) (by simp;unfold uj;omega) fun h' tk hS hk=>?_
   refine oj ?_
   have I2:Inv X pz σ H1 { s1 with heap:=h',toks:=tk }:=I1.kept hk
   obtain⟨o,es',ep,t,ho,hex,hd,hel,hmem,hb,hf,hn⟩:=hS
   refine call_len_set (s:={ s1 with heap:=h',toks:=tk }) ho hex hd hf (by unfold uj at hb;omega) ?_
   have hn2:es'.size=AV [] ws:=by
    rw[hn]
    have:=S7 ws ws [] rfl
    simp only[be,uG,ze]at this
    rw[this]
    simp [hlen]
   rw[hn2]
   exact⟨.int (AV [] ws:Nat),H1,I2.tok _,⟨_,rfl⟩,hq _ _ (.after dH (.here aS (.int _) q1))⟩
  |ref b =>
   obtain⟨_,_,z⟩:=eH (show cR aC b fun xs=>fL .tQ xs aC R from q1)
   exact(show False from z).elim
  |_=>exact(show False from q1).elim
 |[],rs,q1=>exact(show False from q1).elim
 |_::_::_,rs,q1=>exact(Tn q1).elim⟩
end
end L3
end
section
namespace L3
open PySem PySem.Spec PyProof.Rows L2
theorem oA.wI {X:Cx}{C:bE}{n:Str}{i:Nat}{scope:Scope}{own cn:List Str}{fp:List Addr}{s:ag}{H:Hp}{Ca:Addr}(h:oA X C n i):oA (nH X scope own cn fp s H Ca) C n i:=let⟨a,b⟩:=h;⟨a,b⟩
section
variable {K:aa}{H:Hp}
theorem str_inj {a b:List Nat}(h:(⟨a.toArray⟩:Str)=⟨b.toArray⟩):a=b:=by
 have:a.toArray=b.toArray:=congrArg Wy h
 simpa using this
theorem jC.get {f:List Nat}{d:D}:∀{fs:List (List Nat×D)}{ws:List (Str×V)},jC K H fs ws->bN fs f=some d->∃ v,ws.lookup (⟨f.toArray⟩:Str)=some v/\Rep K H d v
 |[],_,_,h=>by cases h
 |(g,e)::fs,[],r,_=>by cases r.1
 |(g,e)::fs,(g',v)::ws,r,h=>by
  obtain⟨r1,r2⟩:=r
  simp only[ay,qj]at r1
  cases r2 with
  |cons rd rs =>
   simp only[bN]at h
   by_cases q:g=f
   ·rw[if_pos q]at h;cases h
    refine⟨v,?_,rd⟩
    simp [gz,r1.1,q]
   ·rw[if_neg q]at h
    obtain⟨v',e1,e2⟩:=jC.get (fs:=fs) (ws:=ws) ⟨r1.2,rs⟩ h
    refine⟨v',?_,e2⟩
    have:((⟨f.toArray⟩:Str)==g')=false:=beq_eq_false_iff_ne.mpr fun z=>q (str_inj (by rw[z];exact r1.1.symm))
    simp only[gz,this]
    exact e1
theorem jC.no {f:List Nat}:∀{fs:List (List Nat×D)}{ws:List (Str×V)},jC K H fs ws->bN fs f=none->ws.lookup (⟨f.toArray⟩:Str)=none
 |[],[],_,_=>rfl
 |[],_::_,r,_=>by cases r.1
 |(g,e)::fs,[],r,_=>by cases r.1
 |(g,e)::fs,(g',v)::ws,r,h=>by
  obtain⟨r1,r2⟩:=r
  simp only[ay,qj]at r1
  cases r2 with
  |cons rd rs =>
   simp only[bN]at h
   by_cases q:g=f
   ·rw[if_pos q]at h;cases h
   ·rw[if_neg q]at h
    have:((⟨f.toArray⟩:Str)==g')=false:=beq_eq_false_iff_ne.mpr fun z=>q (str_inj (by rw[z];exact r1.1.symm))
    simp only[gz,this]
    exact jC.no (fs:=fs) (ws:=ws) ⟨r1.2,rs⟩ h
theorem jC.put {f:List Nat}{d:D}{v:V}(rd:Rep K H d v):∀{fs:List (List Nat×D)}{ws:List (Str×V)},jC K H fs ws->jC K H (tB f d fs) (jK ⟨f.toArray⟩ v ws)
 |[],[],_=>⟨rfl,.cons rd .nil⟩
 |[],_::_,r=>by cases r.1
 |(g,e)::fs,[],r=>by cases r.1
 |(g,e)::fs,(g',v')::ws,r=>by
  obtain⟨r1,r2⟩:=r
  simp only[ay,qj]at r1
  cases r2 with
  |cons rd' rs =>
   by_cases q:g=f
   ·have q':g'=(⟨f.toArray⟩:Str):=by rw[r1.1,q]
    simp only[tB,jK,if_pos q,if_pos q']
    exact⟨by simp [r1.1,r1.2],.cons rd rs⟩
   ·have q':¬g'=(⟨f.toArray⟩:Str):=fun z=>q (str_inj (r1.1.symm.trans z))
    simp only[tB,jK,if_neg q,if_neg q']
    have ih:=jC.put (f:=f) rd (fs:=fs) (ws:=ws) ⟨r1.2,rs⟩
    exact⟨by simp [r1.1,ih.1],.cons rd' ih.2⟩
theorem jC.length {fs:List (List Nat×D)}{ws:List (Str×V)}(r:jC K H fs ws):ws.length=fs.length:=by
 have:=congrArg Wd r.1
 simpa using this
end
theorem AY {st:aB}{a:Nat}{P:List Nat->List (List Nat×D)->Prop}(h:oR st a P):∃ c fs,st a=some (.ins c fs)/\P c fs:=by
 unfold oR at h
 split at h
 ·exact⟨_,_,by assumption,h⟩
 ·exact h.elim
theorem AM {st:aB}{a:Nat}{P:List D->List D->Prop}(h:tabAt st a P):∃ c fs,st a=some (.tab c fs)/\P c fs:=by
 unfold tabAt at h
 split at h
 ·exact⟨_,_,by assumption,h⟩
 ·exact h.elim
theorem WM {c f:List Nat}{x:D}{st:aB}{Q:VK}(h:qZ c f x st Q):∃ a fs d,x=.ref a/\st a=some (.ins c fs)/\bN fs f=some d/\Q d st:=by
 unfold qZ at h
 split at h
 ·obtain⟨c',fs,e,rfl,q⟩:=AY h
  obtain⟨d,e1,q⟩:=fA q
  exact⟨_,fs,d,rfl,e,e1,q⟩
 ·exact h.elim
theorem ZY {c f:List Nat}{v x:D}{st:aB}{Q:aB->Prop}(h:E3 c f v x st Q):∃ a fs,x=.ref a/\st a=some (.ins c fs)/\fs.length<900/\Q (put st a (.ins c (tB f v fs))):=by
 unfold E3 at h
 split at h
 ·obtain⟨c',fs,e,rfl,l,q⟩:=AY h
  exact⟨_,fs,rfl,e,l,q⟩
 ·exact h.elim
theorem VW {c m:List Nat}{x:D}{st:aB}(h:GZ c m x st):∃ a fs,x=.ref a/\st a=some (.ins c fs)/\bN fs m=none:=by
 unfold GZ at h
 split at h
 ·obtain⟨c',fs,e,rfl,q⟩:=AY h
  exact⟨_,fs,rfl,e,q⟩
 ·exact h.elim
structure uJ (K:aa)(c:List Nat):Prop where
 h:∃ C,clsAt K c C/\wF K C
structure qU (K:aa)(c f:List Nat):Prop where
 h:∀ C,clsAt K c C->sD K C ⟨f.toArray⟩
structure qS (X:Cx)(C:bE)(c:List Nat)(n:Str)(fid:Nat):Prop where
 h:∃ k f fd ps C0,fS X.prog X.w X.K X.mg X.base dP k f fd ps (gA X.K C fid)/\dC k X.A/\Binds X.K fd ps []/\clsAt X.K c C0/\wF X.K C0/\GX X.K C0 n f
structure zM (X:Cx)(C:bE)(c:List Nat)(n:Str)(fid:Nat):Prop where
 h:∃ k f fd ps C0,fS X.prog X.w X.K X.mg X.base dP k f fd ps (gA X.K C fid)/\dC (k+1) X.A/\Binds X.K fd ps []/\clsAt X.K c C0/\X.mg n=some (.ref C0)/\Mk X.K C0 f
theorem qS.wI {X:Cx}{C:bE}{c:List Nat}{n:Str}{i:Nat}{scope:Scope}{own cn:List Str}{fp:List Addr}{s:ag}{H:Hp}{Ca:Addr}(h:qS X C c n i):qS (nH X scope own cn fp s H Ca) C c n i:=let⟨a,b⟩:=h;⟨a,b⟩
section
variable {X:Cx}{C:bE}{sub:Nat->Nat->Bool}{E:XK}{a b e o value:Expr}{es:List Expr}{x y:Ex}{xs:List Ex}{p pos apos pos':Pos}{n:Str}{c f:List Nat}{fid:Nat}
theorem Oi (hn:n=⟨f.toArray⟩)(hc:uJ X.K c)(hna:qU X.K c f)(ho:PE X o (cA X.K (aG C sub E x)))(hb:f7 o n X.env (eval o X.env)=eval o X.env):PE X (.Attribute o n pos) (cA X.K (aG C sub E (.fld c f x))) :=
 (Hz ho hb).imp fun σ H Q ⟨σd,st,R,r,ok,q,hq⟩=>by
 refine⟨σd,st,_,r,ok,q,fun v H1 ⟨d,aC,s1,aS,r1,q1⟩=>?_⟩
 obtain⟨a,fs,d',rfl,e,ed,q1⟩:=WM q1
 cases r1.cV
 obtain⟨C0,dx,ws,h1,h2,h3⟩:=aS a _ e
 obtain⟨v,l,rv⟩:=jC.get h3 ed
 obtain⟨C',c1,c2⟩:=hc.h
 have eC:=c1.inj h1
 subst eC
 exact⟨a,C',dx,ws,v,rfl,h2,c2,by rw[hn];exact hna.h C' c1,by rw[hn];exact l,hq _ _ (.after s1 (.here aS rv q1))⟩
theorem Nv (hC:bZ C C)(hn:n=⟨f.toArray⟩)(hc:uJ X.K c)(hna:qU X.K c f)(ho:PE X o (cA X.K (aG C sub EF y)))(hv:PE X value (cA X.K (aG C sub EF x)))(hs:l5 value (some (.Attribute o n pos')) pos.line X.env=pure false):
 PS X (.Assign [.Attribute o n pos'] value pos) (iV X.K (wpS C sub (.asg (.fl c f y) x))) :=
 (Ff ho hv hs).imp fun D σ H ⟨σd,st,P,r,ok,q,h⟩=>by
 refine⟨σd,st,_,r,ok,sS hC h.ex q,fun v H1 ⟨d,aC,s1,aS,rd,q1⟩=>?_⟩
 refine⟨σd,aC,_,r.step ok s1,aS,sS hC h.ex q1,fun u H2 ⟨d2,aF,s2,bW,r2,q2⟩=>?_⟩
 obtain⟨a,fs,rfl,e,l,q2⟩:=ZY q2
 cases r2.cV
 obtain⟨C0,dx,ws,h1,h2,h3⟩:=bW a _ e
 obtain⟨C',c1,c2⟩:=hc.h
 have eC:=c1.inj h1
 subst eC
 have s3:Step H2 aF (upd H2 a (.ins C' dx (jK n v ws))) (put aF a (.ins c (tB f d fs))):=lR e
 have rd2:=(rd.step aS s2).step bW s3
 have h3':jC X.K (upd H2 a (.ins C' dx (jK n v ws))) fs ws:=⟨h3.1,h3.2.step bW s3⟩
 refine⟨a,C',dx,ws,rfl,h2,c2,by rw[hn];exact hna.h C' c1,by rw[h3.length];omega,h.nx _ _ _ _ (((r.step ok s1).step aS s2).step bW s3) ((s1.trans s2).trans s3) (bW.GI e ?_) q2⟩
 exact⟨C',dx,_,c1,dD,by rw[hn]at *;exact jC.put rd2 h3'⟩
theorem Ll {k:Nat}{fa:Addr}{fd:gu}{ps:List Str}{C0:Addr}{pl:Sem Bool}{m:List Nat}(hn:n=⟨m.toArray⟩)(hcl:clsAt X.K c C0)(hC0:wF X.K C0)(hm:GX X.K C0 n fa)(F:fS X.prog X.w X.K X.mg X.base dP k fa fd ps (gA X.K C fid))(hr:dC k X.A)(hb:Binds X.K fd ps [])
 (ho:PE X o (cA X.K (aG C sub EF x)))(ha:PA X (e::es) (lW X.K (bQ C sub EF xs)))
 (dN:ao (e::es) X.env=(false,eval e X.env)::ao es X.env)(dA:(du pos (ao es X.env)).any (·.1)=false)
 (ht:eval (.Call (.Attribute o n apos) (e::es) [] pos) X.env=(do
  let ov <-eval o X.env
  n5 apos.atName
  let(f,first) <-kg [ov] (tz ov n pl)
  wc pos f first (du pos (ao (e::es) X.env)) (oi pos (j6 [] X.env)))):
 PE X (.Call (.Attribute o n apos) (e::es) [] pos) (cA X.K (aG C sub EF (.mcl c m fid x xs))) :=
 (Bg (pl:=pl) ho hC0 hm F hr hb .nil JZ ha dN dA ht).imp fun σ H Q ⟨σd,st,R,r,ok,q,hq⟩=>by
 refine⟨σd,st,_,r,ok,q,fun v H1 ⟨d,aC,s1,aS,r1,q1,q2⟩=>?_⟩
 obtain⟨a,fs,rfl,e0,l⟩:=VW q1
 cases r1.cV
 obtain⟨C1,dx,ws,h1,h2,h3⟩:=aS a _ e0
 cases hcl.inj h1
 refine⟨a,dx,ws,rfl,h2,by rw[hn];exact jC.no h3 l,?_⟩
 refine⟨σd,aC,_,r.step ok s1,aS,q2,fun vs H2 ⟨ds,aF,s2,bW,r2,q3⟩=>?_⟩
 show gA X.K C fid (.ref a::(vs++[])) H2 Q E0
 rw[eh]
 exact⟨.ref a::ds,aF,R,.cons (.ref a) r2,bW,q3,fun v H' z=>hq _ _ (.after (s1.trans s2) z)⟩
theorem Qb {k:Nat}{fa:Addr}{fd:gu}{ps:List Str}{C0:Addr}(hcl:clsAt X.K c C0)(hM:Mk X.K C0 fa)(F:fS X.prog X.w X.K X.mg X.base dP k fa fd ps (gA X.K C fid))(hr:dC (k+1) X.A)(hg:Gl X n)(hmg:X.mg n=some (.ref C0))(hb:Binds X.K fd ps [])
 (ha:PA X (e::es) (lW X.K (bQ C sub EF xs)))(hdb:(n==("__debug__" : Str))=false)(he:ao (e::es) X.env=(false,eval e X.env)::ao es X.env)(dA:(du pos (ao es X.env)).any (·.1)=false):
 PE X (.Call (.Name n p) (e::es) [] pos) (cA X.K (aG C sub EF (.mk c fid xs))) :=
 (Cf hM F hr hg hmg hb .nil JZ ha hdb he dA).imp fun σ H Q ⟨σd,st,R,r,ok,q,hq⟩=>by
 refine⟨σd,st,_,r,ok,q,fun vs H1 ⟨ds,aC,s1,aS,r1,q1⟩=>?_⟩
 intro x dx hx hdx hne
 show gA X.K C fid (.ref x::(vs++[])) _ _ E0
 rw[eh]
 have bW:aV X.K aC (upd H1 dx (.own x)):=aS.new hdx
 have s2:Step H1 aC (upd H1 dx (.own x)) aC:=tJ hdx
 have hx2:upd H1 dx (.own x) x=none:=by rw[bI (ey hne)];exact hx
 have s3:Step (upd H1 dx (.own x)) aC (upd (upd H1 dx (.own x)) x (.ins C0 dx [])) (put aC x (.ins c [])):=nT hx2
 have qV:aV X.K (put aC x (.ins c [])) (upd (upd H1 dx (.own x)) x (.ins C0 dx [])):=bW.XQ hx2 ⟨C0,dx,[],hcl,dD,rfl,.nil⟩
 refine⟨.ref x::ds,put aC x (.ins c []),_,.cons (.ref x) ((r1.step aS s2).step bW s3),qV,q1 x (aS.fresh hx),fun v H' ⟨d,aA,s',fZ,rd,ed,q'⟩=>?_⟩
 subst ed
 exact⟨rd.gC,hq _ _ (.after ((s1.trans s2).trans (s3.trans s')) (.here fZ (.ref x) q'))⟩
theorem fO (c:List Nat)(hc:uJ X.K c)(hna:qU X.K c f)(ho:JE X C sub E o x)(hn:n=⟨f.toArray⟩:=by kernel_rfl)(hb:f7 o n X.env (eval o X.env)=eval o X.env:=by kernel_rfl):JE X C sub E (.Attribute o n pos) (.fld c f x):=⟨Oi hn hc hna ho.h hb⟩
theorem yU (m:bZ C C)(c:List Nat)(hc:uJ X.K c)(hna:qU X.K c f)(ho:JE X C sub EF o y)(hv:JE X C sub EF value x)(hn:n=⟨f.toArray⟩:=by kernel_rfl)(hs:l5 value (some (.Attribute o n pos')) pos.line X.env=pure false:=by kernel_rfl):
 JS X C sub (.Assign [.Attribute o n pos'] value pos) (.asg (.fl c f y) x):=⟨Nv m hn hc hna ho.h hv.h hs⟩
theorem pE {pl:Sem Bool}{mm:List Nat}(h:qS X C c n fid)(ho:JE X C sub EF o x)(ha:JA X C sub EF (e::es) xs)(hn:n=⟨mm.toArray⟩:=by kernel_rfl)
 (dN:ao (e::es) X.env=(false,eval e X.env)::ao es X.env:=by kernel_rfl)(dA:(du pos (ao es X.env)).any (·.1)=false:=by kernel_rfl)
 (ht:eval (.Call (.Attribute o n apos) (e::es) [] pos) X.env=(do
  let ov <-eval o X.env
  n5 apos.atName
  let(f,first) <-kg [ov] (tz ov n pl)
  wc pos f first (du pos (ao (e::es) X.env)) (oi pos (j6 [] X.env))):=by rfl):
 JE X C sub EF (.Call (.Attribute o n apos) (e::es) [] pos) (.mcl c mm fid x xs):=⟨let⟨k,f,fd,ps,C0,h1,h2,h3,h4,h5,h6⟩:=h.h;Ll hn h4 h5 h6 h1 h2 h3 ho.h ha.h dN dA ht⟩
theorem N8 (h:zM X C c n fid)(ha:JA X C sub EF (e::es) xs)(hg:X.env.kindOf n=some .globalImplicit:=by kernel_rfl)(hdb:(n==("__debug__" : Str))=false:=by kernel_rfl)(he:ao (e::es) X.env=(false,eval e X.env)::ao es X.env:=by kernel_rfl)(dA:(du pos (ao es X.env)).any (·.1)=false:=by kernel_rfl):
 JE X C sub EF (.Call (.Name n p) (e::es) [] pos) (.mk c fid xs):=⟨let⟨k,f,fd,ps,C0,h1,h2,h3,h4,h5,h6⟩:=h.h;Qb h4 h6 h1 h2 hg h5 h3 ha.h hdb he dA⟩
end
section
variable {X:Cx}{pz:List (Addr×Obj)}{σ:L2.St}{H:Hp}{s:ag}{st:aB}
mutual
theorem KR (I:Inv X pz σ H s):∀{d:D}{v:V}{u:ae},jI d=true->Rep X.K H d v->RelV v u->kE s.heap d u
 |_,_,u,_,.str x,rv=>by obtain⟨tk,rfl⟩:=rv;exact .str x tk
 |_,_,u,t,.tup h r,rv=>by
  cases rv
  obtain⟨aD,r1,⟨o,e,c,n,d⟩,_⟩:=I.tuple h
  exact .tup e c d (by simpa using O5 I (by simpa [jI]using t) r r1)
 |_,_,_,t,.non,_=>by cases t
 |_,_,u,_,.bl b,rv=>by cases rv;exact .bl b
 |_,_,_,t,.int _,_=>by cases t
 |_,_,_,t,.ref _,_=>by cases t
 |_,_,_,t,.bO _ _,_=>by cases t
 |_,_,_,t,.dE _,_=>by cases t
theorem O5 (I:Inv X pz σ H s):∀{ds:List D}{vs:List V}{us:List ae},jR ds=true->aL X.K H ds vs->aU vs us->gO s.heap ds us
 |_,_,_,_,.nil,rv=>by cases rv;exact .nil
 |_,_,_,t,.cons h r,rv=>by
  simp only[jR,aw]at t
  cases rv with
  |cons r1 r2=>exact .cons (KR I t.1 h r1) (O5 I t.2 r r2)
end
theorem key_is (I:Inv X pz σ H s){d:D}{v:V}{u:ae}(k:keyed d)(r:Rep X.K H d v)(rv:RelV v u):∃ a,u=.ref a/\v=.ref a/\(tT X.prog X.w).is s.heap d a:=by
 have h:=KR I k.txt r rv
 cases d with
 |tup ds =>
 obtain⟨a,vs,rfl,_,_⟩:=r.bX
 cases rv
 exact⟨a,rfl,rfl,k,h⟩
 |_=>exact k.elim
theorem FC (I:Inv X pz σ H s)(ok:aV X.K st H){a:Addr}{ks vs:List D}(e:st a=some (.tab ks vs)):∃(xs:List (D×Addr×Value))(ws:List V),H a=some (sR a xs)/\(a==ox)=false/\xs.map (·.1)=ks/\(∀ x∈xs,keyed x.1)/\aU ws (xs.map (·.2.2))/\aL X.K H vs ws/\aL X.K H ks (xs.map fun x=>.ref x.2.1) /\
  s.heap.DictOfH (tT X.prog X.w) a xs:=by
 obtain⟨xs,ws,q,q0,q1,q2,q3,q4,q5,r⟩:=ok a _ e
 refine⟨xs,ws,q,q0,q1,q4,q5,r,q3,?_⟩
 obtain⟨⟨o,es,ep,h1,h2,h3,h4⟩,_⟩:=I.bT a _ q
 refine⟨o,es,ep,h1,h2,h3,h4,fun x hx=>?_,q2⟩
 obtain⟨j,hj⟩:=List.mem_iff_getElem?.mp hx
 have e1:ks[j]? = some x.1:=by rw[<-q1,bc,hj];rfl
 obtain⟨v,e2,rv⟩:=q3.get e1
 have e3:v=.ref x.2.1:=by
  rw[bc,hj]at e2
  exact(cw e2).symm
 subst e3
 exact⟨q4 x hx,KR I (q4 x hx).txt rv rfl⟩
theorem K3 {xs:List (D×Addr×Value)}{k:D}(kk:keyed k)(h:∀ x∈xs,keyed x.1):(atKey xs k).isSome=(xs.map (·.1)).any fun y=>bM y k:=by
 induction xs with
 |nil=>rfl
 |cons x xs ih =>
 have ih:=ih fun y hy=>h y (by simp [hy])
 simp only[ay,kf,<-ih,GO (h x (by simp)).txt kk.txt]
 by_cases q:x.1=k
 ·simp [atKey,q]
 ·simp [atKey,q]
theorem PQ {K:aa}{k:D}(kk:keyed k){d:D}:∀{xs:List (D×Addr×Value)}{vs:List D}{ws:List V},(∀ x∈xs,keyed x.1)->aU ws (xs.map (·.2.2))->aL K H vs ws->lL (xs.map (·.1)) vs k=some d->∃ p v,atKey xs k=some p/\RelV v p.2/\Rep K H d v
 |[],_,_,_,_,_,h=>by simp [lL]at h
 |x::xs,[],_,_,rv,r,h=>by simp [lL]at h
 |x::xs,d0::vs,ws,hk,rv,r,h=>by
  cases r with
  |cons r1 r2 =>
   cases rv with
   |cons v1 v2 =>
    simp only[ay,lL]at h
    rw[GO (hk x (by simp)).txt kk.txt]at h
    by_cases q:x.1=k
    ·rw[if_pos (by simpa using q)]at h;cases h
     exact⟨x.2,_,by simp [atKey,q],v1,r1⟩
    ·rw[if_neg (by simpa using q)]at h
     obtain⟨p,v,e1,e2,e3⟩:=PQ kk (fun y hy=>hk y (by simp [hy])) v2 r2 h
     exact⟨p,v,by simpa [atKey,q]using e1,e2,e3⟩
end
section
variable {X:Cx}{C:bE}{sub:Nat->Nat->Bool}{E:XK}{a b e o i value:Expr}{x y z:Ex}{p pos apos pos':Pos}
theorem Kc (hu:X.A.units+180<cLine)(neg:Bool):pL X (if neg=true then .NotIn else .In) (fun d d' st P=>xG d d' st fun b=>P (if neg=true then !b else b)):=by
 intro pz s σ H st d d' v v' u u' P I ok r rv r' bJ q
 unfold xG at q
 split at q
 ·obtain⟨ks,vs,e,hk,q⟩:=AM q
  cases r'.cV
  cases bJ
  obtain⟨xs,ws,t1,t2,t3,t4,t5,t6,t8,t7⟩:=FC I ok e
  obtain⟨ka,rfl,rfl,hka⟩:=key_is I hk r rv
  have hroom:(tT X.prog X.w).room X.A.in1:=by show X.A.in1.units+12<cLine;simp only[fw];omega
  rw[<-t3,<-K3 hk t4]at q
  cases neg with
  |true=>exact wpAny_notIn_heap hroom hka t2 t7 ⟨_,rfl,q,I.tok _⟩
  |false=>exact wpAny_in_heap hroom hka t2 t7 ⟨_,rfl,q,I.tok _⟩
 ·exact q.elim
theorem UL {neg:Bool}(hu:X.A.units+180<cLine)(ha:PE X a (cA X.K (aG C sub E x)))(hb:PE X b (cA X.K (aG C sub E y)))(hm:lh (if neg=true then .NotIn else .In) b=false):PT X (.Compare a [if neg=true then .NotIn else .In] [b] pos) (kJ X.K (aG C sub E (.din neg x y))):=by
 intro pz s σ H Q I ⟨σd,st,R,r,ok,q,hq⟩
 refine v8 (bD (ha pz s σ H _ I ⟨σd,st,_,r,ok,q,fun v H' z=>z⟩) fun u s1 ⟨v,H1,I1,rv,d,aC,dH,aS,r1,q1⟩ =>
 bD (hb pz s1 σ H1 _ I1 ⟨σd,aC,_,r.step ok dH,aS,q1,fun v H' z=>z⟩) fun u' s2 ⟨v',H2,I2,bJ,d',aF,gX,bW,r2,q2⟩ =>
 bD (Kc hu neg pz s2 σ H2 aF d d' v v' u u' (fun k=>R k aF) I2 bW (r1.step aS gX) rv r2 bJ q2) fun w s3 ⟨k,e,q3,I3⟩=>?_) hm
 subst e
 exact lx ⟨H2,I3,hq _ _ ⟨aF,dH.trans gX,bW,q3⟩⟩
noncomputable def Sw (K:aa):R2:=fun v v' H Q=>∃ d d' st R,Rep K H d v/\Rep K H d' v'/\aV K st H/\tE d' d st R/\∀ v H',QD K H st R v H'->Q v H'
theorem Gp (hu:X.A.units+180<cLine):yR X (Sw X.K):=by
 intro value slice pz s σ H x y v u Q I rx ry h hs
 obtain⟨d,d',st,R,r1,r2,ok,q,hq⟩:=h
 unfold tE at q
 split at q
 ·obtain⟨ks,vs,e,hk,q⟩:=AM q
  obtain⟨d0,e0,q⟩:=fA q
  cases r1.cV
  cases rx
  obtain⟨xs,ws,t1,t2,t3,t4,t5,t6,t8,t7⟩:=FC I ok e
  obtain⟨ka,rfl,rfl,hka⟩:=key_is I hk r2 ry
  have hroom:(tT X.prog X.w).room X.A.in1:=by show X.A.in1.units+12<cLine;simp only[fw];omega
  rw[<-t3]at e0
  obtain⟨pp,v0,e1,e2,e3⟩:=PQ hk t4 t5 t6 e0
  refine oo (x:=pp.2) t7.typeIs slot_dict_getitem.lookup ?_ hs
  exact wpAny_getItem_heap hroom hka t7 e1 ⟨rfl,v0,H,I.tok _,e2,hq _ _ (.here ok e3 q)⟩
 ·exact q.elim
theorem Mj (hu:X.A.units+180<cLine)(ha:PE X a (cA X.K (aG C sub E x)))(hb:PE X b (cA X.K (aG C sub E y)))(hp:vI b):PE X (.Subscript a b pos) (cA X.K (aG C sub E (.dix x y))) :=
 (ZA (Gp hu) ha hb hp).imp fun σ H Q ⟨σd,st,R,r,ok,q,hq⟩=>by
 refine⟨σd,st,_,r,ok,q,fun v H1 ⟨d,aC,s1,aS,r1,q1⟩=>?_⟩
 refine⟨σd,aC,_,r.step ok s1,aS,q1,fun v' H2 ⟨d',aF,s2,bW,r2,q2⟩=>?_⟩
 exact⟨d,d',aF,R,r1.step aS s2,r2,bW,q2,fun v H' z=>hq _ _ (.after (s1.trans s2) z)⟩
theorem Pn {pz:List (Addr×Obj)}{σ:L2.St}{H:Hp}{s:ag}(I:Inv X pz σ H s):ox<s.heap.objs.size:=by
 have h:cu<s.heap.objs.size:=(I.mod.glob.keeps I.bk).lt
 exact Vv (by decide) h
theorem uP {a:Addr}{xs:List (D×Addr×Value)}{w:de}:∀ h1 h2:Heap,QI a xs w h1->(∀ o,h1.get? a=some o->h2.get? a=some o)->QI a xs w h2:=fun h1 h2 ⟨o,es,ep,e,r⟩ k=>⟨o,es,ep,k o e,r⟩
theorem Gx:PE X (.Dict [] [] pos) (cA X.K (aG C sub E .dnew)):=fun pz s σ H Q I ⟨σd,st,R,r,ok,q,hq⟩=>by
 have hf:H s.heap.objs.size=none:=I.bT.fresh (az _)
 refine wpAny_Dict_empty ⟨.ref s.heap.objs.size,_,I.laid (a:=s.heap.objs.size) (o:=sR s.heap.objs.size []) (t':=s.toks) (fun _ _ q=>ai _ q) (az _) ?_,rfl,hq _ _ ⟨.ref s.heap.objs.size,put st s.heap.objs.size (.tab [] []),nT hf,ok.XQ hf ?_,.ref _,q _ (ok.fresh hf)⟩⟩
 ·exact⟨⟨_,#[],0,bj _ rfl,⟨rfl,rfl,rfl⟩,rfl,rfl⟩,⟨_,bj _ rfl⟩,uP⟩
 ·exact⟨[],[],dD,beq_eq_false_iff_ne.mpr (oe (Pn I)),rfl,w5,.nil,fun x hx=>(by cases hx),.nil,.nil⟩
theorem OA {x v y:D}{st:aB}{Q:aB->Prop}(h:zQ x v y st Q):∃ a ks vs,y=.ref a/\st a=some (.tab ks vs)/\keyed x/\(ks.any fun k=>bM k x)=false/\ks.length<10000/\Q (put st a (.tab (ks++[x]) (vs++[v]))):=by
 unfold zQ at h
 split at h
 ·obtain⟨ks,vs,e,h1,h2,h3,q⟩:=AM h
  exact⟨_,ks,vs,rfl,e,h1,h2,h3,q⟩
 ·exact h.elim
theorem Sa (hC:bZ C C)(hu:X.A.units+180<cLine)(ho:PE X o (cA X.K (aG C sub EF y)))(hi:PE X i (cA X.K (aG C sub EF z)))(hv:PE X value (cA X.K (aG C sub EF x)))(hs:l5 value (some (.Subscript o i pos')) pos.line X.env=pure false):
  PS X (.Assign [.Subscript o i pos'] value pos) (iV X.K (wpS C sub (.asg (.dk y z) x))):=by
 intro pz s σ H D I ⟨σd,st,P,r,ok,q,h⟩
 refine wpAny_Assign_Subscript (bD (hv pz s σ H _ I ⟨σd,st,_,r,ok,sS hC h.ex q,fun v H' z=>z⟩) fun uv s1 ⟨v,H1,I1,rv,d,aC,dH,aS,rd,q1⟩ =>
  bD (ho pz s1 σ H1 _ I1 ⟨σd,aC,_,r.step ok dH,aS,sS hC h.ex q1,fun v H' z=>z⟩) fun uo s2 ⟨vo,H2,I2,rvo,d2,aF,gX,bW,rd2,q2⟩ =>
  bD (hi pz s2 σ H2 _ I2 ⟨σd,aF,_,(r.step ok dH).step aS gX,bW,sS hC h.ex q2,fun v H' z=>z⟩) fun ui s3 ⟨vi,H3,I3,rvi,d3,aX,s3s,qV,rd3,q3⟩=>?_) hs
 obtain⟨da,ks,vs,ed2,e,hk,hnew,hlen,q4⟩:=OA q3
 ·subst ed2
  cases rd2.cV
  cases rvo
  obtain⟨xs,ws,t1,t2,t3,t4,t5,t6,t8,t7⟩:=FC I3 qV e
  obtain⟨ka,rfl,rfl,hka⟩:=key_is I3 hk rd3 rvi
  have hroom:(tT X.prog X.w).room X.A.in1:=by show X.A.in1.units+12<cLine;simp only[fw];omega
  have hno:atKey xs d3=none:=by
   have:=K3 (k:=d3) hk t4
   rw[t3,hnew]at this
   cases q:atKey xs d3 with
   |none=>rfl
   |some p=>rw[q]at this;cases this
  have hxl:xs.length=ks.length:=by rw[<-t3];simp
  refine wpAny_setItem_heap hroom hka t7 (fun h' hm hsb=>?_) (by rw[gD,hxl];have h10:(10000:Nat)<=bH:=(by decide);omega)
  rw[storedH_new hno]at hm
  obtain⟨o',es,ep,m1,m2,m3,m4,m5,m6⟩:=id hm
  have hS:Step H3 aX (upd H3 da (sR da (xs++[(d3,ka,uv)]))) (put aX da (.tab (ks++[d3]) (vs++[d]))):=lR e
  have I4:Inv X pz σ (upd H3 da (sR da (xs++[(d3,ka,uv)]))) { s3 with heap:=h',toks:=s3.toks+(tT X.prog X.w).draws d3 }:=by
   refine I3.write (x:=da) (e:=da) (by rw[t1];exact bz) (.inl rfl) (fun b u hb z=>(hsb.2 b hb).trans z) ⟨o',m1⟩ ?_
   exact⟨⟨o',es,ep,m1,m2,m3,m4⟩,⟨o',m1⟩,uP⟩
  refine⟨σ,_,I4,h.nx _ _ _ _ ((((r.step ok dH).step aS gX).step bW s3s).step qV hS) (((dH.trans gX).trans s3s).trans hS) (qV.GI e ?_) q4⟩
  refine⟨xs++[(d3,ka,uv)],ws++[v],dD,t2,by simp [t3],m6,?_,?_,?_,?_⟩
  ·rw[dg]
   exact(t8.step qV hS).append (.cons (rd3.step qV hS) .nil)
  ·intro x hx
   rcases List.mem_append.mp hx with hx|hx
   ·exact t4 x hx
   ·simp only[aj]at hx;subst hx;exact hk
  ·rw[dg];exact t5.append (.cons rv .nil)
  ·exact(t6.step qV hS).append (.cons ((((rd.step aS gX).step bW s3s)).step qV hS) .nil)
theorem Tt (hu:X.A.units+180<cLine)(ha:JE X C sub E a x)(hb:JE X C sub E b y)(hm:lh .In b=false:=by kernel_rfl):JT X C sub E (.Compare a [.In] [b] pos) (.din false x y):=⟨UL (neg:=false) hu ha.h hb.h hm⟩
theorem Tj (hu:X.A.units+180<cLine)(ha:JE X C sub E a x)(hb:JE X C sub E b y)(hm:lh .NotIn b=false:=by kernel_rfl):JT X C sub E (.Compare a [.NotIn] [b] pos) (.din true x y):=⟨UL (neg:=true) hu ha.h hb.h hm⟩
theorem MR (hu:X.A.units+180<cLine)(ha:JE X C sub E a x)(hb:JE X C sub E b y)(hp:vI b:=by intro _ _;rfl):JE X C sub E (.Subscript a b pos) (.dix x y):=⟨Mj hu ha.h hb.h hp⟩
theorem Tf:JE X C sub E (.Dict [] [] pos) .dnew:=⟨Gx⟩
theorem Pm (m:bZ C C)(hu:X.A.units+180<cLine)(ho:JE X C sub EF o y)(hi:JE X C sub EF i z)(hv:JE X C sub EF value x)(hs:l5 value (some (.Subscript o i pos')) pos.line X.env=pure false:=by kernel_rfl):
 JS X C sub (.Assign [.Subscript o i pos'] value pos) (.asg (.dk y z) x):=⟨Sa m hu ho.h hi.h hv.h hs⟩
end
theorem RQ {P:bu}{w:de}{K:aa}{mg:Str->Option ae}{base:Heap}{G:Prog}{r k f:Nat}{fn:Fn}{x qual:Str}{st:Stmt}{a:Addr}{fd:gu}{N ps:List Str}(F:AW K x qual st a fd)(S:nN N ps (aH st))
  (hG:G.fns f=some fn)(hp:fn.np=ps.length)(hl:fn.nl=N.length)
  (hb:∀(bG:ae)(A:cb)(outer:List Env)(s:ag)(H:Hp)(E:L2.XK),dC r (A.deeper (mi qual (aH st) s.heap.objs.size a bG)) ->
   vY (fI dP P w K mg base N qual (aH st) a bG A outer s H E).jG (aI G k) G.sub (fH st) fn.body):
  fS P w K mg base dP (r+1) a fd ps (gA K (aI G (k+1)) f):=by
 refine F.ok S (fun vs H Q E h=>?_) (fun bG A outer s H vs Q E hr h=>?_)
 ·obtain⟨ds,aA,R,r,_,h,_⟩:=h
  simp only[aI,hG]at h
  rw[<-r.length,h.1,hp]
 ·obtain⟨ds,aA,R,r,ok,h,hq⟩:=h
  simp only[aI,hG]at h
  refine⟨_,(hb bG A outer s H E hr).h,?_⟩
  refine⟨start fn.np fn.nl ds,aA,_,?_,ok,h.2,⟨fun σ' H' eB aZ sr s' fZ q=>?_,fun v H' z=>hq v H' z,fun _ _ _ _ _ _ _ q=>q,fun _ _ _ _ _ _ _ q=>q,fun _ _ _ q=>q⟩⟩
  ·rw[hl];exact HF r h.1
  ·exact hq _ _ ⟨.non,aZ,s',fZ,.non,q⟩
noncomputable def lA (s:Stmt)(j:Nat):Stmt:=match s with
 |.ClassDef _ _ _ body ..=>body.getD j (.Pass ⟨0,0,0,0⟩)
 |_=>.Pass ⟨0,0,0,0⟩
inductive At where
 |top
 |cT (c:List Nat)
 |init (c:List Nat)
def X6 (K:aa)(mg:Str->Option ae)(n:Str)(a:Addr):At->Prop
 |.top=>mg n=some (.ref a)
 |.cT c=>∃ C0,clsAt K c C0/\wF K C0/\GX K C0 n a
 |.init c=>∃ C0,clsAt K c C0/\mg ⟨c.toArray⟩=some (.ref C0)/\Mk K C0 a
structure FH (K:aa)(mg:Str->Option ae)(nf:Nat)(nm qn:Nat->Str)(ps:Nat->List Str)(st:Nat->Stmt)(at_:Nat->At) where
 a:Nat->Addr
 fd:Nat->gu
 fn:∀ i,i<nf->AW K (nm i) (qn i) (st i) (a i) (fd i)
 bi:∀ i,i<nf->Binds K (fd i) (ps i) []
 mg:∀ i,i<nf->X6 K mg (nm i) (a i) (at_ i)
def GH (n q:Str)(ps:List Str)(st:Stmt):Prop:=∀(kV doc pm:ae)(an:Option Addr)(bG ct:ae)(us:List ae),us.length=ps.length->Uq (g9 n q (mD st) (fH st) (aH st) .none kV doc pm an bG ct) ⟨us,[]⟩=pure (ps.zip us)
def uB (K:aa)(mg:Str->Option ae)(n q:Str)(st:Stmt)(at_:At):Prop:=∃ a fd,AW K n q st a fd/\X6 K mg n a at_
theorem Kn {K:aa}{h:Heap}{mg:Str->Option ae}(X:K.In h)(G:h.Ns cu mg){n:Str}{st:Stmt}{f:Addr}{oc:ae}{od an:Option Addr}{sl:Array (Option ae)}{kV dc pm cd ct:ae}
 (a:h9 K cu n=some (some (.ref f)))(l:K.lookup f=some ⟨oc,od,.func (g9 n n (mD st) (fH st) (aH st) .none kV dc pm an cd ct),sl⟩)(c:ki K cd n=true)(k:ff K (.ref f)=true):uB K mg n n st .top :=
 ⟨f,_,DX l c k,lj X G a⟩
theorem Nr {K:aa}{h:Heap}{mg:Str->Option ae}(X:K.In h)(G:h.Ns cu mg){n q:Str}{c:List Nat}{C:Addr}{st:Stmt}{f:Addr}{oc:ae}{od an:Option Addr}{sl:Array (Option ae)}{kV dc pm cd ct:ae}
 (cl:h9 K cu ⟨c.toArray⟩=some (some (.ref C)))(pg:kh K C Vo=true)(hd:ly K C=true)(po:oh K C=true)(sa:ek K (.ref C) "__setattr__" = some (some (.builtin "object.__setattr__")))
 (a:ek K (.ref C) n=some (some (.ref f)))(fn:qr K (.ref f)=true)
 (l:K.lookup f=some ⟨oc,od,.func (g9 n q (mD st) (fH st) (aH st) .none kV dc pm an cd ct),sl⟩)(cc:ki K cd q=true)(k:ff K (.ref f)=true):uB K mg n q st (.cT c) :=
 ⟨f,_,DX l cc k,C,cl,⟨pg,hd,po,sa⟩,⟨a,fn,k⟩⟩
theorem Lc {K:aa}{h:Heap}{mg:Str->Option ae}(X:K.In h)(G:h.Ns cu mg){q:Str}{c:List Nat}{C:Addr}{st:Stmt}{f:Addr}{oc:ae}{od an:Option Addr}{sl:Array (Option ae)}{kV dc pm cd ct:ae}
 (cl:h9 K cu ⟨c.toArray⟩=some (some (.ref C)))(mk:vp K C=true)(kp:ff K (.ref C)=true)
 (a:ek K (.ref C) "__init__" = some (some (.ref f)))(fn:qr K (.ref f)=true)
 (l:K.lookup f=some ⟨oc,od,.func (g9 "__init__" q (mD st) (fH st) (aH st) .none kV dc pm an cd ct),sl⟩)(cc:ki K cd q=true)(k:ff K (.ref f)=true):uB K mg "__init__" q st (.init c) :=
 ⟨f,_,DX l cc k,C,cl,lj X G cl,⟨mk,a,fn,kp⟩⟩
theorem Gv {K:aa}{c:List Nat}{C:Addr}(cl:h9 K cu ⟨c.toArray⟩=some (some (.ref C)))(pg:kh K C Vo=true)(hd:ly K C=true)(po:oh K C=true)(sa:ek K (.ref C) "__setattr__" = some (some (.builtin "object.__setattr__"))):uJ K c:=⟨C,cl,pg,hd,po,sa⟩
theorem Gs {K:aa}{c f:List Nat}{C:Addr}(cl:h9 K cu ⟨c.toArray⟩=some (some (.ref C)))(na:ek K (.ref C) ⟨f.toArray⟩=some none):qU K c f:=⟨fun C' h=>by cases clsAt.inj h cl;exact na⟩
theorem QS {K:aa}{n q x:Str}{st:Stmt}{a:Addr}{fd:gu}(F:AW K n q st a fd)(h:GH n q [x] st)(s:ag)(u:ae):yr s fd ⟨[u],[]⟩ [(x,u)]:=by
 obtain⟨oc,od,kV,doc,pm,an,bG,ct,osl,rfl,lk,hcd⟩:=F.ex
 exact .of_eq (h kV doc pm an bG ct [u] rfl)
section
variable {X:Cx}{C:bE}{sub:Nat->Nat->Bool}{E:XK}{k v:Expr}{x y:Ex}{pos:Pos}
theorem Qi (hu:X.A.units+180<cLine)(ha:PE X k (cA X.K (aG C sub E x)))(hb:PE X v (cA X.K (aG C sub E y))):PE X (.Dict [some k] [v] pos) (cA X.K (aG C sub E (.d1 x y))):=fun pz s σ H Q I ⟨σd,st,R,r,ok,q,hq⟩=>by
 have hs:(evalEachOpt [some k] X.env).zip ((evalEach [v] X.env).map fun t=>do let z <-t;n5 pos;pure z)=([(eval k X.env,do let z <-eval v X.env;n5 pos;pure z)]:List (Sem Value×Sem ae)).map fun p=>(some p.1,p.2):=by
  simp [evalEachOpt,evalEach]
  rfl
 rw[arm_eval_Dict,hs,dictDisplay_pairs _ (by simp) (by simp)]
 refine af (ph (af ?_))
 unfold subDict
 refine af (wpAny_alloc ?_)
 refine af (gk ?_)
 rw[if_pos (by simp)]
 have hf:H s.heap.objs.size=none:=I.bT.fresh (az _)
 have I0:Inv X pz σ (upd H s.heap.objs.size (sR s.heap.objs.size [])) { s with heap:=s.heap.push { cls:=.type "dict", data:=.dict #[] } }:=by
  refine I.laid (a:=s.heap.objs.size) (o:=sR s.heap.objs.size []) (t':=s.toks) (fun _ _ q=>ai _ q) (az _) ?_
  exact⟨⟨_,#[],0,bj _ rfl,⟨rfl,rfl,rfl⟩,rfl,rfl⟩,⟨_,bj _ rfl⟩,uP⟩
 have S0:Step H st (upd H s.heap.objs.size (sR s.heap.objs.size [])) (put st s.heap.objs.size (.tab [] [])):=nT hf
 have Pu:aV X.K (put st s.heap.objs.size (.tab [] [])) (upd H s.heap.objs.size (sR s.heap.objs.size [])) :=
  ok.XQ hf ⟨[],[],dD,beq_eq_false_iff_ne.mpr (oe (Pn I)),rfl,w5,.nil,fun x hx=>(by cases hx),.nil,.nil⟩
 have q:=q _ (ok.fresh hf)
 refine af (evalPairs_cons ?_)
 refine bD (ha pz _ σ _ _ I0 ⟨σd,_,_,r.step ok S0,Pu,q,fun v H' z=>z⟩) fun uk s1 ⟨vk,H1,I1,rvk,dk,aC,dH,aS,rdk,q1⟩=>?_
 refine af (bD (hb pz s1 σ H1 _ I1 ⟨σd,aC,_,(r.step ok S0).step Pu dH,aS,q1,fun v H' z=>z⟩) fun uv s2 ⟨vv,H2,I2,rvv,dv,aF,gX,bW,rdv,q2⟩=>?_)
 refine af (ph (ar (evalPairs_nil ?_)))
 obtain⟨da,ks,vs,ed2,e,hk,hnew,hlen,q4⟩:=OA q2
 cases ed2
 obtain⟨xs,ws,t1,t2,t3,t4,t5,t6,t8,t7⟩:=FC I2 bW e
 obtain⟨ka,rfl,rfl,hka⟩:=key_is I2 hk (rdk.step aS gX) rvk
 have hroom:(tT X.prog X.w).room X.A:=by show X.A.units+12<cLine;omega
 have hno:atKey xs dk=none:=by
  have:=K3 (k:=dk) hk t4
  rw[t3,hnew]at this
  cases q:atKey xs dk with
  |none=>rfl
  |some p=>rw[q]at this;cases this
 have hxl:xs.length=ks.length:=by rw[<-t3];simp
 refine gk ?_
 rw[qh]
 refine af (af ?_)
 show wpAny _ _ (dictSet s.heap.objs.size (.ref ka) uv >>= fun _=>pure (j0 PUnit.unit)) _ _ s2
 refine af (wpAny_dictSet_heap hroom hka t7 (fun h' hm hsb=>?_) (by rw[gD,hxl];have h10:(10000:Nat)<=bH:=(by decide);omega))
 rw[storedH_new hno]at hm
 obtain⟨o',es,ep,m1,m2,m3,m4,m5,m6⟩:=id hm
 have hS:Step H2 aF (upd H2 s.heap.objs.size (sR s.heap.objs.size (xs++[(dk,ka,uv)]))) (put aF s.heap.objs.size (.tab (ks++[dk]) (vs++[dv]))):=lR e
 have I4:Inv X pz σ (upd H2 s.heap.objs.size (sR s.heap.objs.size (xs++[(dk,ka,uv)]))) { s2 with heap:=h',toks:=s2.toks+(tT X.prog X.w).draws dk }:=by
  refine I2.write (x:=s.heap.objs.size) (e:=s.heap.objs.size) (by rw[t1];exact bz) (.inl rfl) (fun b u hb z=>(hsb.2 b hb).trans z) ⟨o',m1⟩ ?_
  exact⟨⟨o',es,ep,m1,m2,m3,m4⟩,⟨o',m1⟩,uP⟩
 refine ar ?_
 show wpAny _ _ (forIn [] _ _) _ _ _
 rw[Uz]
 refine ar (ar (ar (ar ⟨.ref s.heap.objs.size,_,I4,rfl,hq _ _ (.after S0 (.after dH (.after gX ⟨.ref s.heap.objs.size,_,hS,bW.GI e ?_,.ref _,q4⟩)))⟩)))
 refine⟨xs++[(dk,ka,uv)],ws++[vv],dD,t2,by simp [t3],m6,?_,?_,?_,?_⟩
 ·rw[dg]
  exact(t8.step bW hS).append (.cons ((rdk.step aS gX).step bW hS) .nil)
 ·intro x hx
  rcases List.mem_append.mp hx with hx|hx
  ·exact t4 x hx
  ·simp only[aj]at hx;subst hx;exact hk
 ·rw[dg];exact t5.append (.cons rvv .nil)
 ·exact(t6.step bW hS).append (.cons (rdv.step bW hS) .nil)
theorem Tr (hu:X.A.units+180<cLine)(ha:JE X C sub E k x)(hb:JE X C sub E v y):JE X C sub E (.Dict [some k] [v] pos) (.d1 x y):=⟨Qi hu ha.h hb.h⟩
end
end L3
end
section
namespace L3
section
variable {C:bE}{sub:Nat->Nat->Bool}{E:XK}{σ:St}{st:aB}{Q:VK}{QQ:List D->aB->Prop}{QB:Bool->aB->Prop}{P:gZ}{e a b c:Ex}{es:List Ex}{i:Nat}{d:D}{M:St->aB->Prop}
theorem K0:aG C sub E (.c d) σ st Q=Q d st:=rfl
theorem G8:aG C sub E (.v i) σ st Q=eF σ i fun d=>Q d st:=rfl
theorem Lz:aG C sub E (.tup es) σ st Q=bQ C sub E es σ st fun ds aA=>Q (.tup ds) aA:=rfl
theorem Ms:aG C sub E (.lst es) σ st Q=bQ C sub E es σ st fun ds aA=>iP ds aA Q:=rfl
theorem RD {op:vP}:aG C sub E (.bin op a b) σ st Q=aG C sub E a σ st fun x aC=>aG C sub E b σ aC fun y aF=>iM op x y aF Q:=rfl
theorem Ko:aG C sub E (.neg a) σ st Q=aG C sub E a σ st fun x aC=>FV x aC Q:=rfl
theorem Mx {op:sT}:aG C sub E (.cmp op a b) σ st Q=aG C sub E a σ st fun x aC=>aG C sub E b σ aC fun y aF=>dJ op x y aF fun k=>Q (.bl k) aF:=rfl
theorem ZX {op op':sT}:aG C sub E (.chain op op' a b c) σ st Q=aG C sub E a σ st fun x aC=>aG C sub E b σ aC fun y aF=>dJ op x y aF fun k =>
 if k=true then aG C sub E c σ aF fun z aX=>dJ op' y z aX fun k=>Q (.bl k) aX else Q (.bl false) aF:=rfl
theorem Mw:aG C sub E (.and_ a b) σ st Q=aG C sub E a σ st fun x aC=>eS x aC fun k=>if k=true then aG C sub E b σ aC Q else Q x aC:=rfl
theorem Qw:aG C sub E (.or_ a b) σ st Q=aG C sub E a σ st fun x aC=>eS x aC fun k=>if k=true then Q x aC else aG C sub E b σ aC Q:=rfl
theorem Nd:aG C sub E (.not_ a) σ st Q=aG C sub E a σ st fun x aC=>eS x aC fun k=>Q (.bl (!k)) aC:=rfl
theorem Nw:aG C sub E (.ite c a b) σ st Q=aG C sub E c σ st fun x aC=>eS x aC fun k=>if k=true then aG C sub E a σ aC Q else aG C sub E b σ aC Q:=rfl
theorem Eo {f:Nat}:aG C sub E (.call f es) σ st Q=bQ C sub E es σ st fun ds aA=>C f ds aA Q E:=rfl
theorem Fl {f:BI}:aG C sub E (.bi f es) σ st Q=bQ C sub E es σ st fun ds aA=>iA f ds aA Q:=rfl
theorem Kr {ts:List Ty}:aG C sub E (.isi a ts) σ st Q=aG C sub E a σ st fun x aC=>xC sub x aC ts fun k=>Q (.bl k) aC:=rfl
theorem Fi {m:MT}:aG C sub E (.cT m a es) σ st Q=aG C sub E a σ st fun x aC=>A0 m x aC/\bQ C sub E es σ aC fun ds aF=>kP m x ds aF Q:=rfl
theorem C7:aG C sub E (.ix a b) σ st Q=aG C sub E a σ st fun x aC=>aG C sub E b σ aC fun y aF=>nU x y aF Q:=rfl
theorem Rl {lo hi:List Ex}:aG C sub E (.sl a lo hi) σ st Q=aG C sub E a σ st fun x aC=>bQ C sub E lo σ aC fun ls aF=>pS ls fun l=>bQ C sub E hi σ aF fun hs aX=>pS hs fun h=>EW x l h aX Q:=rfl
theorem Ow {f:BI}{k:IK}:aG C sub E (.bit f k es) σ st Q=bQ C sub E es σ st fun ds aC=>jS (some k) ds aC fun _ xs=>fL f xs aC Q:=rfl
theorem Ig {n:Nat}{aJ tg:List Nat}{one:Bool}{k:Option IK}{aD ifs:List Ex}:aG C sub E (.comp n aJ tg one k aD ifs e) σ st Q=bQ C sub E aD σ st fun ds aC=>jS k ds aC fun as xs =>
 kG (same as aC) (fun x aF K=>lK one tg x (ak n none++aJ.map fun i=>(σ[i]?).getD none) fun σ' =>
 iW C sub E ifs σ' aF fun b aX=>if b=true then aG C sub E e σ' aX fun d cN=>K (some d) cN else K none aX) xs [] aC fun ds dF=>iP ds dF Q:=rfl
theorem S8:bQ C sub E [] σ st QQ=QQ [] st:=rfl
theorem PN:bQ C sub E (e::es) σ st QQ=aG C sub E e σ st fun d aA=>bQ C sub E es σ aA fun ds aZ=>QQ (d::ds) aZ:=rfl
theorem Kz:iW C sub E [] σ st QB=QB true st:=rfl
theorem Jo:iW C sub E (e::es) σ st QB=aG C sub E e σ st fun d aA=>eS d aA fun k=>if k=true then iW C sub E es σ aA QB else QB false aA:=rfl
theorem Nb:wpS C sub (.ex e) P σ st=aG C sub (fun c aA=>P.ex c σ aA) e σ st fun _ aA=>P.nx σ aA:=rfl
theorem wN {t:Tg}:wpS C sub (.asg t e) P σ st=aG C sub (fun c aA=>P.ex c σ aA) e σ st fun d aA=>nZ C sub (fun c aA=>P.ex c σ aA) t d σ aA P.nx:=rfl
theorem Eg {op:vP}:wpS C sub (.aug i op e) P σ st=eF σ i fun x=>aG C sub (fun c aA=>P.ex c σ aA) e σ st fun y aA=>notRef x/\iM op x y aA fun d aZ=>P.nx (σ.set i (some d)) aZ:=rfl
theorem Jp {x y:List Sx}:wpS C sub (.iff e x y) P σ st=aG C sub (fun c aA=>P.ex c σ aA) e σ st fun d aA=>eS d aA fun k=>if k=true then cY C sub x P σ aA else cY C sub y P σ aA:=rfl
theorem Em {t:Tg}{k:Option IK}{b:List Sx}:wpS C sub (.mB t k es b) P σ st=bQ C sub (fun c aA=>P.ex c σ aA) es σ st fun ds aC=>jS k ds aC fun as xs=>zO (same as aC) (fun x next σ st=>nZ C sub (fun c aA=>P.ex c σ aA) t x σ st fun σ' aA=>cY C sub b { P with nx:=next,ct:=next,bk:=P.nx } σ' aA) P.nx xs σ aC:=rfl
theorem UG:wpS C sub (.ret e) P σ st=aG C sub (fun c aA=>P.ex c σ aA) e σ st P.rt:=rfl
theorem Jq:wpS C sub .brk P σ st=P.bk σ st:=rfl
theorem Dv:wpS C sub .cnt P σ st=P.ct σ st:=rfl
theorem Z6:wpS C sub .pass P σ st=P.nx σ st:=rfl
theorem BA:nZ C sub E (.nm i) d σ st M=M (σ.set i (some d)) st:=rfl
theorem Mo {is:List Nat}:nZ C sub E (.tp is) d σ st M=lK false is d σ fun σ'=>M σ' st:=rfl
theorem Om:nZ C sub E (.ix a b) d σ st M=aG C sub E a σ st fun x aC=>aG C sub E b σ aC fun y aF=>C9 x y d aF fun aX=>M σ aX:=rfl
theorem Oh {c f:List Nat}:nZ C sub E (.fl c f a) d σ st M=aG C sub E a σ st fun x aC=>E3 c f d x aC fun aF=>M σ aF:=rfl
theorem Nn:nZ C sub E (.dk a b) d σ st M=aG C sub E a σ st fun x aC=>aG C sub E b σ aC fun y aF=>zQ y d x aF fun aX=>M σ aX:=rfl
theorem My {c f:List Nat}:aG C sub E (.fld c f a) σ st Q=aG C sub E a σ st fun x aC=>qZ c f x aC Q:=rfl
theorem Rw {c:List Nat}{f:Nat}:aG C sub E (.mk c f es) σ st Q=bQ C sub E es σ st fun ds aC=>∀ p,aC p=none->C f (.ref p::ds) (put aC p (.ins c [])) (fun d aF=>d=.non/\Q (.ref p) aF) E:=rfl
theorem Mf {c m:List Nat}{f:Nat}:aG C sub E (.mcl c m f a es) σ st Q=aG C sub E a σ st fun x aC=>GZ c m x aC/\bQ C sub E es σ aC fun ds aF=>C f (x::ds) aF Q E:=rfl
theorem Qu:aG C sub E (.cv i es) σ st Q=eF σ i fun d=>AN d st (fun _ _ _=>True)/\bQ C sub E es σ st fun ds aA=>AN d aA fun a f cs=>C f (cs++ds) (del aA a) (fun d2 aF=>Q d2 (put aF a (.fn f cs))) (fun c aF=>E c (put aF a (.fn f cs))):=rfl
theorem Z2 {f g:Nat}{aJ:List Nat}{κ:CK}:aG C sub E (.callL f es g aJ κ) σ st Q=bQ C sub E es σ st fun ds aC=>(∃ P,aC P=some (.cod κ))/\rT σ aJ fun cs=>∀ a,aC a=none->C f (ds++[.ref a]) (put aC a (.fn g cs)) (fun d aF=>Q d (del aF a)) (fun c aF=>E c (del aF a)):=rfl
theorem Z9 {QL:List D->Prop}:rT σ [] QL=QL []:=rfl
theorem XO {QL:List D->Prop}{is:List Nat}:rT σ (i::is) QL=eF σ i fun d=>rT σ is fun ds=>QL (d::ds):=rfl
theorem YZ {f p:Nat}{cs:List D}{K:Nat->Nat->List D->Prop}(h:st p=some (.fn f cs)):AN (.ref p) st K=K p f cs:=by unfold AN;simp only[h]
theorem vJ {p q:Nat}(h:q≠p):del st p q=st q:=by unfold del;rw[if_neg h]
theorem Sq {k v:Ex}:aG C sub E (.d1 k v) σ st Q = ∀ p,st p=none->aG C sub E k σ (put st p (.tab [] [])) fun x aC=>aG C sub E v σ aC fun y aF=>zQ x y (.ref p) aF fun aX=>Q (.ref p) aX:=rfl
theorem Gj:aG C sub E .dnew σ st Q = ∀ p,st p=none->Q (.ref p) (put st p (.tab [] [])):=rfl
theorem Lx {neg:Bool}:aG C sub E (.din neg a b) σ st Q=aG C sub E a σ st fun x aC=>aG C sub E b σ aC fun y aF=>xG x y aF fun k=>Q (.bl (if neg=true then !k else k)) aF:=rfl
theorem Np:aG C sub E (.dix a b) σ st Q=aG C sub E a σ st fun y aC=>aG C sub E b σ aC fun x aF=>tE x y aF Q:=rfl
theorem cL {c f:List Nat}{p:Nat}{fs:List (List Nat×D)}(h:st p=some (.ins c fs)){x:D}(hx:bN fs f=some x):qZ c f (.ref p) st Q=Q x st:=by
 simp only[qZ,oR,h,hx,dG,true_and]
theorem mV {c f:List Nat}{p:Nat}{fs:List (List Nat×D)}{R:aB->Prop}(h:st p=some (.ins c fs))(hl:fs.length<900):E3 c f d (.ref p) st R=R (put st p (.ins c (tB f d fs))):=by
 simp only[E3,oR,h,hl,true_and]
theorem fW {c m:List Nat}{p:Nat}{fs:List (List Nat×D)}(h:st p=some (.ins c fs))(hm:bN fs m=none):GZ c m (.ref p) st=True:=by
 simp only[GZ,oR,h,hm,and_self]
theorem VB {x:D}{p:Nat}{ks vs:List D}{R:Bool->Prop}(h:st p=some (.tab ks vs))(hx:keyed x):xG x (.ref p) st R=R (ks.any fun k=>bM k x):=by
 simp only[xG,tabAt,h,hx,true_and]
theorem zJ {x v:D}{p:Nat}{ks vs:List D}(h:st p=some (.tab ks vs))(hx:keyed x)(hv:lL ks vs x=some v):tE x (.ref p) st Q=Q v st:=by
 simp only[tE,tabAt,h,hx,hv,dG,true_and]
theorem Q6 {x v:D}{p:Nat}{ks vs:List D}{R:aB->Prop}(h:st p=some (.tab ks vs))(hx:keyed x)(hn:(ks.any fun k=>bM k x)=false)(hl:ks.length<10000):zQ x v (.ref p) st R=R (put st p (.tab (ks++[x]) (vs++[v]))):=by
 simp only[zQ,tabAt,h,hx,hn,hl,true_and]
end
section
variable {d:D}{r:St}{R:D->Prop}{o0 o1 o2 o3 o4 o5 o6 o7 o8 o9 pF qW JR:Option D}
theorem FK:eF (some d::r) 0 R=R d:=rfl
theorem Im:eF (o0::some d::r) 1 R=R d:=rfl
theorem Ss:eF (o0::o1::some d::r) 2 R=R d:=rfl
theorem Sl:eF (o0::o1::o2::some d::r) 3 R=R d:=rfl
theorem Sn:eF (o0::o1::o2::o3::some d::r) 4 R=R d:=rfl
theorem Qn:eF (o0::o1::o2::o3::o4::some d::r) 5 R=R d:=rfl
theorem Sj:eF (o0::o1::o2::o3::o4::o5::some d::r) 6 R=R d:=rfl
theorem Qg:eF (o0::o1::o2::o3::o4::o5::o6::some d::r) 7 R=R d:=rfl
theorem Rb:eF (o0::o1::o2::o3::o4::o5::o6::o7::some d::r) 8 R=R d:=rfl
theorem Rx:eF (o0::o1::o2::o3::o4::o5::o6::o7::o8::some d::r) 9 R=R d:=rfl
theorem Mc:eF (o0::o1::o2::o3::o4::o5::o6::o7::o8::o9::some d::r) 10 R=R d:=rfl
theorem Nx:eF (o0::o1::o2::o3::o4::o5::o6::o7::o8::o9::pF::some d::r) 11 R=R d:=rfl
theorem Mq:eF (o0::o1::o2::o3::o4::o5::o6::o7::o8::o9::pF::qW::some d::r) 12 R=R d:=rfl
theorem Lr:eF (o0::o1::o2::o3::o4::o5::o6::o7::o8::o9::pF::qW::JR::some d::r) 13 R=R d:=rfl
end
end L3
end
section
namespace L3
open PySem PySem.Spec PyProof.Rows L2
noncomputable def jT (H:Hp)(a:Addr):Hp:=fun b=>match H b with
 |some (.frz o (.own n))=>if n=a then none else some (.frz o (.own n))
 |y=>y
theorem vV {H:Hp}{a b:Addr}{o:Obj}(h:H b=some (.frz o (.own a))):jT H a b=none:=by unfold jT;rw[h];simp
theorem nD {H:Hp}{a b:Addr}(h:H b=none):jT H a b=none:=by unfold jT;rw[h]
theorem qG (H:Hp)(a b:Addr):(∃ o,H b=some (.frz o (.own a))/\jT H a b=none)∨((∀ o,H b≠some (.frz o (.own a)))/\jT H a b=H b):=by
 cases h:H b with
 |none=>exact .inr ⟨fun o z=>(by cases z),nD h⟩
 |some y =>
  by_cases q:∃ o,y=.frz o (.own a)
  ·obtain⟨o,rfl⟩:=q
   exact .inl ⟨o,rfl,vV h⟩
  ·refine .inr ⟨fun o z=>q ⟨o,cw z⟩,?_⟩
   unfold jT
   rw[h]
   cases y with
   |frz o u=>cases u with
    |own n =>
     have hn:n≠a:=fun z=>q ⟨o,by rw[z]⟩
     simp [hn]
    |_=>rfl
   |_=>rfl
theorem VY {H:Hp}{a b:Addr}{y:HO}(h:jT H a b=some y):H b=some y:=by
 rcases qG H a b with⟨o,_,e⟩|⟨_,e⟩
 ·rw[e]at h;cases h
 ·rw[<-e];exact h
theorem tK {H:Hp}{a b:Addr}{y:HO}(h:H b=some y)(n:∀ o,y≠.frz o (.own a)):jT H a b=some y:=by
 rcases qG H a b with⟨o,e,_⟩|⟨_,e⟩
 ·rw[h]at e;exact absurd (cw e) (n o)
 ·rw[e];exact h
noncomputable def A5 (H H':Hp)(a:Addr):Hp:=fun b=>match H b with
 |some (.frz o (.own n))=>if n=a then some (.frz o (.own n))else H' b
 |_=>H' b
theorem CU {H H':Hp}{a b:Addr}{o:Obj}(h:H b=some (.frz o (.own a))):A5 H H' a b=some (.frz o (.own a)):=by unfold A5;rw[h];simp
theorem iB {H H':Hp}{a b:Addr}(h:∀ o,H b≠some (.frz o (.own a))):A5 H H' a b=H' b:=by
 unfold A5
 cases e:H b with
 |none=>rfl
 |some y=>cases y with
 |frz o u=>cases u with
  |own n =>
  have hn:n≠a:=fun z=>h o (by rw[e,z])
  simp [hn]
  |_=>rfl
 |_=>rfl
theorem ZR {P:bu}{w:de}{H:Hp}{h:Heap}{a:Addr}(ok:iL P w H h):iL P w (jT H a) h:=fun b o e =>
 (ok b o (VY e)).rA (fun _ _ _ q=>q) (fun _ q=>tK q (fun _ z=>nomatch z)) fun _ _ q=>tK q (fun _ z=>nomatch z)
def Kp (H H':Hp)(a:Addr):Prop:=∀ b y,H b=some y->(∀ o,y≠.frz o (.own a))->(∀ o u,y≠.frz o (.frz u (.own a)))->H' b=some y
theorem RW {H:Hp}{a:Addr}:Kp H (jT H a) a:=fun _ _ h n _=>tK h n
theorem Dj {K:aa}{H H':Hp}{a b:Addr}{vs:List V}(k:Kp H H' a)(h:eU K H b vs):eU K H' b vs:=by
 rcases h with(h|⟨o,h⟩)|h
 ·exact .inl (.inl (k _ _ h (fun _ z=>nomatch z) (fun _ _ z=>nomatch z)))
 ·exact .inl (.inr ⟨o,k _ _ h (fun _ z=>nomatch z) (fun _ _ z=>nomatch z)⟩)
 ·exact .inr h
theorem Ci {K:aa}{H H':Hp}{a b:Addr}{vs:List V}(k:Kp H H' a)(h:nA K H b vs):nA K H' b vs:=by
 rcases h with⟨o,h⟩|h
 ·exact .inl ⟨o,k _ _ h (fun _ z=>nomatch z) (fun _ _ z=>nomatch z)⟩
 ·exact .inr h
mutual
theorem Rep.to {K:aa}{H H':Hp}{a:Addr}(k:Kp H H' a):∀{d:D}{v:V},Rep K H d v->Rep K H' d v
 |_,_,.non=>.non
 |_,_,.bl b=>.bl b
 |_,_,.int i=>.int i
 |_,_,.str x=>.str x
 |_,_,.tup h r=>.tup (Dj k h) (aL.to k r)
 |_,_,.ref a=>.ref a
 |_,_,.bO h r=>.bO (Ci k h) (aL.to k r)
 |_,_,.dE h=>.dE h
theorem aL.to {K:aa}{H H':Hp}{a:Addr}(k:Kp H H' a):∀{ds:List D}{vs:List V},aL K H ds vs->aL K H' ds vs
 |_,_,.nil=>.nil
 |_,_,.cons h r=>.cons (Rep.to k h) (aL.to k r)
end
theorem O7 {K:aa}{H H':Hp}{a b:Addr}{o:MO}(k:Kp H H' a)(ne0:a≠0)(hb:b≠a)(h:vB K H b o):vB K H' b o:=by
 cases o with
 |lst ds=>obtain⟨vs,q,r⟩:=h;exact⟨vs,k _ _ q (fun _ z=>nomatch z) (fun _ _ z=>nomatch z),r.to k⟩
 |dic _ _=>exact h
 |ins c fs=>obtain⟨C,dx,ws,q,q2,q3,r⟩:=h;exact⟨C,dx,ws,q,k _ _ q2 (fun _ z=>nomatch z) (fun _ _ z=>nomatch z),q3,r.to k⟩
 |tab ks vs=>obtain⟨xs,ws,q,q0,q1,q2,q3,q4,q5,r⟩:=h;exact⟨xs,ws,k _ _ q (fun _ z=>nomatch z) (fun _ _ z=>nomatch z),q0,q1,q2,q3.to k,q4,q5,r.to k⟩
 |fn f cs =>
 obtain⟨vs,⟨T,clos,pm,ctv,c',oc,nb,t,q,ec,co,inj,dom,cap⟩,r⟩:=h
 refine⟨vs,⟨T,clos,pm,ctv,c',oc,nb,t,k _ _ q (fun _ z=>nomatch z) (fun _ _ z=>?_),k _ _ ec (fun _ z=>?_) (fun _ _ z=>nomatch z),co,inj,dom,cap.of fun b' o z=>k _ _ z (fun _ y=>?_) (fun _ _ y=>nomatch y)⟩,r.to k⟩
 ·injection z with _ z;injection z with _ z;injection z with z;exact hb z
 ·injection z with _ z;injection z with z;exact ne0 z.symm
 ·injection y with _ y;injection y with y;exact hb y
 |cod κ =>
 obtain⟨q0,q|⟨c',oc,q,ec,co⟩⟩:=h
 ·exact⟨q0,.inl (k _ _ q (fun _ z=>nomatch z) (fun _ _ z=>nomatch z))⟩
 ·exact⟨q0,.inr ⟨c',oc,k _ _ q (fun _ z=>nomatch z) (fun _ _ z=>nomatch z),k _ _ ec (fun _ z=>by injection z with _ z;injection z with z;exact ne0 z.symm) (fun _ _ z=>nomatch z),co⟩⟩
theorem Am {K:aa}{H H':Hp}{st:aB}{a:Addr}(k:Kp H H' a)(ne0:a≠0)(ok:aV K st H)(hn:st a=none):aV K st H':=fun b o e =>
 O7 k ne0 (fun z=>by rw[z,hn]at e;cases e) (ok b o e)
theorem AQ:∀{ps:List Str}{us:List ae}{i:Nat}{x:Str}{u:ae},ps.Nodup->ps[i]? = some x->us[i]? = some u->(ps.zip us).reverse.lookup x=some u
 |[],_,_,_,_,_,h,_=>by simp at h
 |_::_,[],_,_,_,_,_,h=>by simp at h
 |p::ps,v::us,0,x,u,nd,h1,h2=>by
  simp at h1 h2;subst h1;subst h2
  rw[la,i7,yk]
  have:(ps.zip us).reverse.lookup p=none:=by
   rw[List.lookup_eq_none_iff]
   intro q hq
   have hq:q∈ps.zip us:=by simpa using hq
   have:=(mx hq).1
   rw[bne_iff_ne]
   intro z
   exact(List.nodup_cons.mp nd).1 (z▸this)
  rw[this];simp
 |p::ps,v::us,i+1,x,u,nd,h1,h2=>by
  rw[la,i7,yk,AQ (List.nodup_cons.mp nd).2 (by simpa using h1) (by simpa using h2)];rfl
structure RK (T:kL):Prop where
 kind:T.scope.kind=.function
 co:T.scope.isCoroutine=false
 gen:T.scope.isGenerator=false
 nc:∀ x∈T.scope.names,x.2≠.cell
 nd:(T.aJ++T.ps).Nodup
 lo:∀ x∈T.ps,T.scope.names.lookup x=some .local
 fr:∀ x,T.scope.names.lookup x=some .free->x∈T.aJ
 cf:∀ x∈T.aJ,T.scope.names.lookup x=some .free
noncomputable def MK (P:bu)(w:de)(K:aa)(mg:Str->Option ae)(base:Heap)(T:kL)(clos:List (Str×Addr))(a c':Addr)(A:cb)(outer:List Env)(s:ag)(H:Hp):Cx where
 prog:=P
 w:=w
 K:=K
 mg:=mg
 base:=base
 A:=A.deeper (qv T.q T.scope s.heap.objs.size a (.ref c') clos)
 N:=T.aJ++T.ps
 s₀:=s
 H₀:=H
 env:=qv T.q T.scope s.heap.objs.size a (.ref c') clos
 outer:=outer
 stack:=qv T.q T.scope s.heap.objs.size a (.ref c') clos::outer
 ex:=[]
 calm:=true
 fn:=fun _=>false
 pn:=[]
 xe:=fun _ _=>False
def oJ (P:bu)(w:de)(K:aa)(mg:Str->Option ae)(base:Heap)(r:Nat)(C:bE)(f:Nat):Prop :=
 ∀(A:cb)(outer:List Env)(s:ag)(H:Hp)(a:Addr)(us:List ae)(vs cvs:List V)(ds cs:List D)(st:aB)(R:VK)(Q:L2.VK)(E:L2.XK),
 dC r A->uX P w K mg base A outer s H->YD H a f cvs->st a=none->aV K st H->aL K H cs cvs->aL K H ds vs->aU vs us->C f (cs++ds) st R (fun _ _=>False)->(∀ v H',QD K H st R v H'->Q v H') ->
 ku (model P w) A (.call (.ref a) ⟨us,[]⟩) (CR dP outer P w H s Q E) s
theorem KC {H:Hp}{a:Addr}{clos:List (Str×Addr)}{xs:List Str}{vs:List V}(h:jU H a clos xs vs):xs.length=vs.length:=by
 induction h with
 |nil=>rfl
 |cons _ _ _ _ _ _ _ _ ih=>exact congrArg Nat.succ ih
theorem DG {H:Hp}{a:Addr}{clos:List (Str×Addr)}{xs:List Str}{vs:List V}(h:jU H a clos xs vs):∀{i:Nat}{x:Str},xs[i]? = some x->∃ v cl o u,vs[i]? = some v/\clos.lookup x=some cl/\H cl=some (.frz o (.own a))/\o.data=.cell (some u)/\RelV v u:=by
 induction h with
 |nil=>intro i x e;simp at e
 |cons cl o u l k d r t ih =>
 intro i x e
 cases i with
 |zero=>simp at e;subst e;exact⟨_,cl,o,u,rfl,l,k,d,r⟩
 |succ i=>exact ih (by simpa using e)
section
variable {P:bu}{w:de}{K:aa}{mg:Str->Option ae}{base:Heap}{T:kL}{clos:List (Str×Addr)}{a c':Addr}{A:cb}{outer:List Env}{s:ag}{H:Hp}{us:List ae}{vs cvs:List V}
theorem Cg (S:RK T)(hd:A.handled=none)(e0:uX P w K mg base A outer s H)(inj:∀ x y c,clos.lookup x=some c->clos.lookup y=some c->x=y)(dom:∀ x c,clos.lookup x=some c->x∈T.aJ)(cap:jU H a clos T.aJ cvs)(hl:vs.length=T.ps.length)(r:aU vs us)
  {h₁:Heap}{tk:Nat}(hns:h₁.Ns s.heap.objs.size (fun y=>(T.ps.zip us).reverse.lookup y))(hk:∀ b o,s.heap.get? b=some o->h₁.get? b=some o):
  Inv (MK P w K mg base T clos a c' A outer s (jT H a)) [] (cvs.map some++vs.map some) (jT H a) { s with heap:=h₁,toks:=tk }:=by
 have clen:=KC cap
 have cells:∀ x c,clos.lookup x=some c->∃ o u,H c=some (.frz o (.own a))/\o.data=.cell (some u):=fun x c e=>by
  obtain⟨i,hi⟩:=qb (dom x c e)
  obtain⟨v,cl,o,u,_,l,k,d,_⟩:=DG cap hi
  rw[e]at l;cases l
  exact⟨o,u,k,d⟩
 have hcl:∀{c o u},H c=some (.frz o (.own a))->o.data=.cell (some u)->h₁.IsCell c (some u):=fun{c o u} k d=>⟨o,hk _ _ (e0.bT c _ k).1,d⟩
 have noA:∀ b:Addr,b∉(MK P w K mg base T clos a c' A outer s (jT H a)).ex:=fun b z=>absurd (show b∈([]:List Addr)from z) (by simp)
 refine⟨⟨e0.mod,S.kind,rfl,rfl,az _,inj,fun y hy=>?_,fun y c z _=>(nomatch (show false=true from z)),fun _=>hd,wg e0.frames,.inr ⟨rfl,rfl⟩,fun b z=>absurd z (noA b),fun b o e=>⟨(e0.bs b o e).1,nD (e0.bs b o e).2⟩,e0.bsz,fun b _ _=>noA b,fun b z=>absurd z (noA b),e0.mK,fun b z=>nD (e0.frf b z)⟩,
  rfl,e0.bare,Un.kept hk,⟨_,hns,fun i y v h1 h2 h3=>?_⟩,fun y c h=>?_,nD (e0.bT.fresh (az _)),fun y c h=>?_,fun p hp=>absurd (show p∈([]:List (Addr×Obj))from hp) (by simp),(ZR e0.bT).kept hk,?_⟩
 ·have hy:T.scope.names.lookup y=some .cell∨T.scope.names.lookup y=some .free:=hy
  rcases hy with hy|hy
  ·exact absurd rfl (S.nc _ (gy hy))
  ·obtain⟨i,hi⟩:=qb (S.fr y hy)
   obtain⟨_,cl,_,_,_,l,_⟩:=DG cap hi
   exact⟨cl,l⟩
 ·by_cases hi:i<T.aJ.length
  ·have h1':T.aJ[i]? = some y:=by
    have h1:(T.aJ++T.ps)[i]? = some y:=h1
    rwa [bq hi]at h1
   obtain⟨v',cl,o,u,e1,l,k,d,rv⟩:=DG cap h1'
   rw[bq (by rw[ab,<-clen];exact hi),bc,e1]at h2
   cases h2
   exact⟨u,rv,.inr ⟨.inr (S.cf y (bg h1')),cl,l,hcl k d⟩⟩
  ·have h1':T.ps[i-T.aJ.length]? = some y:=by
    have h1:(T.aJ++T.ps)[i]? = some y:=h1
    rwa [cp (by omega)]at h1
   have h2':vs[i-T.aJ.length]? = some v:=by
    rw[cp (by rw[ab,<-clen];omega),ab,<-clen,bc]at h2
    cases e:vs[i-T.aJ.length]? with
    |none=>rw[e]at h2;cases h2
    |some z=>rw[e]at h2;cases h2;rfl
   obtain⟨u,hu,rv⟩:=r.get h2'
   have ndp:T.ps.Nodup:=(List.nodup_append.mp S.nd).2.1
   refine⟨u,rv,.inl ⟨S.lo y (bg h1'),?_⟩⟩
   exact AQ ndp h1' hu
 ·obtain⟨o,u,k,d⟩:=cells y c h
  exact⟨some u,hcl k d⟩
 ·obtain⟨o,u,k,d⟩:=cells y c h
  exact vV k
 ·show _=(T.aJ++T.ps).length
  rw[bp,bp,ab,ab,clen,hl]
end
section
variable {P:bu}{w:de}{K:aa}{mg:Str->Option ae}{base:Heap}
theorem OL {G:Prog}{k r f n:Nat}{T:kL}{x:Ex}(hT:LT f=some T)(S:RK T)(hG:G.fns f=some ⟨n,n,[.ret x]⟩)(hn:n=T.aJ.length+T.ps.length)
  (hbind:∀(clos:List (Str×Addr))(pm:ae)(c':Addr)(ctv:ae)(us:List ae),us.length=T.ps.length->Uq (PySem.W.kla_fn "<lambda>" T.q T.params T.body T.scope clos pm (.ref c') ctv) ⟨us,[]⟩=pure (T.ps.zip us))
  (hb:∀(clos:List (Str×Addr))(a c':Addr)(A:cb)(outer:List Env)(s:ag)(H:Hp),dC r (A.deeper (qv T.q T.scope s.heap.objs.size a (.ref c') clos))->JE (MK P w K mg base T clos a c' A outer s H) (aI G k) G.sub (fun _ _=>False) T.body x):
  oJ P w K mg base (r+1) (aI G (k+1)) f:=by
 intro A outer s H a us vs cvs ds cs st R Q E hr e0 hF dN ok rc rd rv hC hQ
 obtain⟨T',clos,pm,ctv,c',oc,ne0,t,e,ec,co,inj,dom,cap⟩:=hF
 rw[hT]at t;cases t
 simp only[aI,hG]at hC
 have clen:=KC cap
 have hlen:(cs++ds).length=n:=hC.1
 have hl:vs.length=T.ps.length:=by
  have h1:=rd.length
  have h2:=rc.length
  rw[bp]at hlen;omega
 have hus:us.length=T.ps.length:=by rw[<-rv.length];exact hl
 obtain⟨vs0,t0,co1,co2⟩:=co
 have lim:s.heap.NoLimit:=e0.mod.nolimit.keeps fun b o z=>(e0.bs b o z).1
 refine PySem.W.kla_callFunE hr.depth (e0.bT a _ e).1 rfl S.co S.gen rfl ⟨c',oc,vs0,t0,rfl,(e0.bT c' _ ec).1,co1,co2⟩ ?_
 rw[hbind clos pm c' ctv us hus]
 refine ar (wx S.nc (fun y hy=>S.lo y.1 (mx hy).1) (fun h₁ hns hsb=>⟨lim.fresh _ hsb,?_⟩) S.kind)
 show ku _ _ (.expr T.body (qv T.q T.scope s.heap.objs.size a (.ref c') clos)) _ _
 have hk:∀ b o,s.heap.get? b=some o->h₁.get? b=some o:=fun b o z=>hsb.extBut b o (cg (bh z)) (ai _ z)
 refine PySem.W.kla_codeExpr ?_
 have I:=Cg (P:=P) (w:=w) (c':=c') (tk:=s.toks+(T.ps.zip us).length) S hr.hd e0 inj dom cap hl rv hns hk
 have hq:aG (aI G k) G.sub (fun _ _=>False) x (start n n (cs++ds)) st R:=by
  have:=hC.2
  simp only[cY,wpS]at this
  exact this
 have est:start n n (cs++ds)=cs.map some++ds.map some:=by simp [start]
 have hsr:dO K (jT H a) (start n n (cs++ds)) (cvs.map some++vs.map some):=by
  have rr:aL K (jT H a) (cs++ds) (cvs++vs):=(rc.append rd).to RW
  rw[est,<-dg,<-dg]
  refine⟨by rw[ab,ab,rr.length],fun i d e=>?_⟩
  rw[bc,dq]at e
  obtain⟨d',e1,e2⟩:=e
  cases e2
  obtain⟨v,e3,e4⟩:=rr.get e1
  exact⟨v,by rw[bc,e3];rfl,e4⟩
 have key:=(hb clos a c' A outer s (jT H a) (hr.deeper _)).h [] _ _ (jT H a) (fun v H'=>QD K (jT H a) st R v H') I ⟨start n n (cs++ds),st,R,hsr,Am RW ne0 ok dN,hq,fun v H' z=>z⟩
 refine jq key (fun u s' z=>?_) fun e s' z=>z.elim
 obtain⟨v,H',J,bJ,d,aA,s1,aS,r1,q1⟩:=z
 have jb:Un (vQ outer) [] (jT H a) H' s.heap s'.heap:=J.base
 have nc:∀{b y},H' b=some y->∀ o,H b≠some (.frz o (.own a)):=fun{b y} h o z=>by
  have:=jb.free b o (e0.bT b _ z).1 (vV z) (by simp)
  rw[h]at this;cases this
 have aF:Step H' aA (A5 H H' a) aA:=fun b o eb n=>⟨by rw[iB (nc eb)];exact eb,n⟩
 refine⟨v,A5 H H' a,J.os,J.bare,⟨fun b o q n hb hx=>jb.keep b o q (nD n) hb hx,fun b o q n hb hx=>jb.slot b o q (nD n) hb hx,fun b o q n hx=>?_,fun b o q hx=>jb.there b o q hx,fun b xs q=>?_,fun b o u q=>?_,fun b ps q=>?_⟩,fun b o e=>?_,bJ,hQ v _ ⟨d,aA,fun b o eb n=>?_,fun b o e=>?_,r1.step aS aF,q1⟩⟩
 ·rw[iB (fun o z=>by rw[n]at z;cases z)];exact jb.free b o q (nD n) hx
 ·rw[iB (fun o z=>by rw[q]at z;cases z)];exact jb.tO b xs (tK q (fun _ z=>nomatch z))
 ·rcases qG H a b with⟨o',e',_⟩|⟨n,e'⟩
  ·rw[CU e',<-e'];exact q
  ·rw[iB n];exact jb.oY b o u (by rw[e'];exact q)
 ·obtain⟨more,z⟩:=jb.rM b ps (tK q (fun _ z=>nomatch z))
  exact⟨more,by rw[iB (fun o z=>by rw[q]at z;cases z)];exact z⟩
 ·rcases qG H a b with⟨o',e',_⟩|⟨n,e'⟩
  ·rw[CU e']at e;cases e
   have g:=jb.keep b o' (e0.bT b _ e').1 (vV e') (fun z=>by rw[e0.frf b z]at e';cases e') (by simp)
   exact⟨g,o',g⟩
  ·rw[iB n]at e
   exact(J.bT b o e).rA (fun _ _ _ q=>q) (fun b' q=>by rw[iB (nc q)];exact q) fun b' xs q=>by rw[iB (nc q)];exact q
 ·rcases qG H a b with⟨o',e',_⟩|⟨n',e'⟩
  ·refine⟨by rw[CU e',<-e'];exact eb,aS.fresh ?_⟩
   exact jb.free b o' (e0.bT b _ e').1 (vV e') (by simp)
  ·obtain⟨h1,h2⟩:=s1 b o (by rw[e'];exact eb) n
   exact⟨by rw[iB n'];exact h1,h2⟩
 ·have h:=aS b o e
  obtain⟨o',h1,_⟩:=h.bears
  exact h.step aS aF (iB (nc h1))
end
set_option tactic.hygienic true in
theorem M0 {σ:St}{i:Nat}{Q:D->Prop}(h:eF σ i Q):∃ d,σ[i]? = some (some d)/\Q d:=by
 unfold eF at h
 split at h
 ·rename_i d e;exact⟨d,e,h⟩
 ·exact h.elim
set_option tactic.hygienic true in
theorem O8 {d:D}{st:aB}{K:Nat->Nat->List D->Prop}(h:AN d st K):∃ a f cs,d=.ref a/\st a=some (.fn f cs)/\K a f cs:=by
 cases d<;>first|exact dy h|skip
 rename_i a
 unfold AN at h
 simp only at h
 split at h
 ·rename_i f cs e;exact⟨a,f,cs,rfl,e,h⟩
 ·exact h.elim
theorem CW {st:aB}{a:Nat}:del st a a=none:=by unfold del;rw[if_pos rfl]
theorem DE {st:aB}{a b:Nat}(h:b≠a):del st a b=st b:=by unfold del;rw[if_neg h]
theorem PL {st:aB}{a b:Nat}{o:MO}(h:del st a b=some o):st b=some o/\b≠a:=by
 by_cases z:b=a
 ·rw[z,CW]at h;cases h
 ·rw[DE z]at h;exact⟨h,z⟩
section
variable {X:Cx}{C:bE}{sub:Nat->Nat->Bool}{i k:Nat}{x:Str}{p pos:Pos}{e:Expr}{es:List Expr}{xs:List Ex}{E0:L2.XK}
theorem O9 {H:Hp}{h:Heap}{P:bu}{w:de}{a:Addr}{f:Nat}{vs:List V}(ok:iL P w H h)(F:YD H a f vs):PySem.W.FnAt a h:=by
 obtain⟨T,clos,pm,ctv,c',oc,_,_,e,_⟩:=F
 exact⟨_,_,_,_,(ok a _ e).1⟩
theorem So (hL:∀ f T,LT f=some T->oJ X.prog X.w X.K X.mg X.base k C f)(hr:dC k X.A)(hN:X.N[i]? = some x)(hv:YW X.env.scope x)(hx:qM dP X E0)(ha:PA X (e::es) (lW X.K (bQ C sub (fun _ _=>False) xs)))
  (hd:(x==("__debug__" : Str))=false)(hcd:(x==("__classdict__" : Str))=false)(he:ao (e::es) X.env=(false,eval e X.env)::ao es X.env)(dA:(du pos (ao es X.env)).any (·.1)=false):
  PE X (.Call (.Name x p) (e::es) [] pos) (cA X.K (aG C sub (fun _ _=>False) (.cv i xs))):=by
 intro pz s σ H Q I ⟨σd,st,R,r,ok,q,hq⟩
 obtain⟨d,ed,q0,q⟩:=M0 q
 obtain⟨a,f0,cs0,rfl,ea0,_⟩:=O8 q0
 obtain⟨v,ev,rep⟩:=r.2 i _ ed
 cases rep.cV
 obtain⟨cvs0,F0,_⟩:=ok a _ ea0
 refine fb (bD (S3 hN hv hd hcd pz s σ H (fun v' H1=>v'=.ref a/\H1=H) I ⟨_,ev,rfl,rfl⟩) fun u s1 z=>?_)
 obtain⟨v',H1,I1,rv,rfl,rfl⟩:=z
 obtain rfl:u=gx a:=rv
 refine PySem.W.callWith_F (O9 I1.bT F0) (bD (ha pos pz s1 σ H1 _ I1 ⟨σd,st,_,r,ok,q,fun vs H2 z=>z⟩) fun us s2 z=>?_) he dA
 obtain⟨vs,H2,I2,rvs,ds,aF,dH,bW,rds,q3⟩:=z
 obtain⟨a',f,cs,e1,ea,q4⟩:=O8 q3
 cases e1
 have hO:=bW a _ ea
 obtain⟨cvs,F,rcs⟩:=id hO
 refine⟨O9 I2.bT F,?_⟩
 have okd:aV X.K (del aF a) H2:=fun b o e=>bW b o (PL e).1
 have hT:∃ T,LT f=some T:=by obtain⟨T,_,_,_,_,_,_,t,_⟩:=F;exact⟨T,t⟩
 obtain⟨T,hT⟩:=hT
 refine uy (kv (hL f T hT X.A X.stack s2 H2 a us vs cvs ds cs (del aF a) _ Q E0 hr I2.PZ F CW okd rcs rds rvs q4 fun v H' z=>?_) fun r s' hq=>?_)
 ·obtain⟨d2,aX,s3,qV,r3,q5⟩:=z
  obtain⟨oa,ha1,_⟩:=hO.bears
  have h3:=s3 a oa ha1 CW
  refine hq v H' (.after dH ⟨d2,put aX a (.fn f cs),fun b o eb n=>?_,fun b o e=>?_,r3,q5⟩)
  ·have ba:b≠a:=fun z=>by rw[z,ea]at n;cases n
   obtain⟨h1,h2⟩:=s3 b o eb (by rw[DE ba];exact n)
   exact⟨h1,by rw[aM ba];exact h2⟩
  ·by_cases ba:b=a
   ·subst ba
    rw[aQ]at e;cases e
    exact hO.step okd s3 (by rw[h3.1,ha1])
   ·rw[aM ba]at e;exact qV b o e
 ·cases r with
  |error e=>exact hx pz σ H2 s2 e s' I2 hq
  |ok fl =>
   cases fl with
   |ret u=>exact I2.after hq
   |next=>exact dy hq
   |brk=>exact dy hq
   |cont=>exact dy hq
end
theorem G7 {σ:St}:∀{is:List Nat}{Q:List D->Prop},rT σ is Q->∃ cs,cs.length=is.length/\(∀(j i:Nat),is[j]? = some i->∃ d,σ[i]? = some (some d)/\cs[j]? = some d)/\Q cs
 |[],Q,h=>⟨[],rfl,fun j i e=>by simp at e,h⟩
 |i::is,Q,h=>by
  obtain⟨d,e,h⟩:=M0 h
  obtain⟨cs,l,g,q⟩:=G7 (is:=is) h
  refine⟨d::cs,by simp [l],fun j i' e'=>?_,q⟩
  cases j with
  |zero=>simp at e';subst e';exact⟨d,e,rfl⟩
  |succ j=>exact g j i' (by simpa using e')
inductive oC (h:Heap)(cells:List (Str×Addr)):List Str->List V->Prop where
 |nil:oC h cells [] []
 |cons {x:Str}{xs:List Str}{v:V}{vs:List V}(cl:Addr)(o:Obj)(u:ae)(l:cells.lookup x=some cl)(k:h.get? cl=some o) (d:o.data=.cell (some u)) (r:RelV v u) (t:oC h cells xs vs):oC h cells (x::xs) (v::vs)
section
variable {X:Cx}{pz:List (Addr×Obj)}{σ:L2.St}{H:Hp}{s:ag}{σd:St}
theorem EJ (I:Inv X pz σ H s)(r:dO X.K H σd σ):∀(xs:List Str)(aJ:List Nat)(cs:List D),(∀(j:Nat)(x:Str),xs[j]? = some x->∃ i,aJ[j]? = some i/\X.N[i]? = some x/\X.env.scope.names.lookup x=some .cell)->xs.length=aJ.length->cs.length=aJ.length->(∀(j i:Nat),aJ[j]? = some i->∃ d,σd[i]? = some (some d)/\cs[j]? = some d) ->
  ∃ cvs,aL X.K H cs cvs/\oC s.heap X.env.cells xs cvs
 |[],[],[],_,_,_,_=>⟨[],.nil,.nil⟩
 |x::xs,c::aJ,d::cs,hx,h1,h2,hg=>by
  obtain⟨cvs,rr,cc⟩:=EJ I r xs aJ cs (fun j y e=>by simpa using hx (j+1) y (by simpa using e)) (by simpa using h1) (by simpa using h2) (fun j i e=>by simpa using hg (j+1) i (by simpa using e))
  obtain⟨i,e1,e2,e3⟩:=hx 0 x rfl
  cases e1
  obtain⟨d',e4,e5⟩:=hg 0 c rfl
  cases e5
  obtain⟨v,e6,e7⟩:=r.2 c d e4
  obtain⟨m,hn,hl⟩:=I.loc
  obtain⟨u,rv,l⟩:=hl c x v e2 e6 (.inr (.inl e3))
  rcases l with⟨hk,_⟩|⟨_,cl,hc,o,ho,hd⟩
  ·have hk:X.env.scope.names.lookup x=some .local:=hk
   rw[e3]at hk;cases hk
  ·exact⟨v::cvs,.cons e7 rr,.cons cl o u hc ho hd rv cc⟩
 |[],_::_,_,_,h1,_,_=>by simp at h1
 |_::_,[],_,_,h1,_,_=>by simp at h1
 |[],[],_::_,_,_,h2,_=>by simp at h2
 |_::_,_::_,[],_,_,h2,_=>by simp at h2
end
theorem QR {h h':Heap}{cells:List (Str×Addr)}{xs:List Str}{vs:List V}(c:oC h cells xs vs)(k:∀ x cl o u,cells.lookup x=some cl->h.get? cl=some o->o.data=.cell u->h'.get? cl=some o):oC h' cells xs vs:=by
 induction c with
 |nil=>exact .nil
 |cons cl o u l q d r t ih=>exact .cons cl o u l (k _ _ _ _ l q d) d r ih
noncomputable def SS (clos:List (Str×Addr))(xs:List Str):List Addr:=xs.filterMap fun x=>clos.lookup x
noncomputable def jQ (H:Hp)(h:Heap)(a:Addr)(fo:Obj)(l:List Addr):Hp:=fun b=>if b=a then some (.frz fo (.frz fo (.own a)))else if b∈l then(h.get? b).map fun o=>.frz o (.own a)else H b
noncomputable def BC (H:Hp)(l:List Addr):Hp:=fun b=>if b∈l then none else H b
section
variable {H:Hp}{h:Heap}{a b:Addr}{fo:Obj}{l:List Addr}
theorem KP:jQ H h a fo l a=some (.frz fo (.frz fo (.own a))):=by unfold jQ;rw[if_pos rfl]
theorem L6 {o:Obj}(n:b≠a)(m:b∈l)(e:h.get? b=some o):jQ H h a fo l b=some (.frz o (.own a)):=by unfold jQ;rw[if_neg n,if_pos m,e];rfl
theorem AZ (n:b≠a)(m:b∉l):jQ H h a fo l b=H b:=by unfold jQ;rw[if_neg n,if_neg m]
theorem S5 (m:b∈l):BC H l b=none:=by unfold BC;rw[if_pos m]
theorem sI (m:b∉l):BC H l b=H b:=by unfold BC;rw[if_neg m]
theorem NX {clos:List (Str×Addr)}{xs ys:List Str}{vs:List V}(c:oC h clos xs vs)(na:∀ x cl,clos.lookup x=some cl->cl≠a)(sub:∀ x∈xs,x∈ys):jU (jQ H h a fo (SS clos ys)) a clos xs vs:=by
 induction c with
 |nil=>exact .nil
 |cons cl o u l q d r t ih =>
 refine .cons cl o u l (L6 (na _ _ l) ?_ q) d r (ih fun x hx=>sub x (cj _ hx))
 exact List.mem_filterMap.mpr ⟨_,sub _ (dh ..),l⟩
end
def tN (mg:Str->Option ae)(base:Heap):Prop:=∃ bm ob,mg "__builtins__" = some (.ref bm)/\bm≠builtinsNs/\base.get? bm=some ob/\ob.cls=.type "module" /\ ob.dict=some yc/\ob.data=.plain
section
variable {X:Cx}{pz:List (Addr×Obj)}{σ:L2.St}{H:Hp}{s:ag}
theorem W5 {P:Addr}{κ:CK}{T:kL}{clos:List (Str×Addr)}{lpos:Pos}{Q:ae->ag->Prop}{E:ae->ag->Prop}(I:Inv X pz σ H s)(hR:RA X.K H P κ)(hBm:tN X.mg X.base)(hq:T.q=X.env.qual ++"<lambda>")(hκ:T.q=⟨κ.q.toArray⟩)(hln:κ.ln=lpos.line)(hcol:κ.col=lpos.col)(hcode:X.env.code=.ref κ.c)
  (hcl:yj T.scope X.env=pure clos)(hdef:Ve T.params X.env=([],[]))
  (h:∀(pm ctv:ae)(c' a:Addr)(oc:Obj)(s':ag)(H':Hp),Inv X pz σ H' s'->s'.os=s.os->s'.heap.get? a=some (my "<lambda>" T.q T.params T.body T.scope clos pm c' ctv)->H' a=none->H a=none->s.heap.objs.size<=a->H' c'=some (.frz oc (.own 0))->P0 oc T.q->RA X.K H' P κ ->
   (∀ b y,b≠P->H b=some y->H' b=some y)->(∀ b o,b≠P->s.heap.get? b=some o->s'.heap.get? b=some o)->Q (.ref a) s'):
  wpAny (model X.prog X.w) X.A (eval (.Lambda T.params T.body T.scope lpos) X.env) Q E s:=by
 obtain⟨hhd,hps⟩:=hR
 have hg:s.heap.Ns cu X.mg:=I.mod.glob.keeps I.bk
 have C:PySem.W.CodeHd s.heap κ.c P:=xk I.jN hhd
 have hPs:∃ ps,H P=some (.tbl ps):=by
  rcases hps with q|⟨_,_,q,_⟩
  ·exact⟨_,q⟩
  ·exact⟨_,q⟩
 have hne:∀{b:Addr}{o:Obj},X.base.get? b=some o->b≠P:=fun{b o} e z=>by
  obtain⟨ps,q⟩:=hPs
  have:=(I.bs b o e).2
  rw[z,q]at this;cases this
 have hgP:mainGlobals≠P:=by
  obtain⟨o,_,_,e,_⟩:=I.mod.glob
  exact hne e
 have hB:s.heap.BuiltinsAt X.mg P:=by
  obtain⟨bm,ob,b1,b2,b3,b4,b5,b6⟩:=hBm
  refine⟨bm,ob,b1,b2,fun z=>?_,hne b3,I.bk _ _ b3,b4,b5,b6⟩
  obtain⟨o,es,ep,e,hd,_⟩:=I.mod.glob
  rw[z,e]at b3;cases b3;rw[hd]at b6;cases b6
 refine PySem.W.kla_eval hdef ?_
 rw[<-hq]
 rcases hps with q|⟨c',oc,q,ec,co⟩
 ·have hP:s.heap.get? P=some (Vf #[]):=I.bT P _ q
  refine PySem.W.kla_makeFunction (mg:=X.mg) hcl I.ok.glob hg hcode C hP bz rfl hgP hB fun c' ctv h' tk hx hge cO hrec htb=>?_
  obtain⟨c2,oc,vs,t,e2,hoc,hd,hv⟩:=hrec
  cases e2
  have hc0:H c'=none:=I.bT.fresh hge
  have cP:c'≠P:=fun z=>by rw[z,q]at hc0;cases hc0
  have hszle:s.heap.objs.size<=h'.objs.size:=c7 hge (qp cO)
  have ha0:H h'.objs.size=none:=I.bT.fresh hszle
  have aP:h'.objs.size≠P:=fun z=>by rw[z,q]at ha0;cases ha0
  have ac:h'.objs.size≠c':=oe cO
  have ko:∀ b o,b≠P->s.heap.get? b=some o->(h'.push (my "<lambda>" T.q T.params T.body T.scope clos ((X.mg "__name__").getD .none) c' ctv)).get? b=some o:=fun b o n e=>ai _ (hx b o n e)
  have kH:∀ b y,b≠P->H b=some y->upd (upd H P (.tbl #[gp lpos.line,gp lpos.col,.ref c'])) c' (.frz oc (.own 0)) b=some y:=fun b y n e=>by
   rw[bI (fun z=>by rw[z,hc0]at e;cases e),bI n];exact e
  have kN:∀ b,b≠P->b≠c'->H b=none->upd (upd H P (.tbl #[gp lpos.line,gp lpos.col,.ref c'])) c' (.frz oc (.own 0)) b=none:=fun b n n' e=>by rw[bI n',bI n];exact e
  have hPn:upd (upd H P (.tbl #[gp lpos.line,gp lpos.col,.ref c'])) c' (.frz oc (.own 0)) P=some (.tbl #[gp lpos.line,gp lpos.col,.ref c']):=by rw[bI cP.symm,dD]
  have nP:∀{b},H b=none->b≠P:=fun{b} n z=>by rw[z,q]at n;cases n
  refine h _ ctv c' h'.objs.size oc _ _ (I.un (t':=tk) (H':=upd (upd H P (.tbl #[gp lpos.line,gp lpos.col,.ref c'])) c' (.frz oc (.own 0))) ⟨fun b o e n _ _=>ko b o (nP n) e,fun b o e n _ _=>⟨o.slots,ko b o (nP n) e⟩,fun b o e n _=>kN b (nP n) (cg (br (bh e) hge)) n,fun b o e _=>?_,fun b xs e=>kH b _ (fun z=>by rw[z,q]at e;cases e) e,fun b o u e=>kH b _ (fun z=>by rw[z,q]at e;cases e) e,fun b ps e=>?_⟩ (fun b o e=>?_)) rfl (bj _ rfl) (kN _ aP ac ha0) ha0 hszle dD ⟨vs,t,hd,hv⟩ ⟨hhd,.inr ⟨c',oc,?_,dD,by rw[<-hκ];exact⟨vs,t,hd,hv⟩⟩⟩ kH ko
  ·by_cases z:b=P
   ·subst z;exact⟨_,ai _ htb⟩
   ·exact⟨o,ko b o z e⟩
  ·by_cases z:b=P
   ·subst z
    rw[q]at e;cases e
    exact⟨#[gp lpos.line,gp lpos.col,.ref c'],hPn⟩
   ·exact⟨#[],by rw[kH b _ z e];simp⟩
  ·by_cases z:b=c'
   ·subst z
    rw[dD]at e;cases e
    exact⟨Heap.get?_push_of_some _ hoc,oc,ai _ hoc⟩
   ·rw[bI z]at e
    by_cases z2:b=P
    ·subst z2
     rw[dD]at e;cases e
     exact ai _ htb
    ·rw[bI z2]at e
     refine(I.bT b o e).rA (fun c v hc w=>ko c v ?_ w) (fun b' w=>kH b' _ (fun z=>by rw[z,q]at w;cases w) w) fun b' xs w=>kH b' _ (fun z=>by rw[z,q]at w;cases w) w
     rcases hc with rfl|hc
     ·exact z2
     ·exact fun z=>by rw[z,q]at hc;cases hc
  ·rw[hPn,hln,hcol]
 ·have hP:s.heap.get? P=some (Vf #[gp κ.ln,gp κ.col,.ref c']):=I.bT P _ q
  have hf:codeAmong lpos (#[gp κ.ln,gp κ.col,.ref c']:Array ae).toList=some (.ref c'):=by rw[hln,hcol];simp [codeAmong,gp]
  refine PySem.W.kla_makeFunctionHit (mg:=X.mg) hcl I.ok.glob hg hcode C hP bz hf hB fun ctv h' tk hk lE=>?_
  have ha0:H h'.objs.size=none:=I.bT.fresh lE
  refine h _ ctv c' h'.objs.size oc _ H (I.kept (t':=tk) fun b o e=>ai _ (hk b o e)) rfl (bj _ rfl) ha0 ha0 lE ec (by rw[hκ];exact co) ⟨hhd,.inr ⟨c',oc,q,ec,co⟩⟩ (fun _ _ _ e=>e) fun b o _ e=>ai _ (hk b o e)
end
theorem QO {h:Heap}{cells clos:List (Str×Addr)}{xs:List Str}{vs:List V}(c:oC h cells xs vs)(k:∀ x∈xs,clos.lookup x=cells.lookup x):oC h clos xs vs:=by
 induction c with
 |nil=>exact .nil
 |cons cl o u l q d r t ih=>exact .cons cl o u (by rw[k _ (dh ..)];exact l) q d r (ih fun x hx=>k x (cj _ hx))
set_option tactic.hygienic true in
theorem K9 {cells:List (Str×Addr)}{L:List Str}:∀(names:List (Str×NameKind))(cs:List (Str×Addr)){x:Str}{c:Addr},(∀ p∈names,p.2=.free->p.1∈L)->(∀ x c,cs.lookup x=some c->x∈L)->(lS cells names cs).lookup x=some c->x∈L
 |[],cs,x,c,_,h,e=>h x c e
 |(n,k)::r,cs,x,c,hn,h,e=>by
  simp only[lS]at e
  refine K9 r _ (fun p hp=>hn p (cj _ hp)) (fun y d ed=>?_) e
  split at ed
  ·rename_i hk
   rw[c9]at ed
   split at ed
   ·rename_i q
    have q:y=n:=by simpa using q
    rw[q];exact hn (n,k) (dh ..) (by simpa using hk)
   ·exact h y d ed
  ·exact h y d ed
theorem SX {h:Heap}{cells:List (Str×Addr)}{xs:List Str}{vs:List V}(c:oC h cells xs vs):∀ x∈xs,∃ cl o u,cells.lookup x=some cl/\h.get? cl=some o/\o.data=.cell (some u):=by
 induction c with
 |nil=>intro x hx;cases hx
 |cons cl o u l q d r t ih =>
 intro x hx
 rcases List.mem_cons.mp hx with rfl|hx
 ·exact⟨cl,o,u,l,q,d⟩
 ·exact ih x hx
section
variable {X:Cx}{C:bE}{sub:Nat->Nat->Bool}{k fid g:Nat}{f:Addr}{fd:gu}{ps:List Str}{n:Str}{p pos lpos:Pos}{e1 e2:Expr}{x1 x2:Ex}{T:kL}{aJ:List Nat}{κ:CK}
theorem Be (F:fS X.prog X.w X.K X.mg X.base dP k f fd ps (gA X.K C fid))(hr:dC k X.A)(hg:Gl X n)(hm:X.mg n=some (.ref f))(hk:ff X.K (.ref f)=true)(hb:Binds X.K fd ps [])
  (h1:PE X e1 (cA X.K (aG C sub (fun _ _=>False) x1)))(h2:PE X e2 (cA X.K (aG C sub (fun _ _=>False) x2)))(hBm:tN X.mg X.base)(hT:LT g=some T)(hq:T.q=X.env.qual ++"<lambda>")(hκ:T.q=⟨κ.q.toArray⟩)(hln:κ.ln=lpos.line)(hcol:κ.col=lpos.col)(hcode:X.env.code=.ref κ.c)
  (hfn:∀ x,X.fn x=true)(hfree:∀ p∈T.scope.names,p.2=.free->p.1∈T.aJ)(hcapf:∀ x∈T.aJ,T.scope.names.lookup x=some .free)(hcap:∀(j:Nat)(x:Str),T.aJ[j]? = some x->∃ i,aJ[j]? = some i/\X.N[i]? = some x/\X.env.scope.names.lookup x=some .cell)(hlen:T.aJ.length=aJ.length)
  (hdef:Ve T.params X.env=([],[]))(hdb:(n==("__debug__" : Str))=false)(he:ao [e1,e2,.Lambda T.params T.body T.scope lpos] X.env=[(false,eval e1 X.env),(false,eval e2 X.env),(false,eval (.Lambda T.params T.body T.scope lpos) X.env)])(he2:ao [e2,.Lambda T.params T.body T.scope lpos] X.env=[(false,eval e2 X.env),(false,eval (.Lambda T.params T.body T.scope lpos) X.env)]):
  PE X (.Call (.Name n p) [e1,e2,.Lambda T.params T.body T.scope lpos] [] pos) (cA X.K (aG C sub (fun _ _=>False) (.callL fid [x1,x2] g aJ κ))):=by
 intro pz s σ H Q I ⟨σd,st,R,r,ok,q,hq0⟩
 refine fb (A8 I hg hm ?_ hdb)
 refine nh (h₀:=X.base) I.ok.mod.kin hk ?_ (by rw[he,he2]) (by rw[he2];rfl)
 rw[he]
 show wpAny _ _ (ym [(false,eval e1 X.env),(false,eval e2 X.env),(false,eval (.Lambda T.params T.body T.scope lpos) X.env)]) _ _ s
 refine ju (bD (h1 pz s σ H _ I ⟨σd,st,_,r,ok,q,fun v H' z=>z⟩) fun u1 s1 z=>?_)
 obtain⟨v1,H1,I1,rv1,d1,aC,ss1,aS,rd1,q1⟩:=z
 have r1:=r.step ok ss1
 refine ju (bD (h2 pz s1 σ H1 _ I1 ⟨σd,aC,_,r1,aS,q1,fun v H' z=>z⟩) fun u2 s2 z=>?_)
 obtain⟨v2,H2,I2,rv2,d2,aF,ss2,bW,rd2,q2⟩:=z
 have r2:=r1.step aS ss2
 obtain⟨⟨P,eP⟩,q3⟩:=q2
 obtain⟨cs,cl1,cl2,q4⟩:=G7 q3
 obtain⟨cvs,rcs,cH⟩:=EJ I2 r2 T.aJ aJ cs hcap hlen cl1 cl2
 have hcellsX:∀ p∈T.scope.names,p.2=.free->∃ c,X.env.cells.lookup p.1=some c:=fun p hp hf=>by
  obtain⟨j,hj⟩:=qb (hfree p hp hf)
  obtain⟨i,_,_,e⟩:=hcap j _ hj
  exact I2.ok.has _ (.inl e)
 generalize hclos:lS X.env.cells T.scope.names []=clos
 have hcl:yj T.scope X.env=pure clos:=by rw[<-hclos];exact rK hcellsX
 have csub:∀ x c,clos.lookup x=some c->X.env.cells.lookup x=some c:=fun x c e=>by rw[<-hclos]at e;exact lU _ _ hcellsX (fun _ _ z=>by simp at z) e
 have chas:∀ x∈T.aJ,clos.lookup x=X.env.cells.lookup x:=fun x hx=>by
  obtain⟨c,e⟩:=xN (cells:=X.env.cells) T.scope.names [] (hcapf x hx)
  rw[hclos]at e
  rw[e,csub x c e]
 have cdom:∀ x c,clos.lookup x=some c->x∈T.aJ:=fun x c e=>by
  rw[<-hclos]at e
  exact K9 T.scope.names [] (fun p hp hf=>hfree p hp hf) (fun x c z=>by simp at z) e
 have hCod:RA X.K H2 P κ:=bW P _ eP
 refine ju (W5 I2 hCod hBm hq hκ hln hcol hcode hcl hdef fun pm ctv c' a oc s3 H3' I3 os3 ea na na2 asz ec co hCod3 kH ko=>?_)
 refine oj ⟨I3.jN,?_⟩
 obtain⟨psP,hP2⟩:∃ ps,H2 P=some (.tbl ps):=by
  obtain⟨_,z|⟨_,_,z,_⟩⟩:=hCod
  ·exact⟨_,z⟩
  ·exact⟨_,z⟩
 have sizeP:∀ x c,X.env.cells.lookup x=some c->H2 c=none/\H3' c=none/\c≠a/\c≠P:=fun x c e=>by
  have h2:=I2.lO x c e
  have h3:=I3.lO x c e
  obtain⟨v,o,ho,_⟩:=I2.cell x c e
  refine⟨h2,h3,fun z=>?_,fun z=>?_⟩
  ·have cO:=bh ho
   rw[z]at cO
   exact absurd (br cO asz) (fh _)
  ·rw[z,hP2]at h2;cases h2
 have ne0:a≠0:=fun z=>by
  have cO:=I2.lt
  rw[z]at asz
  exact absurd (br cO asz) (Nat.not_lt_zero _)
 have cH3:oC s3.heap clos T.aJ cvs:=QR (QO cH chas) fun x cl o u e h0 _=>ko cl o (sizeP x cl (csub x cl e)).2.2.2 h0
 generalize hfo:my "<lambda>" T.q T.params T.body T.scope clos pm c' ctv=fo at ea
 generalize hl:SS clos T.aJ=l
 have lmem:∀ c∈l,∃ x o,X.env.cells.lookup x=some c/\s3.heap.get? c=some o:=fun c hc=>by
  rw[<-hl]at hc
  obtain⟨x,hx,e⟩:=List.mem_filterMap.mp hc
  obtain⟨cl,o,u,e2,e3,_⟩:=SX cH3 x hx
  rw[e]at e2;cases e2
  exact⟨x,o,csub x c e,e3⟩
 have lH:∀ c∈l,H2 c=none/\H3' c=none/\c≠a/\c≠P:=fun c hc=>by
  obtain⟨x,_,e,_⟩:=lmem c hc
  exact sizeP x c e
 have nl:∀{b y},H3' b=some y->b≠a/\b∉l:=fun{b y} e=>⟨(fun z=>by rw[z,na]at e;cases e),(fun z=>by rw[(lH b z).2.1]at e;cases e)⟩
 have k3:∀{b y},H3' b=some y->jQ H3' s3.heap a fo l b=some y:=fun{b y} e=>by rw[AZ (nl e).1 (nl e).2];exact e
 have k23:∀{b y},b≠P->H2 b=some y->jQ H3' s3.heap a fo l b=some y:=fun{b y} n e=>k3 (kH b y n e)
 have hst2:aF a=none:=bW.fresh na2
 have stepS:Step H2 aF (jQ H3' s3.heap a fo l) (put aF a (.fn g cs)):=fun b o e nn=>by
  have ba:b≠a:=fun z=>by rw[z,na2]at e;cases e
  exact⟨k23 (fun z=>by rw[z,eP]at nn;cases nn) e,by rw[aM ba];exact nn⟩
 have e3:=I3.PZ
 have qV:aV X.K (put aF a (.fn g cs)) (jQ H3' s3.heap a fo l):=fun b o e=>by
  by_cases ba:b=a
  ·subst ba
   rw[aQ]at e;cases e
   refine⟨cvs,⟨T,clos,pm,ctv,c',oc,ne0,hT,by rw[hfo];exact KP,k3 ec,co,fun x y c h1 h2=>I2.ok.inj x y c (csub x c h1) (csub y c h2),cdom,?_⟩,rcs.step bW stepS⟩
   rw[<-hl]
   exact NX cH3 (fun x cl e=>(sizeP x cl (csub x cl e)).2.2.1) fun x hx=>hx
  ·rw[aM ba]at e
   by_cases bP:b=P
   ·subst bP
    rw[eP]at e;cases e
    obtain⟨z0,z|⟨c2,oc2,z1,z2,z3⟩⟩:=hCod3
    ·exact⟨z0,.inl (k3 z)⟩
    ·exact⟨z0,.inr ⟨c2,oc2,k3 z1,k3 z2,z3⟩⟩
   ·obtain⟨o',z,_⟩:=(bW b o e).bears
    exact(bW b o e).step bW stepS (by rw[k23 bP z,z])
 have env3:uX X.prog X.w X.K X.mg X.base X.A X.stack s3 (jQ H3' s3.heap a fo l):=by
  refine⟨e3.frames,e3.mod,fun b o e=>⟨(e3.bs b o e).1,?_⟩,e3.bsz,e3.mK,fun b hb=>?_,fun b o e=>?_,e3.bare⟩
  ·have b1:b≠a:=fun z=>by
    have cO:=bh (I2.bk b o e)
    rw[z]at cO
    exact absurd (br cO asz) (fh _)
   have b2:b∉l:=fun z=>by
    obtain⟨x,_,ex,_⟩:=lmem b z
    have cO:=bh (I2.ok.bs b o e).1
    exact absurd (br cO (I2.ok.cab x b (hfn x) ex)) (fh _)
   rw[AZ b1 b2];exact(e3.bs b o e).2
  ·have b1:b≠a:=fun z=>by
    obtain⟨_,o,ho,_⟩:=I2.stack.mem hb
    have cO:=bh ho
    rw[z]at cO
    exact absurd (br cO asz) (fh _)
   have b2:b∉l:=fun z=>by
    obtain⟨x,_,ex,_⟩:=lmem b z
    rcases List.mem_cons.mp (I2.E7 b hb)with e|hb
    ·exact I2.IP x b ex e
    ·obtain⟨_,o,ho,_⟩:=I2.ok.mK.mem hb
     exact absurd (br (bh ho) (I2.ok.cab x b (hfn x) ex)) (fh _)
   rw[AZ b1 b2];exact e3.frf b hb
  ·by_cases ba:b=a
   ·subst ba
    rw[KP]at e;cases e
    exact⟨ea,ea,fo,ea⟩
   ·by_cases bl:b∈l
    ·obtain⟨x,ob,_,eb⟩:=lmem b bl
     rw[L6 ba bl eb]at e;cases e
     exact⟨eb,ob,eb⟩
    ·rw[AZ ba bl]at e
     exact(I3.bT b o e).rA (fun _ _ _ q=>q) (fun b' q=>k3 q) fun b' xs q=>k3 q
 have rr:aL X.K (jQ H3' s3.heap a fo l) [d1,d2,.ref a] [v1,v2,.ref a]:=.cons ((rd1.step aS ss2).step bW stepS) (.cons (rd2.step bW stepS) (.cons (.ref a) .nil))
 have vv:aU [v1,v2,.ref a] [u1,u2,.ref a]:=.cons rv1 (.cons rv2 (.cons rfl .nil))
 have hsp:gA X.K C fid [v1,v2,.ref a] (jQ H3' s3.heap a fo l) (fun v H'=>QD X.K (jQ H3' s3.heap a fo l) (put aF a (.fn g cs)) (fun d aA=>R d (del aA a)) v H') E0:=⟨[d1,d2,.ref a],_,_,rr,qV,q4 a hst2,fun v H' z=>z⟩
 have hlen3:([u1,u2,.ref a]:List ae).length=ps.length:=by rw[<-vv.length];exact F.len _ _ _ _ hsp
 refine uy (kv (F.run X.A X.stack s3 _ ⟨[u1,u2,.ref a],[]⟩ [u1,u2,.ref a] [v1,v2,.ref a] _ E0 hr env3 (hb s3 [u1,u2,.ref a] I3.jN (by rw[eh];exact hlen3)) vv hsp) fun rs s4 hq4=>?_)
 cases rs with
 |error e=>exact dy hq4
 |ok fl =>
  cases fl with
  |next=>exact dy hq4
  |brk=>exact dy hq4
  |cont=>exact dy hq4
  |ret u =>
   obtain⟨v,H4,os4,bare4,un,hok4,rv4,z4⟩:=hq4
   obtain⟨d,cN,s34,PV,r4,q5⟩:=z4
   have h4a:H4 a=some (.frz fo (.frz fo (.own a))):=un.oY a _ _ KP
   have h4l:∀ c∈l,∃ o,s3.heap.get? c=some o/\H4 c=some (.frz o (.own a))/\s4.heap.get? c=some o:=fun c hc=>by
    obtain⟨x,o,_,eo⟩:=lmem c hc
    have h:=un.oY c _ _ (L6 (lH c hc).2.2.1 hc eo)
    exact⟨o,eo,h,(hok4 c _ h).1⟩
   have nb:∀{b y},H3' b=some y->b∉a::l:=fun{b y} e z=>by
    rcases List.mem_cons.mp z with z|z
    ·exact(nl e).1 z
    ·exact(nl e).2 z
   have keepO:∀ b o,s3.heap.get? b=some o->H3' b=none->(b∈a::l->s4.heap.get? b=some o):=fun b o e n z=>by
    rcases List.mem_cons.mp z with z|z
    ·subst z;rw[ea]at e;cases e;exact(hok4 b _ h4a).1
    ·obtain⟨o',e1,_,e2⟩:=h4l b z
     rw[e]at e1;cases e1;exact e2
   have lo:∀{b},b∉a::l->jQ H3' s3.heap a fo l b=H3' b:=fun{b} z=>AZ (fun w=>z (by rw[w];exact dh ..)) fun w=>z (cj _ w)
   have kp:Kp H4 (BC H4 (a::l)) a:=fun b y e n1 n2=>by
    rw[sI];·exact e
    intro z
    rcases List.mem_cons.mp z with z|z
    ·rw[z,h4a]at e;exact n2 _ _ (cw e).symm
    ·obtain⟨o,_,h,_⟩:=h4l b z
     rw[h]at e;exact n1 _ (cw e).symm
   have I4:Inv X pz σ (BC H4 (a::l)) s4:=by
    refine I3.YE (ch:=[]) os4 ⟨fun b o e n hb hx=>?_,fun b o e n hb hx=>?_,fun b o e n hx=>?_,fun b o e hx=>un.there b o e hx,fun b xs e=>?_,fun b o u e=>?_,fun b ps e=>?_⟩ (fun b o e=>?_) bare4 (fun b z=>absurd z (by simp))
    ·by_cases z:b∈a::l
     ·exact keepO b o e n z
     ·exact un.keep b o e (by rw[lo z];exact n) hb hx
    ·by_cases z:b∈a::l
     ·exact⟨o.slots,keepO b o e n z⟩
     ·exact un.slot b o e (by rw[lo z];exact n) hb hx
    ·by_cases z:b∈a::l
     ·exact S5 z
     ·rw[sI z];exact un.free b o e (by rw[lo z];exact n) hx
    ·rw[sI (nb e)];exact un.tO b xs (k3 e)
    ·rw[sI (nb e)];exact un.oY b o u (k3 e)
    ·rw[sI (nb e)];exact un.rM b ps (k3 e)
    ·by_cases z:b∈a::l
     ·rw[S5 z]at e;cases e
     ·rw[sI z]at e
      exact(hok4 b o e).rA (fun _ _ _ q=>q) (fun b' q=>kp b' _ q (fun _ z=>nomatch z) (fun _ _ z=>nomatch z)) fun b' xs q=>kp b' _ q (fun _ z=>nomatch z) (fun _ _ z=>nomatch z)
   refine⟨v,_,I4,rv4,hq0 v _ (.after ss1 (.after ss2 ⟨d,del cN a,fun b o e nn=>?_,fun b o e=>?_,r4.to kp,q5⟩))⟩
   ·obtain⟨z1,z2⟩:=stepS b o e nn
    obtain⟨z3,z4⟩:=s34 b o z1 z2
    have ba:b≠a:=fun z=>by rw[z,na2]at e;cases e
    have bl:b∉a::l:=fun z=>by
     rcases List.mem_cons.mp z with z|z
     ·exact ba z
     ·rw[(lH b z).1]at e;cases e
    exact⟨by rw[sI bl];exact z3,by rw[DE ba];exact z4⟩
   ·obtain⟨z1,z2⟩:=PL e
    exact O7 kp ne0 z2 (PV b o z1)
end
theorem R8 {P:bu}{w:de}{K:aa}{mg mb:Str->Option ae}{k:Nat}{fa a:Addr}{fd:gu}{x:Str}{sp:Sp}{s₁:ag}{vs:List ae}{ns:List Int}{tabs:List (CK×Addr)}
  (KX:K.In s₁.heap)(hns:s₁.heap.Ns cu mg)(hb:s₁.heap.Ns yc mb)(hbb:∀ x:Str,x ≠"__name__" -> mb x=cz x)(hlim:s₁.heap.NoLimit)(hg:s₁.gens = #[])
  (hB:tN mg s₁.heap)(t1:∀ p∈tabs,s₁.heap.get? p.2=some { cls:=.none,data:=.fields #[] })(t2:∀ p∈tabs,pe K p.1.c p.2=true)(t3:∀ p∈tabs,K.lookup p.2=none)
  (ha:s₁.heap.get? a=some { cls:=.type "list", data:=.seq vs.toArray })(hi:ve vs ns)(hl:ns.length<=sizeLine)(hr:dC k xa)
  (F:∀ base:Heap,K.In base->base.Ns cu mg->tN mg base->fS P w K mg base dP k fa fd [x] sp)(hbind:∀(s:ag)(u:ae),yr s fd ⟨[u],[]⟩ [(x,u)])
  (hsp:∀ H:Hp,(∀ p∈tabs,H p.2=some (.tbl #[]))->nA K H a (ns.map V.int)->sp [.ref a] H (fun v _=>v=.bl true) fun _ _ _=>False):
  ku (model P w) xa (.call (.ref fa) ⟨[.ref a],[]⟩) (fun r s'=>r=.ok (.ret (.bool true))/\OldK s₁.heap s'.heap/\s'.os=s₁.os/\sh s'.gens) s₁:=by
 have rv:=HI hi
 have lenV:=hi.length
 have aT:∀ p∈tabs,p.2≠a:=fun p hp z=>by
  have:=t1 p hp
  rw[z,ha]at this;cases this
 have core:∀ H:Hp,(∀ p∈tabs,H p.2=some (.tbl #[]))->nA K H a (ns.map V.int)->iL P w H s₁.heap->(∀ b,H b≠none->b=a∨∃ p∈tabs,b=p.2)->(∀ b u,H b=some u->(∃ o xs,u=.frz o xs)∨∃ p∈tabs,b=p.2)->(H a≠none->K.lookup a=none) ->
   ku (model P w) xa (.call (.ref fa) ⟨[.ref a],[]⟩) (fun r s'=>r=.ok (.ret (.bool true))/\OldK s₁.heap s'.heap/\s'.os=s₁.os/\sh s'.gens) s₁:=by
  intro H hT hS bT hA hO hK
  have base_of:∀{b:Addr}{o:Obj},s₁.heap.get? b=some o->H b=none->(vD s₁.heap H).get? b=some o:=fun e n=>W0 e n
  have noK:∀{b:Addr}{o:Obj},K.lookup b=some o->H b=none:=fun{b o} e=>by
   cases q:H b with
   |none=>rfl
   |some u =>
    rcases hA b (by rw[q];simp)with z|⟨p,hp,z⟩
    ·subst z
     rw[hK (by rw[q];simp)]at e;cases e
    ·subst z
     rw[t3 p hp]at e;cases e
  have noA:∀{b:Addr}{o:Obj},s₁.heap.get? b=some o->(∀ xs,o.data≠.seq xs)->(∀ ps,o.data≠.fields ps)->H b=none:=fun{b o} e d1 d2=>by
   cases q:H b with
   |none=>rfl
   |some u =>
    rcases hA b (by rw[q];simp)with z|⟨p,hp,z⟩
    ·subst z
     rw[ha]at e;cases e
     exact absurd rfl (d1 _)
    ·subst z
     rw[t1 p hp]at e;cases e
     exact absurd rfl (d2 _)
  have nsK:∀{b:Addr}{m:Str->Option ae},s₁.heap.Ns b m->(vD s₁.heap H).Ns b m:=fun{b m} ⟨o,es,ep,e,d,r⟩=>⟨o,es,ep,base_of e (noA e (fun _ z=>by rw[d]at z;cases z) (fun _ z=>by rw[d]at z;cases z)),d,r⟩
  have hKb:K.In (vD s₁.heap H):=fun b o e=>base_of (KX b o e) (noK e)
  have hBb:tN mg (vD s₁.heap H):=by
   obtain⟨bm,ob,b1,b2,b3,b4,b5,b6⟩:=hB
   exact⟨bm,ob,b1,b2,base_of b3 (noA b3 (fun _ z=>by rw[b6]at z;cases z) (fun _ z=>by rw[b6]at z;cases z)),b4,b5,b6⟩
  have hM:Mod K mg (vD s₁.heap H):=⟨hKb,nsK hns,⟨mb,nsK hb,hbb⟩,let⟨mc,h1,h2⟩:=hlim;⟨mc,nsK h1,h2⟩⟩
  have e0:uX P w K mg (vD s₁.heap H) xa [] s₁ H:=⟨rfl,hM,fun b o e=>Cs e,Vu (VH _ _),trivial,fun b hb=>absurd (show b∈([]:List Addr)from hb) (by simp),bT,.of_eq hg⟩
  refine kv ((F _ hKb (nsK hns) hBb).run xa [] s₁ H ⟨[.ref a],[]⟩ [.ref a] [.ref a] _ _ hr e0 (hbind s₁ (.ref a)) (.cons rfl .nil) (hsp H hT hS)) fun r s' h=>?_
  cases r with
  |error e=>exact h.elim
  |ok fl =>
   cases fl with
   |next=>exact dy h
   |brk=>exact dy h
   |cont=>exact dy h
   |ret u =>
    obtain⟨v,H',os,bare,un,hok',r',q⟩:=h
    have q':v=.bl true:=q
    subst q'
    obtain rfl:u=qy true:=r'
    have tb:∀ p∈tabs,∃ more,s'.heap.get? p.2=some { cls:=.none,data:=.fields (#[]++more) }:=fun p hp=>by
     obtain⟨more,z⟩:=un.rM p.2 _ (hT p hp)
     exact⟨more,hok' _ _ z⟩
    have fr:∀ b o,s₁.heap.get? b=some o->(¬∃ p∈tabs,b=p.2)->s'.heap.get? b=some o:=fun b o e nt=>by
     cases q:H b with
     |none=>exact un.keep b o e q (by intro z;exact absurd (show b∈([]:List Addr)from z) (by simp)) (by simp)
     |some u =>
      rcases hO b u q with⟨ob,xs,z⟩|z
      ·subst z
       have z2:=un.oY b ob _ q
       obtain⟨e1,_⟩:=bT b _ q
       obtain⟨e2,_⟩:=hok' b _ z2
       rw[e]at e1;cases e1
       exact e2
      ·exact absurd z nt
    refine⟨rfl,⟨fun b o e=>?_,fun b o e=>?_⟩,os,bare⟩
    ·by_cases h:∃ p∈tabs,b=p.2
     ·obtain⟨p,hp,z⟩:=h
      subst z
      obtain⟨more,z⟩:=tb p hp
      rw[t1 p hp]at e;cases e
      obtain⟨oc,ws,_,_,_,_,_,_,_,c1,c2,c3,c4,_⟩:=xk KX (t2 p hp)
      exact .inr (.inl ⟨⟨_,oc,ws,c1,c2,c3,c4⟩,rfl,#[],more,rfl,z⟩)
     ·exact .inl (fr b o e h)
    ·by_cases h:∃ p∈tabs,b=p.2
     ·obtain⟨p,hp,z⟩:=h
      subst z
      obtain⟨more,z⟩:=tb p hp
      exact⟨_,z⟩
     ·exact⟨o,fr b o e h⟩
 have tn:∀ b,b∈tabs.map (·.2)->∃ p∈tabs,b=p.2:=fun b hb=>by
  obtain⟨p,hp,z⟩:=List.mem_map.mp hb
  exact⟨p,hp,z.symm⟩
 have na:a∉tabs.map (·.2):=fun z=>by
  obtain⟨p,hp,e⟩:=tn a z
  exact aT p hp e.symm
 cases hk:K.lookup a with
 |some o =>
  have e:=KX a o hk
  rw[ha]at e
  cases e
  refine core (fun b=>if b∈tabs.map (·.2)then some (.tbl #[])else none) (fun p hp=>if_pos (List.mem_map.mpr ⟨p,hp,rfl⟩)) (.inr ⟨_,vs.toArray,_,hk,rfl,rfl,rfl,by rw[av,lenV];exact hl,by simpa using rv⟩) (fun b u z=>?_) (fun b z=>?_) (fun b u z=>?_) fun z=>absurd (if_neg na) z
  ·by_cases hb:b∈tabs.map (·.2)
   ·have z':=(if_pos hb).symm.trans z
    cases z'
    obtain⟨p,hp,e⟩:=tn b hb
    subst e
    exact t1 p hp
   ·have z':=(if_neg hb).symm.trans z
    cases z'
  ·by_cases hb:b∈tabs.map (·.2)
   ·exact .inr (tn b hb)
   ·exact absurd (if_neg hb) z
  ·by_cases hb:b∈tabs.map (·.2)
   ·exact .inr (tn b hb)
   ·have z':=(if_neg hb).symm.trans z
    cases z'
 |none =>
  refine core (fun b=>if b∈tabs.map (·.2)then some (.tbl #[])else if b=a then some (.frz { cls:=.type "list", data:=.seq vs.toArray } (.lst (ns.map V.int)))else none) (fun p hp=>if_pos (List.mem_map.mpr ⟨p,hp,rfl⟩)) (.inl ⟨{ cls:=.type "list", data:=.seq vs.toArray },(if_neg na).trans (if_pos rfl)⟩) (fun b u z=>?_) (fun b z=>?_) (fun b u z=>?_) fun _=>hk
  ·by_cases hb:b∈tabs.map (·.2)
   ·have z':=(if_pos hb).symm.trans z
    cases z'
    obtain⟨p,hp,e⟩:=tn b hb
    subst e
    exact t1 p hp
   ·have z1:=(if_neg hb).symm.trans z
    by_cases hb:b=a
    ·have z':=(if_pos hb).symm.trans z1
     cases z'
     subst hb
     exact⟨ha,by rw[ab];exact hl,vs,_,rv,ha⟩
    ·have z':=(if_neg hb).symm.trans z1
     cases z'
  ·by_cases hb:b∈tabs.map (·.2)
   ·exact .inr (tn b hb)
   ·by_cases hb2:b=a
    ·exact .inl hb2
    ·exact absurd ((if_neg hb).trans (if_neg hb2)) z
  ·by_cases hb:b∈tabs.map (·.2)
   ·exact .inr (tn b hb)
   ·have z1:=(if_neg hb).symm.trans z
    by_cases hb2:b=a
    ·have z':=(if_pos hb2).symm.trans z1
     cases z'
     exact .inl ⟨_,_,rfl⟩
    ·have z':=(if_neg hb2).symm.trans z1
     cases z'
theorem Bc {K:aa}{G:Prog}{k f:Nat}{tabs:List (CK×Addr)}(t2:∀ p∈tabs,pe K p.1.c p.2=true)(h:∀(ns:List Int)(st:aB),ns.length<=63->(∀ p∈tabs,∃ P,st P=some (.cod p.1))->aI G k f [.bO (ns.map .int)] st (fun d _=>d=.bl true) fun _ _=>False)(dj:(tabs.map (·.2)).Nodup)(H:Hp)(a:Addr)(ns:List Int)(hl:ns.length<=63)(hT:∀ p∈tabs,H p.2=some (.tbl #[]))(hF:nA K H a (ns.map V.int)):
  gA K (aI G k) f [.ref a] H (fun v _=>v=.bl true) fun _ _ _=>False:=by
 have ri:∀ ns:List Int,aL K H (ns.map .int) (ns.map V.int):=fun ns=>by
  induction ns with
  |nil=>exact .nil
  |cons i r ih=>exact .cons (.int i) ih
 refine⟨[.bO (ns.map .int)],fun b=>(tabs.find? fun p=>p.2==b).map fun p=>.cod p.1,fun d _=>d=.bl true,.cons (.bO hF (ri ns)) .nil,fun b o e=>?_,h ns _ hl fun p hp=>⟨p.2,?_⟩,fun v H' ⟨d,aA,_,_,r,q⟩=>?_⟩
 ·obtain⟨p,e1,e2⟩:=Option.map_eq_some_iff.mp e
  have hp:=List.mem_of_find?_eq_some e1
  have hb:=List.find?_some e1
  have hb:p.2=b:=by simpa using hb
  subst hb
  cases e2
  exact⟨t2 p hp,.inl (hT p hp)⟩
 ·have key:∀(l:List (CK×Addr)),(l.map (·.2)).Nodup->∀ p∈l,(l.find? fun q=>q.2==p.2)=some p:=fun l=>by
   induction l with
   |nil=>intro _ p hp;cases hp
   |cons q r ih =>
    intro nd p hp
    rw[ay,List.nodup_cons]at nd
    rcases List.mem_cons.mp hp with z|hp
    ·subst z;simp
    ·rw[List.find?_cons_of_neg]
     ·exact ih nd.2 p hp
     ·intro z
      exact nd.1 (List.mem_map.mpr ⟨p,hp,(by simpa using z:q.2=p.2).symm⟩)
  show(List.find? (fun q=>q.2==p.2) tabs).map _=_
  rw[key tabs dj p hp];rfl
 ·subst q
  exact r.fX
theorem Nz {l:PySem.W.OpenLaw}{q:bu}{loose:List Str}{XP:(Str->Option ae)->Heap->Prop}{YP:de->Heap->Prop}{d:DefRec}{K:Params->aa}{G:Prog}{r k f:Nat}{x:Str}{tabs:List (CK×Addr)}(hr:dC r xa)(XY:∀(ns:List Int)(st:aB),ns.length<=63->(∀ p∈tabs,∃ P,st P=some (.cod p.1))->aI G k f [.bO (ns.map .int)] st (fun d _=>d=.bl true) fun _ _=>False)(dj:(tabs.map (·.2)).Nodup)(hn:l.most=some 63)(hdf:d.params.defaults=[])
 (hY:∀(w:de)(h:Heap),YP w h->(K w.params).In h)
 (hY2:∀(w:de)(h:Heap),YP w h->∀ p∈tabs,h.get? p.2=some { cls:=.none,data:=.fields #[] })
 (t2:∀(w:de)(p:CK×Addr),p∈tabs->pe (K w.params) p.1.c p.2=true)(t3:∀(w:de)(p:CK×Addr),p∈tabs->gz p.2 (K w.params)=none)
 (F:∀(w:de)(mg:Str->Option ae)(fa:Addr)(h:Heap),(K w.params).In h->h.Ns cu mg->mg d.name=some (.ref fa) ->
  ∃ fd:gu,(∀(s:ag)(u:ae),yr s fd ⟨[u],[]⟩ [(x,u)])/\∀ base:Heap,(K w.params).In base->base.Ns cu mg->tN mg base->fS l.prog w (K w.params) mg base dP r fa fd [x] (gA (K w.params) (aI G k) f)):
 PySem.W.WalkO q loose XP YP l.row.toRowW d [] (fun f vs=>PySem.call f vs):=by
 refine Att.NT hn hdf fun w s₀ s₁ mg mb fa o pm cd doc a vs ns G Y ho hd hcd hmg hobj hints hlen hg=>?_
 have KX:=hY w _ Y
 obtain⟨fd,hb,hF⟩:=F w mg fa _ KX G.T.g hmg
 exact R8 (tabs:=tabs) KX G.T.g G.T.b G.T.builtins G.T.nolimit hg G.T.bmain (hY2 w _ Y) (t2 w) (t3 w) hobj hints (c7 hlen (by decide)) hr hF hb fun H hT hS=>Bc (t2 w) XY dj H a ns hlen hT hS
theorem Fj {P:bu}{w:de}{K:aa}{mg:Str->Option ae}{base:Heap}{G:Prog}{r k f:Nat}{fn:Fn}{x qual:Str}{st:Stmt}{a c:Addr}{fd:gu}{N ps:List Str}(F:AW K x qual st a fd)(hc:fd.code=.ref c)(S:nN N ps (aH st))
  (hG:G.fns f=some fn)(hp:fn.np=ps.length)(hl:fn.nl=N.length)
  (hb:∀(A:cb)(outer:List Env)(s:ag)(H:Hp)(E:L2.XK),dC r (A.deeper (mi qual (aH st) s.heap.objs.size a (.ref c))) ->
   vY (fI dP P w K mg base N qual (aH st) a (.ref c) A outer s H E).jG (aI G k) G.sub (fH st) fn.body):
  fS P w K mg base dP (r+1) a fd ps (gA K (aI G (k+1)) f):=by
 obtain⟨oc,od,kV,doc,pm,an,bG,ct,osl,rfl,lk,hcd⟩:=F.ex
 have hc:bG=.ref c:=hc
 subst hc
 refine YK lk hcd S (fun vs H Q E h=>?_) fun A outer s H vs Q E hr h=>?_
 ·obtain⟨ds,aA,R,r,_,h,_⟩:=h
  simp only[aI,hG]at h
  rw[<-r.length,h.1,hp]
 ·obtain⟨ds,aA,R,r,ok,h,hq⟩:=h
  simp only[aI,hG]at h
  refine⟨_,(hb A outer s H E hr).h.jG,?_⟩
  refine⟨start fn.np fn.nl ds,aA,_,?_,ok,h.2,⟨fun σ' H' eB aZ sr s' fZ q=>?_,fun v H' z=>hq v H' z,fun _ _ _ _ _ _ _ q=>q,fun _ _ _ _ _ _ _ q=>q,fun _ _ _ q=>q⟩⟩
  ·rw[hl];exact HF r h.1
  ·exact hq _ _ ⟨.non,aZ,s',fZ,.non,q⟩
structure UT (X:Cx)(C:bE):Prop where
 h:∃ k,(∀ f T,LT f=some T->oJ X.prog X.w X.K X.mg X.base k C f)/\dC k X.A
theorem X4 {P:bu}{w:de}{K:aa}{mg:Str->Option ae}{base:Heap}{G:Prog}{f:Nat}:oJ P w K mg base 0 (aI G 0) f :=
 fun _ _ _ _ _ _ _ _ _ _ _ _ _ _ _ _ _ _ _ _ _ _ h=>dy h
section
variable {X:Cx}{C:bE}{sub:Nat->Nat->Bool}{E:XK}{e e1 e2 lam:Expr}{es:List Expr}{x1 x2:Ex}{xs:List Ex}{p pos lpos:Pos}{n:Str}{fid g:Nat}{T:kL}{aJ:List Nat}{κ:CK}
theorem Dx (i:Nat)(hN:X.N[i]? = some n:=by kernel_rfl)(hv:X.env.scope.names.lookup n=some .free:=by kernel_rfl)(hd:(n==("__debug__" : Str))=false:=by kernel_rfl)
 (hcd:(n==("__classdict__" : Str))=false:=by kernel_rfl):JE X C sub E (.Name n pos) (.v i):=⟨RE (pv i hN (.inr (.inr hv)) hd hcd)⟩
theorem Tz (i:Nat)(L:UT X C)(ha:JA X C sub EF (e::es) xs)(hN:X.N[i]? = some n:=by kernel_rfl)(hv:X.env.scope.names.lookup n=some .local:=by kernel_rfl)
 (hd:(n==("__debug__" : Str))=false:=by kernel_rfl)(hcd:(n==("__classdict__" : Str))=false:=by kernel_rfl)(he:ao (e::es) X.env=(false,eval e X.env)::ao es X.env:=by kernel_rfl)(dA:(du pos (ao es X.env)).any (·.1)=false:=by kernel_rfl):
 JE X C sub EF (.Call (.Name n p) (e::es) [] pos) (.cv i xs):=⟨let⟨k,h1,h2⟩:=L.h;So h1 h2 hN (.inl hv) JZ ha.h hd hcd he dA⟩
noncomputable def FG (aJ:List Nat)(tc:List Str)(N:List Str)(names:List (Str×NameKind)):Bool:=match aJ,tc with
 |[],[]=>true
 |i::is,x::xs=>(N[i]? == some x)&&(names.lookup x==some .cell)&&FG is xs N names
 |_,_=>false
theorem KW:∀(aJ:List Nat)(tc N:List Str)(names:List (Str×NameKind)),FG aJ tc N names=true->(∀(j:Nat)(x:Str),tc[j]? = some x->∃ i,aJ[j]? = some i/\N[i]? = some x/\names.lookup x=some .cell)/\tc.length=aJ.length
 |[],[],N,names,_=>⟨fun j x e=>by simp at e,rfl⟩
 |[],_::_,_,_,h=>by simp [FG]at h
 |_::_,[],_,_,h=>by simp [FG]at h
 |i::is,y::ys,N,names,h=>by
  simp only[FG,aw,beq_iff_eq]at h
  obtain⟨⟨h1,h2⟩,h3⟩:=h
  obtain⟨q1,q2⟩:=KW is ys N names h3
  refine⟨fun j x e=>?_,by simp [q2]⟩
  cases j with
  |zero=>simp at e;subst e;exact⟨i,rfl,h1,h2⟩
  |succ j=>simpa using q1 j x (by simpa using e)
noncomputable def J3 (T:kL):Bool:=(T.scope.names.all fun p=>!(p.2 == .free)||T.aJ.contains p.1)&&T.aJ.all fun x=>T.scope.names.lookup x==some .free
theorem Po {pa:Arguments}{bo:Expr}{sc:Scope}(T:kL)(h:oA X C n fid)(h1:JE X C sub EF e1 x1)(h2:JE X C sub EF e2 x2)(hB:tN X.mg X.base)(hT:LT g=some T)(hcode:X.env.code=.ref κ.c)(hfn:∀ x,X.fn x=true)
 (hl1:pa=T.params:=by kernel_rfl)(hl2:bo=T.body:=by kernel_rfl)(hl3:sc=T.scope:=by kernel_rfl)(hq:T.q=X.env.qual ++"<lambda>":=by kernel_rfl)(hκ:T.q=⟨κ.q.toArray⟩:=by kernel_rfl)(hln:κ.ln=lpos.line:=by kernel_rfl)(hcol:κ.col=lpos.col:=by kernel_rfl)
 (hf:J3 T=true:=by kernel_rfl)(hc:FG aJ T.aJ X.N X.env.scope.names=true:=by kernel_rfl)(hdef:Ve T.params X.env=([],[]):=by kernel_rfl)(hg:X.env.kindOf n=some .globalImplicit:=by kernel_rfl)(hdb:(n==("__debug__" : Str))=false:=by kernel_rfl)
 (he:ao [e1,e2,(.Lambda pa bo sc lpos)] X.env=[(false,eval e1 X.env),(false,eval e2 X.env),(false,eval (.Lambda pa bo sc lpos) X.env)]:=by kernel_rfl)(he2:ao [e2,(.Lambda pa bo sc lpos)] X.env=[(false,eval e2 X.env),(false,eval (.Lambda pa bo sc lpos) X.env)]:=by kernel_rfl):
 JE X C sub EF (.Call (.Name n p) [e1,e2,(.Lambda pa bo sc lpos)] [] pos) (.callL fid [x1,x2] g aJ κ):=by
 subst hl1 hl2 hl3
 obtain⟨k,f,fd,ps,q1,q2,q3,q4,q5⟩:=h.h
 obtain⟨c1,c2⟩:=KW _ _ _ _ hc
 simp only[J3,aw,km]at hf
 refine⟨Be q1 q2 hg q3 q4 q5 h1.h h2.h hB hT hq hκ hln hcol hcode hfn (fun p hp hf'=>?_) (fun x hx=>by simpa using hf.2 x hx) c1 c2 hdef hdb he he2⟩
 have:=hf.1 p hp
 rw[hf']at this
 simpa using this
end
def wL (K:aa)(mg:Str->Option ae)(n q:Str)(st:Stmt)(at_:At)(oc:Option Addr):Prop:=∃ a fd,AW K n q st a fd/\X6 K mg n a at_/\∀ c,oc=some c->fd.code=.ref c
theorem uB.Hq {K:aa}{mg:Str->Option ae}{n q:Str}{st:Stmt}{at_:At}(h:uB K mg n q st at_):wL K mg n q st at_ none:=let⟨a,fd,h1,h2⟩:=h;⟨a,fd,h1,h2,fun _ z=>nomatch z⟩
theorem RZ {K:aa}{h:Heap}{mg:Str->Option ae}(X:K.In h)(G:h.Ns cu mg){n:Str}{st:Stmt}{f c:Addr}{oc:ae}{od an:Option Addr}{sl:Array (Option ae)}{kV dc pm ct:ae}
 (a:h9 K cu n=some (some (.ref f)))(l:K.lookup f=some ⟨oc,od,.func (g9 n n (mD st) (fH st) (aH st) .none kV dc pm an (.ref c) ct),sl⟩)(cc:ki K (.ref c) n=true)(k:ff K (.ref f)=true):wL K mg n n st .top (some c) :=
 ⟨f,_,DX l cc k,lj X G a,fun _ z=>by cases z;rfl⟩
theorem KU {K:aa}{mg:Str->Option ae}{nm qn:Nat->Str}{ps:Nat->List Str}{st:Nat->Stmt}{at_:Nat->At}{cd:Nat->Option Addr}:∀(nf:Nat),(∀ i,i<nf->GH (nm i) (qn i) (ps i) (st i))->(∀ i,i<nf->wL K mg (nm i) (qn i) (st i) (at_ i) (cd i))->gu->∃ T:FH K mg nf nm qn ps st at_,∀ i,i<nf->∀ c,cd i=some c->(T.fd i).code=.ref c
 |0,_,_,d=>⟨⟨fun _=>0,fun _=>d,fun i h=>absurd h (by omega),fun i h=>absurd h (by omega),fun i h=>absurd h (by omega)⟩,fun i h=>absurd h (by omega)⟩
 |nf+1,B,H,d=>by
  obtain⟨T,hc⟩:=KU nf (fun i h=>B i (by omega)) (fun i h=>H i (by omega)) d
  obtain⟨a,fd,hF,hm,hcd⟩:=H nf (by omega)
  refine⟨⟨fun i=>if i=nf then a else T.a i,fun i=>if i=nf then fd else T.fd i,fun i h=>?_,fun i h=>?_,fun i h=>?_⟩,fun i h=>?_⟩
  ·by_cases e:i=nf
   ·subst e;simpa using hF
   ·simpa only[if_neg e]using T.fn i (by omega)
  ·by_cases e:i=nf
   ·subst e;simpa using hF.binds (B i (by omega))
   ·simpa only[if_neg e]using T.bi i (by omega)
  ·by_cases e:i=nf
   ·subst e;simpa using hm
   ·simpa only[if_neg e]using T.mg i (by omega)
  ·by_cases e:i=nf
   ·subst e;simpa using hcd
   ·simpa only[if_neg e]using hc i (by omega)
theorem FP {P:bu}{w:de}{K:aa}{mg:Str->Option ae}{base:Heap}{G:Prog}{nf:Nat}{nm qn:Nat->Str}{ps:Nat->List Str}{st:Nat->Stmt}{at_:Nat->At}(T:FH K mg nf nm qn ps st at_)
 (step:∀ k,(∀ i,i<nf->fS P w K mg base dP (2*k) (T.a i) (T.fd i) (ps i) (gA K (aI G k) i))->(∀ f Tx,LT f=some Tx->oJ P w K mg base (2*k) (aI G k) f)->(∀ i,i<nf->fS P w K mg base dP (2*k+1+1) (T.a i) (T.fd i) (ps i) (gA K (aI G (k+1)) i))/\∀ f Tx,LT f=some Tx->oJ P w K mg base (2*k+1+1) (aI G (k+1)) f):
 ∀ k,(∀ i,i<nf->fS P w K mg base dP (2*k) (T.a i) (T.fd i) (ps i) (gA K (aI G k) i))/\∀ f Tx,LT f=some Tx->oJ P w K mg base (2*k) (aI G k) f
 |0=>⟨fun i _=>Bi,fun f Tx _=>X4⟩
 |k+1=>step k (FP T step k).1 (FP T step k).2
set_option tactic.hygienic true in
theorem CC {α β:Type}[BEq α] [LawfulBEq α]:∀{l:List (α×β)}{a:α}{b:β},l.lookup a=some b->(a,b)∈l
 |[],_,_,h=>by cases h
 |(x,y)::r,a,b,h=>by
  rw[c9]at h
  split at h
  ·rename_i q
   have q:a=x:=by simpa using q
   subst q
   cases h
   exact dh ..
  ·exact cj _ (CC h)
theorem LP {T:kL}(h1:T.scope.kind=.function:=by kernel_rfl)(h2:T.scope.isCoroutine=false:=by kernel_rfl)(h3:T.scope.isGenerator=false:=by kernel_rfl)(h4:(T.scope.names.all fun p=>!(p.2 == .cell))=true:=by kernel_rfl)(h5:(T.aJ++T.ps).Nodup:=by decide +kernel)(h6:(T.ps.all fun x=>T.scope.names.lookup x==some .local)=true:=by kernel_rfl)(h7:J3 T=true:=by kernel_rfl):RK T:=by
 simp only[J3,aw,km]at h7
 rw[km]at h4 h6
 refine⟨h1,h2,h3,fun x hx z=>?_,h5,fun x hx=>by simpa using h6 x hx,fun x hx=>?_,fun x hx=>by simpa using h7.2 x hx⟩
 ·have:=h4 x hx
  rw[z]at this
  simp at this
 ·have:=h7.1 _ (CC hx)
  simpa using this
end L3
end
section
open L3 PySem
local macro_rules|`(tactic| walk_at"wpe")=>`(tactic| simp only[↓K0,↓G8,↓Lz,↓Ms,↓RD,↓Ko,↓Mx,↓ZX,↓Mw,↓Qw,↓Nd,↓Nw,↓Eo,↓Fl,↓Kr,↓Fi,↓C7,↓Rl,↓Ow,↓Ig,↓My,↓Rw,↓Mf,↓Qu,↓Z2,↓Z9,↓XO,↓Gj,↓Lx,↓Np,↓Oh,↓Nn,↓S8,↓PN,↓Kz,↓Jo,↓Nb,↓wN,↓Eg,↓Jp,↓Em,↓UG,↓Jq,↓Dv,↓Z6,↓BA,↓Mo,↓Om,↓FK,↓Im,↓Ss,↓Sl,↓Sn,↓Qn,↓Sj,↓Qg,↓Rb,↓Rx,↓Mc,↓Nx,↓Mq,↓Lr,↓Dp,↓Z1,↓Dd,↓Ap,↓XZ,↓Gr,↓Ef,↓Jy,↓He,↓cmp_gt,↓Hv,↓Cq,↓ZT,↓W8,↓W7,↓QV,↓NL,↓QF,↓NR,↓LH,↓NU,↓add_int,↓add_str,↓GB,↓Bf,↓sub_int,↓mul_int,↓De,↓V9,↓mod_int,↓pow_int,↓neg_int,↓Z7,↓Aa,iY,↓mR,↓OB,↓KL,↓ZV,GY,V8,VQ,Rf,Rz,↓bF,↓UJ,↓Ho,↓Er,↓K1,↓Ja,Mb,↓Az,↓W3,↓VO,↓TR,↓nC,↓FN,↓wQ,↓V6,↓P5,↓Q0,↓Cr,↓VF,↓Cc,↓M9,↓len_str,↓GA,↓S9,↓SG,↓ZN,↓Iz,↓Eh,↓UM,↓OR,↓KI,↓Hi,↓Cj,↓IU,↓El,↓Jt,↓Af,↓VS,↓Jj,↓Ac,↓Z8,↓wX,↓QW,↓Dg,↓uS,↓zE,↓MZ,↓OD,↓Dy,↓TY,ay,fe,b7,a9,ak,eh,if_true,if_false,fq,kj,aq,reduceIte,di,d5,true_and,and_true,DS,RG,AD,QC,HQ,HM,LO,HH,iX,Bs,Di,Ct,jo,jc,nz,decide_eq_true_eq,aw,la,List.zip_nil_left,List.zip_nil_right,lb,List.foldl_nil,bf,be])
local macro_rules|`(tactic| walk_at"st")=>`(tactic| ((try dsimp only);(first|refine gL ?_|rw[UK]);(try walk_at"wpe")))
local macro_rules|`(tactic| walk_at"ex")=>`(tactic| ((try dsimp only);(try walk_at"wpe")))
section
namespace L3
open PySem
theorem bA {G:Prog}{f k:Nat}{fn:Fn}{ds:List D}{st:aB}{Q:VK}{E:XK}(h:G.fns f=some fn):aI G (k+1) f ds st Q E=(ds.length=fn.np/\cY (aI G k) G.sub fn.body ⟨fun _ aA=>Q .non aA,Q,fun _ _=>False,fun _ _=>False,fun c _ aA=>E c aA⟩ (start fn.np fn.nl ds) st):=by
 simp only[aI,h]
def bL (as:List Nat)(st aA:aB):Prop:=∀ a o,a∉as->st a=some o->aA a=some o
theorem bL.refl {as:List Nat}{st:aB}:bL as st st:=fun _ _ _ h=>h
theorem bL.trans {as:List Nat}{a b c:aB}(h:bL as a b)(h':bL as b c):bL as a c:=fun x o n e=>h' x o n (h x o n e)
theorem bL.mono {as bs:List Nat}{st aA:aB}(h:bL as st aA)(s:∀ a∈as,a∈bs):bL bs st aA:=fun x o n e=>h x o (fun z=>n (s x z)) e
theorem Ext.keep {as:List Nat}{st aA:aB}(h:Ext st aA):bL as st aA:=fun x o _ e=>h x o e
theorem bL.put {as:List Nat}{st:aB}{a:Nat}{o:MO}(h:a∈as):bL as st (put st a o):=fun x u n e=>by rw[aM (fun z=>n (by rw[z];exact h))];exact e
noncomputable def wY (ns:List Int)(k:Int):Int:=if k<ns.length then(ns[k.toNat]?).getD 0 else if ns=[]then 0 else(ns[(k % ns.length).toNat]?).getD 0*31+k
noncomputable def lG (ns:List Int)(k many:Int):Int :=
 let d:=(wY ns k+7919*k+1)*48271 % 2147483647
 (d*d+7*d+k) % 2147483629 % many
theorem iD {ns:List Int}{k many:Int}(h:0<many):0<=lG ns k many:=mz _ (by omega)
theorem iE {ns:List Int}{k many:Int}(h:0<many):lG ns k many<many:=nq _ h
noncomputable def pU:Fn:=⟨2,2,[.iff (.cmp .lt (.v 1) (.bi .len [(.v 0)])) [.ret (.ix (.v 0) (.v 1))] [],.iff (.cmp .eq (.v 0) (.lst [])) [.ret (.c (.int 0))] [],
 .ret (.bin .add (.bin .mul (.ix (.v 0) (.bin .mod (.v 1) (.bi .len [(.v 0)]))) (.c (.int 31))) (.v 1))]⟩
noncomputable def nY (ic:Nat):Fn:=⟨3,4,[.asg (.nm 3) (.bin .mod (.bin .mul (.bin .add (.bin .add (.call ic [(.v 0),(.v 1)]) (.bin .mul (.c (.int 7919)) (.v 1))) (.c (.int 1))) (.c (.int 48271))) (.c (.int 2147483647))),
 .ret (.bin .mod (.bin .mod (.bin .add (.bin .add (.bin .mul (.v 3) (.v 3)) (.bin .mul (.c (.int 7)) (.v 3))) (.v 1)) (.c (.int 2147483629))) (.v 2))]⟩
noncomputable def uI (im:Nat):Fn:=⟨3,3,[.asg (.ix (.v 1) (.c (.int 0))) (.bin .add (.ix (.v 1) (.c (.int 0))) (.c (.int 1))),.ret (.call im [(.v 0),(.ix (.v 1) (.c (.int 0))),(.v 2)])]⟩
theorem DW (ns:List Int):bY (ns.map .int)=true/\cW (ns.map .int)=0:=by
 induction ns with
 |nil=>exact⟨rfl,rfl⟩
 |cons n r ih=>exact⟨by simp only[ay,bY,bK,ih.1,eu],by simp only[ay,cW,cS,ih.2,Nat.max_self]⟩
theorem PU {ns:List Int}{k:Int}(h0:0<=k)(h1:k<ns.length):gQ (ns.map D.int) k=some (.int ((ns[k.toNat]?).getD 0)):=by
 obtain⟨n,rfl⟩:∃ n:Nat,k=n:=⟨k.toNat,by omega⟩
 rw[eJ (by simp;omega)]
 simp only[bc,Int.toNat_natCast]
 rw[ah (by omega)]
 rfl
section
variable {G:Prog}{k ic im dM:Nat}{st:aB}{Q:VK}{E:XK}{ns:List Int}
theorem Aw (hc:G.fns ic=some pU){i:Int}(hi:0<=i)(hQ:∀ aA,Ext st aA->Q (.int (wY ns i)) aA):aI G (k+1) ic [.bO (ns.map .int),.int i] st Q E:=by
 rw[bA hc]
 simp only[pU,start]
 refine⟨rfl,?_⟩
 refine gL ?_
 walk_at"wpe"
 simp only[ab]
 by_cases h:i<ns.length
 ·simp only[h,decide_true,if_true]
  refine gL ?_
  walk_at"wpe"
  rw[PU hi h]
  walk_at"wpe"
  have:=hQ st .refl
  simp only[wY,h,if_true]at this
  exact this
 ·simp only[h,decide_false,aq,if_false,aO]
  refine gL ?_
  walk_at"wpe"
  refine⟨Nat.zero_le _,fun p hp=>?_⟩
  have hx:Ext st (put st p (.lst [])):=Ext.new hp
  dsimp only
  have e1:bV (put st p (.lst [])) (.bO (ns.map .int)) (.ref p)=ns.isEmpty:=by
   simp only[bV,aQ,DT]
   cases ns with
   |nil=>rfl
   |cons n r=>rfl
  rw[e1]
  refine⟨⟨?_,dm _⟩,⟨?_,dm _⟩,?_⟩
  ·simp only[hJ,(DW ns).1,(DW ns).2,ke];rfl
  ·simp only[hJ,aQ,YI];rfl
  cases ns with
  |nil =>
   simp only[uq,if_true]
   refine gL ?_
   walk_at"wpe"
   have:=hQ _ hx
   simp only[wY,h,if_false,if_true]at this
   exact this
  |cons n r =>
   simp only[yv,aq,if_false,aO]
   refine gL ?_
   have hl:(0:Int)<((n::r).length:Int):=by simp only[bf];omega
   simp only[UG,RD,C7,G8,K0,Fl,PN,S8,Et,Jx,VF,M9,mod_int,OB,ab,ay,b7,a9,fe]
   refine⟨by simpa using hl,?_⟩
   have hm0:0<=i % ((n::r).length:Int):=mz _ (by omega)
   have hm1:i % ((n::r).length:Int)<(n::r).length:=nq _ hl
   have:=PU (ns:=n::r) hm0 hm1
   simp only[ay,bf]at this
   simp only[bf,ab]
   rw[this]
   walk_at"wpe"
   refine⟨.inr ⟨by omega,by omega⟩,?_⟩
   have:=hQ _ hx
   simp only[wY,h,if_false]at this
   simpa using this
theorem LY (hm:G.fns im=some (nY ic))(hc:G.fns ic=some pU){i many:Int}(hi:0<=i)(hmany:0<many)(hQ:∀ aA,Ext st aA->Q (.int (lG ns i many)) aA):aI G (k+2) im [.bO (ns.map .int),.int i,.int many] st Q E:=by
 rw[bA hm]
 simp only[nY,start]
 refine⟨rfl,?_⟩
 refine gL ?_
 walk_at"wpe"
 refine Aw hc hi fun aA e=>?_
 walk_at"wpe"
 refine⟨.inl ⟨by omega,by omega⟩,.inr ⟨by omega,by omega⟩,by omega,?_⟩
 refine gL ?_
 walk_at"wpe"
 have d0:0<=(wY ns i+7919*i+1)*48271 % 2147483647:=mz _ (by omega)
 have d1:(wY ns i+7919*i+1)*48271 % 2147483647<2147483647:=nq _ (by omega)
 refine⟨.inl ⟨by omega,by omega⟩,.inl ⟨by omega,by omega⟩,by omega,hmany,?_⟩
 exact hQ aA e
theorem gF (hn:G.fns dM=some (uI im))(hm:G.fns im=some (nY ic))(hc:G.fns ic=some pU){a:Nat}{i many:Int}(ha:st a=some (.lst [.int i]))(hi:0<=i)(hmany:0<many)
 (hQ:∀ aA,bL [a] st aA->aA a=some (.lst [.int (i+1)])->Q (.int (lG ns (i+1) many)) aA):aI G (k+3) dM [.bO (ns.map .int),.ref a,.int many] st Q E:=by
 rw[bA hn]
 simp only[uI,start]
 refine⟨rfl,?_⟩
 refine gL ?_
 walk_at"wpe"
 rw[eO ha]
 walk_at"wpe"
 rw[aE ha]
 have e0:pD [D.int i].length 0=some 0:=rfl
 simp only[e0,bF,di]
 refine gL ?_
 walk_at"wpe"
 rw[eO aQ]
 walk_at"wpe"
 refine LY hm hc (by omega) hmany fun aA e=>?_
 refine hQ aA (fun x o n h=>e x o (by rw[aM (by simpa using n)];exact h)) (e a _ aQ)
end
inductive W1 where
 |not|before|once|sofar
 deriving DecidableEq
inductive W2 where
 |and|or|bD|same|since
 deriving DecidableEq
inductive Sy where
 |yes|no|cQ (n:List Nat)|one (w:W1)(s:Sy)|two (w:W2)(s t:Sy)
 deriving DecidableEq
noncomputable def c1:W1->List Nat
 |.not=>W "not"
 |.before=>W "before"
 |.once=>W "once"
 |.sofar=>W "sofar"
noncomputable def c2:W2->List Nat
 |.and=>W "and"
 |.or=>W "or"
 |.bD=>W "then"
 |.same=>W "same"
 |.since=>W "since"
noncomputable def toD:Sy->D
 |.yes=>.tup [.str (W "yes")]
 |.no=>.tup [.str (W "no")]
 |.cQ n=>.tup [.str (W "lamp"),.str n]
 |.one w s=>.tup [.str (c1 w),toD s]
 |.two w s t=>.tup [.str (c2 w),toD s,toD t]
noncomputable def aR:Sy->Nat
 |.one _ s=>aR s+1
 |.two _ s t=>max (aR s) (aR t)+1
 |_=>1
noncomputable def p1:W1->Bool
 |.not=>false
 |_=>true
noncomputable def p2:W2->Bool
 |.since=>true
 |_=>false
noncomputable def cnt:Sy->Nat
 |.one w s=>(if p1 w then 1 else 0)+cnt s
 |.two w s t=>(if p2 w then 1 else 0)+(cnt s+cnt t)
 |_=>0
def over (names:List (List Nat)):Sy->Prop
 |.cQ n=>n∈names
 |.one _ s=>over names s
 |.two _ s t=>over names s/\over names t
 |_=>True
theorem mZ:∀ s:Sy,bK (toD s)=true
 |.yes=>rfl
 |.no=>rfl
 |.cQ n=>rfl
 |.one w s=>by simp only[toD,bK,bY,mZ s,eu]
 |.two w s t=>by simp only[toD,bK,bY,mZ s,mZ t,eu]
theorem rV:∀ s:Sy,cS (toD s)=aR s
 |.yes=>rfl
 |.no=>rfl
 |.cQ n=>rfl
 |.one w s=>by simp only[toD,cS,cW,rV s,aR];omega
 |.two w s t=>by simp only[toD,cS,cW,rV s,rV t,aR];omega
noncomputable def pO (dM is:Nat):Fn:=⟨5,7,[.asg (.nm 5) (.call dM [(.v 0),(.v 1),(.c (.int 13))]),.iff (.or_ (.cmp .eq (.v 3) (.c (.int 0))) (.cmp .lt (.v 5) (.c (.int 3)))) [.ret (.tup [(.c (.str (W "lamp"))),(.ix (.v 2) (.call dM [(.v 0),(.v 1),(.bi .len [(.v 2)])]))])] [],.iff (.cmp .eq (.v 5) (.c (.int 3))) [.ret (.tup [(.ix (.lst [(.c (.str (W "yes"))),(.c (.str (W "no")))]) (.call dM [(.v 0),(.v 1),(.c (.int 2))]))])] [],.iff (.and_ (.cmp .gt (.v 5) (.c (.int 8))) (.cmp .gt (.ix (.v 4) (.c (.int 0))) (.c (.int 0)))) [.asg (.ix (.v 4) (.c (.int 0))) (.bin .sub (.ix (.v 4) (.c (.int 0))) (.c (.int 1))),.asg (.nm 6) (.call is [(.v 0),(.v 1),(.v 2),(.bin .sub (.v 3) (.c (.int 1))),(.v 4)]),.iff (.cmp .eq (.v 5) (.c (.int 12))) [.ret (.tup [(.c (.str (W "since"))),(.v 6),(.call is [(.v 0),(.v 1),(.v 2),(.bin .sub (.v 3) (.c (.int 1))),(.v 4)])])] [],.ret (.tup [(.ix (.lst [(.c (.str (W "before"))),(.c (.str (W "once"))),(.c (.str (W "sofar")))]) (.bin .sub (.v 5) (.c (.int 9)))),(.v 6)])] [],.asg (.nm 6) (.call is [(.v 0),(.v 1),(.v 2),(.bin .sub (.v 3) (.c (.int 1))),(.v 4)]),.iff (.or_ (.cmp .eq (.v 5) (.c (.int 4))) (.cmp .gt (.v 5) (.c (.int 8)))) [.ret (.tup [(.c (.str (W "not"))),(.v 6)])] [],.ret (.tup [(.ix (.lst [(.c (.str (W "and"))),(.c (.str (W "or"))),(.c (.str (W "then"))),(.c (.str (W "same")))]) (.bin .sub (.v 5) (.c (.int 5)))),(.v 6),(.call is [(.v 0),(.v 1),(.v 2),(.bin .sub (.v 3) (.c (.int 1))),(.v 4)])])]⟩
def Drawn (a b:Nat)(i l:Int)(st aA:aB)(i' l':Int):Prop:=bL [a,b] st aA/\0<=i'/\aA a=some (.lst [.int i'])/\aA b=some (.lst [.int l'])
section
variable {G:Prog}{k ic im dM is:Nat}{st:aB}{Q:VK}{E:XK}{ns:List Int}
theorem Cn {xs:List (List Nat)}{v:Int}(h0:0<=v)(h1:v<xs.length):∃ x∈xs,gQ (xs.map D.str) v=some (.str x):=by
 obtain⟨n,rfl⟩:∃ n:Nat,v=n:=⟨v.toNat,by omega⟩
 have h:n<xs.length:=by omega
 refine⟨xs[n],ur h,?_⟩
 rw[eJ (by simpa using h)]
 simp only[bc]
 rw[ah h]
 rfl
theorem Y7 {d:D}{r:List D}:pD (d::r).length 0=some 0:=by
 unfold pD
 rw[if_pos (by omega),if_pos (by simp only[bf];omega)]
 rfl
theorem cG {ds:List D}{Q:VK}(hl:ds.length<=bH)(h:∀ p aA,Ext st aA->st p=none->aA p=some (.lst ds)->Q (.ref p) aA):iP ds st Q:=⟨hl,fun p hp=>h p _ (Ext.new hp) hp aQ⟩
theorem uM (hs:G.fns is=some (pO dM is))(hn:G.fns dM=some (uI im))(hm:G.fns im=some (nY ic))(hc:G.fns ic=some pU){names:List (List Nat)}(jO:0<names.length){a b:Nat}(eD:a≠b):
  ∀(n:Nat){st:aB}{Q:VK}{E:XK}{i l:Int},st a=some (.lst [.int i])->st b=some (.lst [.int l])->0<=i->0<=l ->
   (∀ s aA i',over names s->aR s<=n+1->(cnt s:Int)<=l->bL [a,b] st aA->0<=i'->aA a=some (.lst [.int i'])->aA b=some (.lst [.int (l-cnt s)])->Q (toD s) aA) ->
   aI G (k+n+4) is [.bO (ns.map .int),.ref a,.tup (names.map .str),.int n,.ref b] st Q E:=by
 intro n
 have cQ:∀{n:Nat}{st:aB}{Q:VK}{E:XK}{i l:Int}{K:Nat}{P:gZ}{r:St},st a=some (.lst [.int i])->st b=some (.lst [.int l])->0<=i->0<=l ->
   (∀ s aA i',over names s->aR s<=n+1->(cnt s:Int)<=l->bL [a,b] st aA->0<=i'->aA a=some (.lst [.int i'])->aA b=some (.lst [.int (l-cnt s)])->P.rt (toD s) aA) ->
   cY (aI G (K+3)) G.sub [.ret (.tup [(.c (.str (W "lamp"))),(.ix (.v 2) (.call dM [(.v 0),(.v 1),(.bi .len [(.v 2)])]))])] P (some (.bO (ns.map .int))::some (.ref a)::some (.tup (names.map .str))::r) st:=by
  intro n st Q E i l K P r ha hb hi hl hQ
  walk_at"st"
  simp only[ab]
  refine gF hn hm hc ha hi (by omega) fun aC k1 a1=>?_
  walk_at"ex"
  obtain⟨x,hx,e⟩:=Cn (xs:=names) (iD (ns:=ns) (k:=i+1) (many:=names.length) (by omega)) (iE (by omega))
  rw[e]
  walk_at"ex"
  have b1:aC b=some (.lst [.int l]):=k1 b _ (by simpa using eD.symm) hb
  exact hQ (.cQ x) aC (i+1) hx (by simp [aR]) (by simp [cnt];omega) (k1.mono (by simp)) (by omega) a1 (by simpa [cnt]using b1)
 induction n with
 |zero =>
  intro st Q E i l ha hb hi hl hQ
  rw[bA hs]
  simp only[pO,start]
  refine⟨rfl,?_⟩
  walk_at"st"
  refine gF hn hm hc ha hi (by omega) fun aC k1 a1=>?_
  walk_at"st"
  simp only[l8,beq_self_eq_true,if_true]
  have b1:aC b=some (.lst [.int l]):=k1 b _ (by simpa using eD.symm) hb
  have kk:bL [a,b] st aC:=k1.mono (by simp)
  exact cQ (n:=0) (Q:=Q) (E:=E) a1 b1 (by omega) hl fun s aA i' h1 h2 h3 h4 h5 h6 h7=>hQ s aA i' h1 h2 h3 (kk.trans h4) h5 h6 h7
 |succ n ih =>
  intro st Q E i l ha hb hi hl hQ
  rw[bA hs]
  simp only[pO,start]
  refine⟨rfl,?_⟩
  walk_at"st"
  refine gF hn hm hc ha hi (by omega) fun aC k1 a1=>?_
  have v0:=iD (ns:=ns) (k:=i+1) (many:=13) (by omega)
  have v1:=iE (ns:=ns) (k:=i+1) (many:=13) (by omega)
  generalize lG ns (i+1) 13=v at v0 v1
  have b1:aC b=some (.lst [.int l]):=k1 b _ (by simpa using eD.symm) hb
  have kk:bL [a,b] st aC:=k1.mono (by simp)
  have hn0:(((n+1:Nat):Int)==0)=false:=by rw[beq_eq_false_iff_ne];omega
  have hn1:((n+1:Nat):Int)-1=(n:Int):=by omega
  walk_at"st"
  simp only[hn0,aq,if_false]
  by_cases h3:v<3
  ·simp only[h3,decide_true,if_true]
   exact cQ (n:=n+1) (Q:=Q) (E:=E) a1 b1 (by omega) hl fun s aA i' h1 h2 h3 h4 h5 h6 h7=>hQ s aA i' h1 h2 h3 (kk.trans h4) h5 h6 h7
  simp only[h3,decide_false,aq,if_false,aO]
  walk_at"st"
  by_cases e3:v=3
  ·subst e3
   simp only[beq_self_eq_true,if_true]
   walk_at"st"
   refine cG (by decide) fun p aF x2 hp mC=>?_
   walk_at"ex"
   have pa:p≠a:=fun z=>by rw[z,a1]at hp;cases hp
   have pb:p≠b:=fun z=>by rw[z,b1]at hp;cases hp
   refine gF hn hm hc (x2 a _ a1) (by omega) (by omega) fun aX k3 a3=>?_
   walk_at"ex"
   have w0:=iD (ns:=ns) (k:=i+1+1) (many:=2) (by omega)
   have w1:=iE (ns:=ns) (k:=i+1+1) (many:=2) (by omega)
   generalize lG ns (i+1+1) 2=w at w0 w1
   rw[eO (k3 p _ (by simpa using pa) mC)]
   have b3:aX b=some (.lst [.int l]):=k3 b _ (by simpa using eD.symm) (x2 b _ b1)
   have kk3:bL [a,b] st aX:=(kk.trans x2.keep).trans (k3.mono (by simp))
   obtain rfl|rfl:w=0∨w=1:=by omega
   ·walk_at"ex"
    exact hQ .yes aX _ trivial (by simp [aR]) (by simp [cnt];omega) kk3 (by omega) a3 (by simpa [cnt]using b3)
   ·walk_at"ex"
    exact hQ .no aX _ trivial (by simp [aR]) (by simp [cnt];omega) kk3 (by omega) a3 (by simpa [cnt]using b3)
  have e3':(v==3)=false:=by rw[beq_eq_false_iff_ne];exact e3
  simp only[e3',aq,if_false,aO]
  walk_at"st"
  have plain:∀{P:gZ},(∀ s aA i',over names s->aR s<=n+1+1->(cnt s:Int)<=l->bL [a,b] st aA->0<=i'->aA a=some (.lst [.int i'])->aA b=some (.lst [.int (l-cnt s)])->P.rt (toD s) aA) ->
    cY (aI G (k+n+4)) G.sub [.asg (.nm 6) (.call is [(.v 0),(.v 1),(.v 2),(.bin .sub (.v 3) (.c (.int 1))),(.v 4)]),.iff (.or_ (.cmp .eq (.v 5) (.c (.int 4))) (.cmp .gt (.v 5) (.c (.int 8)))) [.ret (.tup [(.c (.str (W "not"))),(.v 6)])] [],.ret (.tup [(.ix (.lst [(.c (.str (W "and"))),(.c (.str (W "or"))),(.c (.str (W "then"))),(.c (.str (W "same")))]) (.bin .sub (.v 5) (.c (.int 5)))),(.v 6),(.call is [(.v 0),(.v 1),(.v 2),(.bin .sub (.v 3) (.c (.int 1))),(.v 4)])])] P [some (.bO (ns.map .int)),some (.ref a),some (.tup (names.map .str)),some (.int ((n+1:Nat):Int)),some (.ref b),some (.int v),none] aC:=by
   intro P hQ
   walk_at"st"
   rw[hn1]
   refine ih a1 b1 (by omega) hl fun s1 aF i2 o1 d1 cc1 k2 hi2 a2 b2=>?_
   walk_at"st"
   have hor:((v==4)||decide (8<v))=true∨(v=5∨v=6∨v=7∨v=8):=by
    by_cases q:v=4
    ·left;simp [q]
    ·by_cases q':8<v
     ·left;simp [q']
     ·right;omega
   rcases hor with hor|hor
   ·have go:cY (aI G (k+n+4)) G.sub [.ret (.tup [.c (.str (W "not")),.v 6])] { P with nx:=cY (aI G (k+n+4)) G.sub [.ret (.tup [(.ix (.lst [(.c (.str (W "and"))),(.c (.str (W "or"))),(.c (.str (W "then"))),(.c (.str (W "same")))]) (.bin .sub (.v 5) (.c (.int 5)))),(.v 6),(.call is [(.v 0),(.v 1),(.v 2),(.bin .sub (.v 3) (.c (.int 1))),(.v 4)])])] P } [some (.bO (ns.map .int)),some (.ref a),some (.tup (names.map .str)),some (.int ((n+1:Nat):Int)),some (.ref b),some (.int v),some (toD s1)] aF:=by
     walk_at"st"
     exact hQ (.one .not s1) aF i2 o1 (by simp only[aR];omega) (by simp [cnt,p1];omega) (kk.trans k2) hi2 a2 (by simpa [cnt,p1]using b2)
    by_cases q:v=4
    ·simp only[q,beq_self_eq_true,if_true]
     rw[q]at go;exact go
    ·have q1:(v==4)=false:=by rw[beq_eq_false_iff_ne];exact q
     have q2:8<v:=by simpa [q1]using hor
     simp only[q1,q2,aq,if_false,if_true]
     exact go
   ·have q1:(v==4)=false:=by rw[beq_eq_false_iff_ne];omega
    have q2:¬8<v:=by omega
    simp only[q1,q2,aq,if_false,aO]
    walk_at"st"
    refine cG (by decide) fun p aX x3 hp hp3=>?_
    walk_at"ex"
    rw[eO hp3]
    have pa:p≠a:=fun z=>by rw[z,a2]at hp;cases hp
    have pb:p≠b:=fun z=>by rw[z,b2]at hp;cases hp
    have step:∀ w:W2,p2 w=false->∀{Q:VK},(∀ s aA i',over names s->aR s<=n+1+1->(cnt s:Int)<=l->bL [a,b] st aA->0<=i'->aA a=some (.lst [.int i'])->aA b=some (.lst [.int (l-cnt s)])->Q (toD s) aA) ->
      aI G (k+n+4) is [.bO (ns.map .int),.ref a,.tup (names.map .str),.int (((n+1:Nat):Int)-1),.ref b] aX (fun d aA=>Q (.tup [.str (c2 w),toD s1,d]) aA) fun c aA=>P.ex c [some (.bO (ns.map .int)),some (.ref a),some (.tup (names.map .str)),some (.int ((n+1:Nat):Int)),some (.ref b),some (.int v),some (toD s1)] aA:=by
     intro w hw Q hQ
     rw[hn1]
     refine ih (x3 a _ a2) (x3 b _ b2) hi2 (by omega) fun s2 cN i4 o2 d2 c2' k4 hi4 a4 b4=>?_
     refine hQ (.two w s1 s2) cN i4 ⟨o1,o2⟩ (by simp only[aR];omega) (by simp only[cnt,hw];simp;omega) ((kk.trans k2).trans (x3.keep.trans k4)) hi4 a4 ?_
     rw[b4];simp only[cnt,hw];simp;omega
    rcases hor with rfl|rfl|rfl|rfl
    ·walk_at"ex"; exact step .and rfl hQ
    ·walk_at"ex"; exact step .or rfl hQ
    ·walk_at"ex"; exact step .bD rfl hQ
    ·walk_at"ex"; exact step .same rfl hQ
  by_cases h8:8<v
  ·simp only[h8,if_true]
   rw[eO b1]
   walk_at"ex"
   by_cases hl0:0<l
   ·simp only[hl0,if_true]
    walk_at"st"
    rw[eO b1]
    walk_at"ex"
    rw[aE b1]
    simp only[Y7,bF,di]
    have a2:(put aC b (.lst [.int (l-1)])) a=some (.lst [.int (i+1)]):=by rw[aM eD];exact a1
    have kp:bL [a,b] st (put aC b (.lst [.int (l-1)])):=kk.trans (bL.put (by simp))
    walk_at"st"
    rw[hn1]
    refine ih a2 aQ (by omega) (by omega) fun s1 aF i2 o1 d1 cc1 k2 hi2 a3 b3=>?_
    walk_at"st"
    by_cases e12:v=12
    ·simp only[e12,beq_self_eq_true,if_true]
     walk_at"st"
     rw[hn1]
     refine ih a3 b3 hi2 (by omega) fun s2 cN i4 o2 d2 c2' k4 hi4 a4 b4=>?_
     refine hQ (.two .since s1 s2) cN i4 ⟨o1,o2⟩ (by simp only[aR];omega) (by simp [cnt,p2];omega) ((kp.trans k2).trans k4) hi4 a4 ?_
     rw[b4];simp [cnt,p2];omega
    ·have e12':(v==12)=false:=by rw[beq_eq_false_iff_ne];exact e12
     simp only[e12',aq,if_false,aO]
     walk_at"st"
     refine cG (by decide) fun p aX x3 hp hp3=>?_
     walk_at"ex"
     rw[eO hp3]
     have fin:∀ w:W1,p1 w=true->Q (.tup [.str (c1 w),toD s1]) aX:=fun w hw=>by
      refine hQ (.one w s1) aX i2 o1 (by simp only[aR];omega) (by simp [cnt,hw];omega) ((kp.trans k2).trans x3.keep) hi2 (x3 _ _ a3) ?_
      rw[x3 _ _ b3];simp [cnt,hw];omega
     obtain rfl|rfl|rfl:v=9∨v=10∨v=11:=by omega
     ·walk_at"ex"; exact fin .before rfl
     ·walk_at"ex"; exact fin .once rfl
     ·walk_at"ex"; exact fin .sofar rfl
   ·simp only[hl0,if_false,aO]
    exact plain hQ
  ·simp only[h8,if_false,aO]
   exact plain hQ
end
noncomputable def pX:List (List Nat):=[W "a", W "b", W "x", W "y", W "lamp", W "far", W "yesno", W "abcdefgh"]
noncomputable def vU (fs gs:List (List Nat)):Bool:=decide (1<=fs.length)&&decide (fs.length<=2)&&decide (1<=gs.length)&&decide (gs.length<=2)&&decide ((fs++gs).Nodup)&&(fs++gs).all fun n=>pX.contains n
noncomputable def rE (t:Int):List (List Nat):=cut pX (some t) none++cut pX none (some t)
theorem VG:∀(t:Fin 8)(f g:Fin 2),vU (cut (rE (t.val:Nat)) none (some (1+(f.val:Nat)))) (cut (rE (t.val:Nat)) (some (1+(f.val:Nat))) (some (1+(f.val:Nat)+(1+(g.val:Nat)))))=true:=by decide +kernel
theorem VI {t f g:Int}(h0:0<=t)(h1:t<8)(h2:0<=f)(h3:f<2)(h4:0<=g)(h5:g<2):vU (cut (rE t) none (some (1+f))) (cut (rE t) (some (1+f)) (some (1+f+(1+g))))=true:=by
 have:=VG ⟨t.toNat,by omega⟩ ⟨f.toNat,by omega⟩ ⟨g.toNat,by omega⟩
 simp only[qm h0,qm h2,qm h4]at this
 exact this
theorem BX {α β:Type}(f:α->β)(xs:List α)(lo hi:Option Int):cut (xs.map f) lo hi=(cut xs lo hi).map f:=by
 simp only[cut,ab,List.map_take,List.map_drop]
noncomputable def ES (dM:Nat):Fn:=⟨2,7,[.asg (.nm 2) (.lst [(.c (.str (W "a"))),(.c (.str (W "b"))),(.c (.str (W "x"))),(.c (.str (W "y"))),(.c (.str (W "lamp"))),(.c (.str (W "far"))),(.c (.str (W "yesno"))),(.c (.str (W "abcdefgh")))]),.asg (.nm 3) (.call dM [(.v 0),(.v 1),(.c (.int 8))]),.asg (.nm 4) (.bin .add (.sl (.v 2) [(.v 3)] []) (.sl (.v 2) [] [(.v 3)])),.asg (.nm 5) (.bin .add (.c (.int 1)) (.call dM [(.v 0),(.v 1),(.c (.int 2))])),.asg (.nm 6) (.bin .add (.c (.int 1)) (.call dM [(.v 0),(.v 1),(.c (.int 2))])),.ret (.tup [(.bi .tuple [(.sl (.v 4) [] [(.v 5)])]),(.bi .tuple [(.sl (.v 4) [(.v 5)] [(.bin .add (.v 5) (.v 6))])])])]⟩
section
variable {G:Prog}{k ic im dM is:Nat}{st:aB}{Q:VK}{E:XK}{ns:List Int}
theorem WC {inm:Nat}(hm':G.fns inm=some (ES dM))(hn:G.fns dM=some (uI im))(hm:G.fns im=some (nY ic))(hc:G.fns ic=some pU){a:Nat}{i:Int}(ha:st a=some (.lst [.int i]))(hi:0<=i)
  (hQ:∀ fs gs aA i',vU fs gs=true->bL [a] st aA->0<=i'->aA a=some (.lst [.int i'])->Q (.tup [.tup (fs.map .str),.tup (gs.map .str)]) aA):
  aI G (k+4) inm [.bO (ns.map .int),.ref a] st Q E:=by
 have hL:bH=16777216:=rfl
 rw[bA hm']
 simp only[ES,start]
 refine⟨rfl,?_⟩
 walk_at"st"
 refine cG (by decide) fun p aC x1 hp hp1=>?_
 have pa:p≠a:=fun z=>by rw[z,ha]at hp;cases hp
 walk_at"st"
 refine gF hn hm hc (x1 a _ ha) hi (by omega) fun aF k2 a2=>?_
 have t0:=iD (ns:=ns) (k:=i+1) (many:=8) (by omega)
 have t1:=iE (ns:=ns) (k:=i+1) (many:=8) (by omega)
 generalize lG ns (i+1) 8=t at t0 t1
 have p2:=k2 p _ (by simpa using pa) hp1
 walk_at"st"
 rw[aE p2]
 intro q hq
 have x3:Ext aF (put aF q (.lst (cut [.str (W "a"),.str (W "b"),.str (W "x"),.str (W "y"),.str (W "lamp"),.str (W "far"),.str (W "yesno"),.str (W "abcdefgh")] (some t) none))):=Ext.new hq
 walk_at"ex"
 rw[aE (x3 p _ p2)]
 intro q' hq'
 have x4:=Ext.new (o:=.lst (cut [.str (W "a"),.str (W "b"),.str (W "x"),.str (W "y"),.str (W "lamp"),.str (W "far"),.str (W "yesno"),.str (W "abcdefgh")] none (some t))) hq'
 walk_at"ex"
 rw[aE (x4 q _ aQ),aE aQ]
 have eL:([.str (W "a"),.str (W "b"),.str (W "x"),.str (W "y"),.str (W "lamp"),.str (W "far"),.str (W "yesno"),.str (W "abcdefgh")]:List D)=pX.map .str:=rfl
 have er:cut ([.str (W "a"),.str (W "b"),.str (W "x"),.str (W "y"),.str (W "lamp"),.str (W "far"),.str (W "yesno"),.str (W "abcdefgh")]:List D) (some t) none++cut [.str (W "a"),.str (W "b"),.str (W "x"),.str (W "y"),.str (W "lamp"),.str (W "far"),.str (W "yesno"),.str (W "abcdefgh")] none (some t)=(rE t).map .str:=by
  rw[eL,BX,BX,<-dg];rfl
 have lr:(rE t).length<=16:=by
  have l1:=BV (xs:=pX) (lo:=some t) (hi:=none)
  have l2:=BV (xs:=pX) (lo:=none) (hi:=some t)
  have l3:pX.length=8:=rfl
  simp only[rE,bp];omega
 rw[er]
 refine cG (by simp only[ab];omega) fun r dF x5 hr hr5=>?_
 have k5:bL [a] st dF:=((x1.keep.trans k2).trans x3.keep).trans (x4.keep.trans x5.keep)
 have a5:dF a=some (.lst [.int (i+1)]):=x5 _ _ (x4 _ _ (x3 _ _ a2))
 have ra:r≠a:=fun z=>by rw[z,x4 _ _ (x3 _ _ a2)]at hr;cases hr
 walk_at"st"
 refine gF hn hm hc a5 (by omega) (by omega) fun gS k6 a6=>?_
 have f0:=iD (ns:=ns) (k:=i+1+1) (many:=2) (by omega)
 have f1:=iE (ns:=ns) (k:=i+1+1) (many:=2) (by omega)
 generalize lG ns (i+1+1) 2=f at f0 f1
 walk_at"ex"
 walk_at"st"
 refine gF hn hm hc a6 (by omega) (by omega) fun lF k7 a7=>?_
 have g0:=iD (ns:=ns) (k:=i+1+1+1) (many:=2) (by omega)
 have g1:=iE (ns:=ns) (k:=i+1+1+1) (many:=2) (by omega)
 generalize lG ns (i+1+1+1) 2=g at g0 g1
 have r7:lF r=some (.lst ((rE t).map .str)):=k7 r _ (by simpa using ra) (k6 r _ (by simpa using ra) hr5)
 walk_at"ex"
 walk_at"st"
 rw[aE r7]
 intro u hu
 walk_at"ex"
 rw[aE aQ]
 have xu:=Ext.new (o:=.lst (cut ((rE t).map D.str) none (some (1+f)))) hu
 have c1:=BV (xs:=(rE t).map D.str) (lo:=none) (hi:=some (1+f))
 have c2:=BV (xs:=(rE t).map D.str) (lo:=some (1+f)) (hi:=some (1+f+(1+g)))
 simp only[ab]at c1 c2
 refine⟨by omega,?_⟩
 rw[aE (xu r _ r7)]
 intro u' hu'
 walk_at"ex"
 rw[aE aQ]
 refine⟨by omega,?_⟩
 have xu':=Ext.new (o:=.lst (cut ((rE t).map D.str) (some (1+f)) (some (1+f+(1+g))))) hu'
 rw[BX,BX]at *
 exact hQ _ _ _ (i+1+1+1) (VI t0 t1 f0 f1 g0 g1) ((k5.trans (k6.trans k7)).trans (xu.keep.trans xu'.keep)) (by omega) (xu' _ _ (xu _ _ a7))
end
mutual
theorem Cd:∀ d:D,bK d=true->bM d d=true
 |.non,_=>rfl
 |.bl b,_=>by simp [bM]
 |.int i,_=>by simp [bM]
 |.str x,_=>by simp [bM]
 |.tup ds,h=>by simp only[bK]at h;simp only[bM];exact DI ds h
 |.ref _,h=>by simp [bK]at h
 |.dE _ _,h=>by simp [bK]at h
 |.bO _,h=>by simp [bK]at h
 |.exc _,h=>by simp [bK]at h
theorem DI:∀ ds:List D,bY ds=true->gB ds ds=true
 |[],_=>rfl
 |d::ds,h=>by
  simp only[bY,aw]at h
  simp only[gB,Cd d h.1,DI ds h.2,eu]
end
theorem Ge (w w':W1):(c1 w==c1 w')=decide (w=w'):=by cases w<;>cases w'<;>decide +kernel
theorem Fq (w w':W2):(c2 w==c2 w')=decide (w=w'):=by cases w<;>cases w'<;>decide +kernel
theorem OJ (w:W1):(W "lamp" == c1 w)=false/\(c1 w==W "lamp")=false:=by cases w<;>decide +kernel
theorem cX {st:aB}{as bs:List D}:bV st (.tup as) (.tup bs)=kQ st as bs:=by simp only[bV]
theorem cE {st:aB}{a b:D}{as bs:List D}:kQ st (a::as) (b::bs)=(bV st a b&&kQ st as bs):=by simp only[kQ]
theorem sH {st:aB}:kQ st [] []=true:=rfl
theorem nG {st:aB}{b:D}{bs:List D}:kQ st [] (b::bs)=false:=rfl
theorem nR {st:aB}{b:D}{bs:List D}:kQ st (b::bs) []=false:=rfl
theorem U3:(W "yes" == W "no")=false/\(W "no" == W "yes")=false:=by decide +kernel
theorem rU {st:aB}:∀ s t:Sy,bV st (toD s) (toD t)=decide (s=t)
 |.yes,.yes=>by simp only[toD,cX,cE,iX,sH,beq_self_eq_true,eu,decide_true]
 |.yes,.no=>by simp only[toD,cX,cE,iX,U3.1,ij];rfl
 |.yes,.cQ _=>by simp only[toD,cX,cE,nG,cq];rfl
 |.yes,.one _ _=>by simp only[toD,cX,cE,nG,cq];rfl
 |.yes,.two _ _ _=>by simp only[toD,cX,cE,nG,cq];rfl
 |.no,.yes=>by simp only[toD,cX,cE,iX,U3.2,ij];rfl
 |.no,.no=>by simp only[toD,cX,cE,iX,sH,beq_self_eq_true,eu,decide_true]
 |.no,.cQ _=>by simp only[toD,cX,cE,nG,cq];rfl
 |.no,.one _ _=>by simp only[toD,cX,cE,nG,cq];rfl
 |.no,.two _ _ _=>by simp only[toD,cX,cE,nG,cq];rfl
 |.cQ _,.yes=>by simp only[toD,cX,cE,nR,cq];rfl
 |.cQ _,.no=>by simp only[toD,cX,cE,nR,cq];rfl
 |.cQ m,.cQ n=>by
  simp only[toD,cX,cE,sH,iX,beq_self_eq_true,xy,ke,Sy.cQ.injEq]
  rw[Bool.beq_eq_decide_eq]
 |.cQ m,.one w s=>by simp only[toD,cX,cE,iX,(OJ w).1,ij];rfl
 |.cQ _,.two _ _ _=>by simp only[toD,cX,cE,nG,cq];rfl
 |.one _ _,.yes=>by simp only[toD,cX,cE,nR,cq];rfl
 |.one _ _,.no=>by simp only[toD,cX,cE,nR,cq];rfl
 |.one w s,.cQ m=>by simp only[toD,cX,cE,iX,(OJ w).2,ij];rfl
 |.one w s,.one w' s'=>by
  simp only[toD,cX,cE,sH,iX,Ge,rU s s',xy,Sy.one.injEq]
  by_cases h:w=w'<;>by_cases h':s=s'<;>simp [h,h']
 |.one _ _,.two _ _ _=>by simp only[toD,cX,cE,nG,cq];rfl
 |.two _ _ _,.yes=>by simp only[toD,cX,cE,nR,cq];rfl
 |.two _ _ _,.no=>by simp only[toD,cX,cE,nR,cq];rfl
 |.two _ _ _,.cQ _=>by simp only[toD,cX,cE,nR,cq];rfl
 |.two _ _ _,.one _ _=>by simp only[toD,cX,cE,nR,cq];rfl
 |.two w s t,.two w' s' t'=>by
  simp only[toD,cX,cE,sH,iX,Fq,rU s s',rU t t',xy,Sy.two.injEq]
  by_cases h:w=w'<;>by_cases h':s=s'<;>by_cases h'':t=t'<;>simp [h,h',h'']
theorem OX {st:aB}(x:Sy)(f:List Sy):((f.map toD).any fun d=>bV st d (toD x))=f.contains x:=by
 induction f with
 |nil=>rfl
 |cons y r ih =>
 simp only[ay,kf,ih,rU,nj]
 congr 1
 by_cases h:y=x
 ·simp [h]
 ·simp [h,ey h]
theorem TL (f:List Sy):bY (f.map toD)=true:=by
 induction f with
 |nil=>rfl
 |cons x r ih=>simp only[ay,bY,mZ,ih,eu]
theorem VT {n:Nat}(f:List Sy)(h:∀ s∈f,aR s<=n):cW (f.map toD)<=n:=by
 induction f with
 |nil=>exact dm _
 |cons x r ih =>
 simp only[ay,cW,rV]
 have:=h x (by simp)
 have:=ih fun s hs=>h s (by simp [hs])
 omega
theorem JH {st:aB}{s:Sy}(h:aR s<=60):plainS st (toD s):=⟨sE _ (mZ s),c7 (by rw[rV];exact h) (by decide)⟩
theorem EU {st:aB}{f:List Sy}(h:∀ s∈f,aR s<=60):dR st (f.map toD):=⟨qF _ (TL f),c7 (VT f h) (by decide)⟩
noncomputable def wd:Sy->List Nat
 |.yes=>W "yes"
 |.no=>W "no"
 |.cQ _=>W "lamp"
 |.one w _=>c1 w
 |.two w _ _=>c2 w
noncomputable def subs:Sy->List Sy
 |.one _ s=>[s]
 |.two _ s t=>[s,t]
 |_=>[]
noncomputable def bR:Sy->Bool
 |.one w _=>p1 w
 |.two w _ _=>p2 w
 |_=>false
noncomputable def fY:Sy->Bool
 |.cQ _=>true
 |_=>false
theorem qH (s:Sy):∃ r,toD s=.tup (.str (wd s)::r):=by cases s<;>exact⟨_,rfl⟩
theorem WL {s:Sy}(h:fY s=false):toD s=.tup (.str (wd s)::(subs s).map toD):=by cases s<;>first|rfl|cases h
noncomputable def oI:List (List Nat):=[W "before", W "once", W "sofar", W "since"]
theorem GK (s:Sy):oI.contains (wd s)=bR s:=by
 cases s with
 |one w s=>cases w<;>(simp only[wd,bR];decide +kernel)
 |two w s t=>cases w<;>(simp only[wd,bR];decide +kernel)
 |_=>(simp only[wd,bR];decide +kernel)
theorem FL (s:Sy):(wd s==W "lamp")=fY s:=by
 cases s with
 |one w s=>cases w<;>(simp only[wd,fY];decide +kernel)
 |two w s t=>cases w<;>(simp only[wd,fY];decide +kernel)
 |_=>(simp only[wd,fY];decide +kernel)
noncomputable def eY (f:List Sy)(s:Sy):List Sy:=if bR s && !f.contains s then f++[s]else f
noncomputable def aK:Sy->List Sy->List Sy
 |.one w s,f=>aK s (eY f (.one w s))
 |.two w s t,f=>aK t (aK s (eY f (.two w s t)))
 |_,f=>f
noncomputable def cF:List Sy->List Sy->List Sy
 |[],f=>f
 |s::r,f=>cF r (aK s f)
theorem Jf (s:Sy)(f:List Sy):aK s f=cF (subs s) (eY f s):=by
 cases s<;>simp [aK,subs,cF,eY,bR]
theorem NH (a b:List Sy)(f:List Sy):cF (a++b) f=cF b (cF a f):=by
 induction a generalizing f with
 |nil=>rfl
 |cons x r ih=>simp only[b7,cF,ih]
theorem SR (s:Sy)(r f:List Sy):cF (s::r) f=cF (subs s++r) (eY f s):=by rw[NH,<-Jf];rfl
noncomputable def sz:Sy->Nat
 |.one _ s=>sz s+1
 |.two _ s t=>sz s+sz t+1
 |_=>1
noncomputable def fN (l:List Sy):Nat:=(l.map sz).sum
theorem J4:∀ s:Sy,sz s+1<=2 ^ aR s
 |.yes=>by decide
 |.no=>by decide
 |.cQ _=>by simp only[sz,aR];decide
 |.one w s=>by have:=J4 s;simp only[sz,aR,zf];omega
 |.two w s t=>by
  have h1:=J4 s
  have h2:=J4 t
  have a:=fk (n:=2) (by omega) (vw (aR s) (aR t))
  have b:=fk (n:=2) (by omega) (uu (aR s) (aR t))
  simp only[sz,aR,zf];omega
theorem OS (s:Sy):fN (subs s)+1=sz s:=by cases s<;>simp [subs,fN,sz]
theorem DB {s t:Sy}(h:t∈subs s):aR t<aR s:=by cases s<;>simp [subs]at h<;>simp only[aR]<;>(try rcases h with rfl|rfl)<;>(try subst h)<;>omega
theorem C6 {f:List Sy}{s:Sy}{n:Nat}(h:∀ x∈f,aR x<=n)(hs:aR s<=n):∀ x∈eY f s,aR x<=n:=by
 unfold eY
 split
 ·intro x hx
  rcases List.mem_append.mp hx with hx|hx
  ·exact h x hx
  ·simp at hx;subst hx;exact hs
 ·exact h
theorem WS (f:List Sy)(s:Sy):(eY f s).length<=f.length+1:=by unfold eY;split<;>simp
theorem BH:∀(s:Sy){f:List Sy}{n:Nat},(∀ x∈f,aR x<=n)->aR s<=n->∀ x∈aK s f,aR x<=n
 |.yes,_,_,h,_=>h
 |.no,_,_,h,_=>h
 |.cQ _,_,_,h,_=>h
 |.one w s,f,n,h,hs=>BH s (C6 h hs) (by simp only[aR]at hs;omega)
 |.two w s t,f,n,h,hs=>BH t (BH s (C6 h hs) (by simp only[aR]at hs;omega)) (by simp only[aR]at hs;omega)
noncomputable def fQ:Fn:=⟨1,1,[.iff (.cmp .eq (.ix (.v 0) (.c (.int 0))) (.c (.str (W "lamp")))) [.ret (.tup [])] [],.ret (.sl (.v 0) [(.c (.int 1))] [])]⟩
noncomputable def xF:D:=.tup (oI.map .str)
noncomputable def gM (iw:Nat):Fn:=⟨1,4,[.asg (.nm 1) (.lst []),.asg (.nm 2) (.bit .list .rev [(.v 0)]),.whl (.v 2) [.asg (.nm 3) (.cT .pop (.v 2) []),.iff (.and_ (.cmp .in_ (.ix (.v 3) (.c (.int 0))) (.c xF)) (.cmp .kX (.v 3) (.v 1))) [.ex (.cT .append (.v 1) [(.v 3)])] [],.ex (.cT .extend (.v 2) [(.bit .list .rev [(.call iw [(.v 3)])])])],.ret (.v 1)]⟩
section
variable {G:Prog}{k ip iw:Nat}{st:aB}{Q:VK}{E:XK}
theorem uK (hw:G.fns iw=some fQ){s:Sy}(hQ:Q (.tup ((subs s).map toD)) st):aI G (k+1) iw [toD s] st Q E:=by
 rw[bA hw]
 simp only[fQ,start]
 refine⟨rfl,?_⟩
 obtain⟨r,er⟩:=qH s
 walk_at"st"
 rw[er]
 walk_at"ex"
 rw[FL,<-er]
 cases h:fY s with
 |true =>
 simp only[if_true]
 walk_at"st"
 cases s<;>first|exact hQ|cases h
 |false =>
 simp only[aq,if_false,aO]
 walk_at"st"
 rw[WL h]
 walk_at"ex"
 exact hQ
end
theorem EC {C:bE}{sub:Nat->Nat->Bool}(hC:bZ C C){c:Ex}{b:List Sx}{P:gZ}(I:Nat->St->aB->Prop)
  (step:∀ m σ st,I m σ st->aG C sub (fun c aA=>P.ex c σ aA) c σ st fun d aA=>eS d aA fun k =>
   if k=true then cY C sub b { P with nx:=fun σ st=>∃ m',m'<m/\I m' σ st,ct:=fun σ st=>∃ m',m'<m/\I m' σ st,bk:=P.nx } σ aA else P.nx σ aA){m:Nat}{σ:St}{st:aB}(h:I m σ st):wpS C sub (.whl c b) P σ st:=by
 refine⟨m+1,?_⟩
 have key:∀(n m:Nat)(σ:St)(st:aB),m<n->I m σ st->qC (fun next σ st=>aG C sub (fun c aA=>P.ex c σ aA) c σ st fun d aA=>eS d aA fun k =>
   if k=true then cY C sub b { P with nx:=next,ct:=next,bk:=P.nx } σ aA else P.nx σ aA) n σ st:=by
  intro n
  induction n with
  |zero=>intro m σ st h;omega
  |succ n ih =>
   intro m σ st hm hI
   refine aY hC (fun _ _ z=>z) c (fun d aA=>kB fun k=>?_) (step m σ st hI)
   split
   ·exact jA hC b ⟨fun σ st ⟨m',h1,h2⟩=>ih m' σ st (by omega) h2,fun _ _ z=>z,fun _ _ z=>z,fun σ st ⟨m',h1,h2⟩=>ih m' σ st (by omega) h2,fun _ _ _ z=>z⟩
   ·exact id
 exact key (m+1) m σ st (by omega) h
section
variable {G:Prog}{k ip iw iz:Nat}{st:aB}{Q:VK}{E:XK}
theorem kK (s:Sy)(r:List Sy):fN (s::r)=sz s+fN r:=by simp [fN]
theorem mH (a b:List Sy):fN (a++b)=fN a+fN b:=by simp [fN]
theorem SO (s:Sy):0<sz s:=by cases s<;>simp [sz]
theorem FX (r:List Sy):r.length<=fN r:=by
 induction r with
 |nil=>simp
 |cons s r ih=>have:=SO s;simp only[kK,bf];omega
theorem zG (hz:G.fns iz=some (gM iw))(hw:G.fns iw=some fQ){l:Nat}{ss:List Sy}(hl:st l=some (.lst (ss.map toD)))(hd:∀ x∈ss,aR x<=60)(hs:fN ss<bH)
  (hQ:∀ p aA,Ext st aA->aA p=some (.lst ((cF ss []).map toD))->Q (.ref p) aA):aI G (k+2) iz [.ref l] st Q E:=by
 rw[bA hz]
 simp only[gM,start]
 refine⟨rfl,?_⟩
 walk_at"st"
 refine cG (by decide) fun p aC x1 hp hp1=>?_
 walk_at"st"
 rw[aE (x1 l _ hl)]
 refine cG (by have:=FX ss;simp only[qo,ab];omega) fun q aF x2 hq hq2=>?_
 have hpq:p≠q:=fun z=>by rw[z]at hp1;rw[hq]at hp1;cases hp1
 have p2:=x2 p _ hp1
 try dsimp only
 refine gL ?_
 refine EC (kC G (az _)) (fun m σ aA=>∃(stack f:List Sy)(o:Option D),σ=[some (.ref l),some (.ref p),some (.ref q),o]/\aA p=some (.lst (f.map toD))/\aA q=some (.lst (stack.map toD).reverse)/\fN stack=m /\
  (∀ x∈stack,aR x<=60)/\(∀ x∈f,aR x<=60)/\f.length+fN stack<bH/\cF stack f=cF ss []/\Ext st aA) ?_ (m:=fN ss) ⟨ss,[],none,rfl,p2,hq2,rfl,hd,by simp,by simpa using hs,rfl,fun a o e=>x2 a o (x1 a o e)⟩
 rintro m σ aX ⟨stack,f,o,rfl,hp3,hq3,hm,hds,hdf,hlen,fK,x3⟩
 walk_at"ex"
 rw[ZM,fF hq3]
 cases stack with
 |nil =>
  simp only[fe,List.reverse_nil,uq,fq,aq,if_false]
  walk_at"st"
  refine hQ p aX x3 ?_
  rw[<-fK];exact hp3
 |cons s r =>
  have hne:(!((p9 toD (s::r)).reverse).isEmpty)=true:=by simp
  rw[hne]
  simp only[if_true]
  have hds':=hds s (by simp)
  rw[kK]at hm hlen
  have hsp:=SO s
  have hss:=OS s
  walk_at"st"
  rw[aE hq3]
  refine⟨trivial,?_⟩
  rw[aE hq3]
  have elast:((p9 toD (s::r)).reverse)[((p9 toD (s::r)).reverse).length-1]? = some (toD s):=by
   simp only[ay,i7,bp,bf,be]
   rw[cp (by simp)]
   simp
  have edrop:((p9 toD (s::r)).reverse).dropLast=(r.map toD).reverse:=by simp
  rw[elast,edrop,bF]
  try dsimp only
  have hp4:(put aX q (.lst (r.map toD).reverse)) p=some (.lst (f.map toD)):=by rw[aM hpq];exact hp3
  have hx4:Ext st (put aX q (.lst (r.map toD).reverse)):=fun a u e=>by
   by_cases ha:a=q
   ·exfalso
    rw[ha]at e
    rw[x1 q _ e]at hq;cases hq
   ·rw[aM ha];exact x3 a u e
  have head:∀{P:gZ}{cN:aB}{rest:List Sx},cN p=some (.lst (f.map toD)) ->
    (∀ aA,bL [p] cN aA->aA p=some (.lst ((eY f s).map toD))->cY (aI G (k+1)) G.sub rest P [some (.ref l),some (.ref p),some (.ref q),some (toD s)] aA) ->
    cY (aI G (k+1)) G.sub ((.iff (.and_ (.cmp .in_ (.ix (.v 3) (.c (.int 0))) (.c xF)) (.cmp .kX (.v 3) (.v 1))) [.ex (.cT .append (.v 1) [(.v 3)])] [])::rest) P [some (.ref l),some (.ref p),some (.ref q),some (toD s)] cN:=by
   intro P cN rest hb hN
   obtain⟨rr,er⟩:=qH s
   walk_at"st"
   rw[er]
   simp only[xF]
   walk_at"ex"
   rw[<-er]
   refine⟨(pW oI).s,?_⟩
   have e1:(Wo (oI.map .str) fun d=>bV cN d (.str (wd s)))=bR s:=(yH (wd s) oI).trans (GK s)
   rw[e1]
   cases hpp:bR s with
   |false =>
    simp only[aq,if_false,aO]
    refine hN cN .refl ?_
    simp only[eY,hpp,ij,aq,if_false]
    exact hb
   |true =>
    simp only[if_true]
    rw[NY,fF hb,OX]
    refine⟨JH hds',EU hdf,?_⟩
    cases hc:f.contains s with
    |true =>
     simp only[fq,aq,if_false,aO]
     refine hN cN .refl ?_
     simp only[eY,hpp,hc,fq,cq,aq,if_false]
     exact hb
    |false =>
     simp only[kj,if_true]
     walk_at"st"
     rw[aE hb]
     refine⟨trivial,?_⟩
     rw[aE hb]
     refine⟨by simp only[ab];omega,?_⟩
     rw[aO]
     refine hN _ (bL.put (by simp)) ?_
     rw[aQ]
     simp only[eY,hpp,hc,kj,eu,if_true,dg,ay,fe]
  refine head hp4 fun dF k5 hp5=>?_
  have hq5:dF q=some (.lst (r.map toD).reverse):=k5 q _ (by simpa using ey hpq) aQ
  have hx5:Ext st dF:=fun a u e=>by
   by_cases ha:a=p
   ·exfalso
    rw[ha]at e;rw[hp]at e;cases e
   ·exact k5 a u (by simpa using ha) (hx4 a u e)
  walk_at"st"
  rw[aE hq5]
  refine⟨trivial,uK hw ?_⟩
  walk_at"ex"
  have hsl:=FX (subs s)
  have hrl:=FX r
  refine cG (by simp only[qo,ab];omega) fun u gS x6 hu hu6=>?_
  walk_at"ex"
  rw[aE (x6 q _ hq5),aE hu6]
  refine⟨by simp only[qo,ab];omega,?_⟩
  rw[aO]
  dsimp only
  refine⟨fN (subs s++r),by rw[mH];omega,subs s++r,eY f s,_,rfl,?_,?_,rfl,fun x hx=>?_,C6 hdf hds',?_,?_,fun a v e=>?_⟩
  ·rw[aM hpq];exact x6 p _ hp5
  ·rw[aQ];simp
  ·rcases List.mem_append.mp hx with hx|hx
   ·have:=DB hx;omega
   ·exact hds x (by simp [hx])
  ·have:=WS f s;rw[mH];omega
  ·rw[<-SR];exact fK
  ·by_cases ha:a=q
   ·exfalso
    rw[ha]at e
    rw[x1 q _ e]at hq;cases hq
   ·rw[aM ha];exact x6 a v (hx5 a v e)
end
noncomputable def gE:List (List Nat):=[W "yes", W "no", W "not", W "and", W "or", W "then", W "same", W "before", W "once", W "sofar", W "since", W "foe", W "friend", W "promise", W "must", W "wish"]
noncomputable def fP:List Nat:=W "abcdefghijklmnopqrstuvwxyz"
noncomputable def jW (nn lt lg:D):Fn:=⟨1,1,[.iff (.or_ (.not_ (.isi (.v 0) [.str])) (.cmp .in_ (.v 0) (.c nn))) [.ret (.c (.bl false))] [],.ret (.and_ (.chain .le .le (.c (.int 1)) (.bi .len [(.v 0)]) (.c lg)) (.bi .all [(.comp 1 [] [0] true none [(.v 0)] [] (.cmp .in_ (.v 0) (.c lt)))]))]⟩
noncomputable def fT (w:List Nat):Bool:=!(gE.any (·== w))&&decide (1<=w.length)&&decide (w.length<=8)&&w.all fun c=>occurs [c] fP
section
variable {G:Prog}{k i:Nat}{st:aB}{Q:VK}{E:XK}
theorem ZP (st:aB)(w:List Nat):((gE.map D.str).any fun d=>bV st d (.str w))=gE.any (·== w):=by
 rw[kz];rfl
theorem U2 (st:aB):dR st (gE.map D.str):=⟨rfl,by decide⟩
noncomputable def YA:D->Bool
 |.str x=>occurs x fP
 |_=>false
theorem HL:∀(w:List Nat),boolsOf ((w.map fun c=>D.str [c]).map fun d=>.bl (YA d))=some (w.map fun c=>occurs [c] fP)
 |[]=>rfl
 |c::r=>by
  show(boolsOf ((r.map fun c=>D.str [c]).map fun d=>.bl (YA d))).map (_ :: ·)=_
  rw[HL r];rfl
set_option tactic.hygienic true in
theorem ET (h:G.fns i=some (jW (.tup (gE.map .str)) (.str fP) (.int 8))){w:List Nat}(hw:w.length<=bH)(hQ:∀ aA,Ext st aA->Q (.bl (fT w)) aA):aI G (k+1) i [.str w] st Q E:=by
 have hL:bH=16777216:=rfl
 rw[bA h]
 simp only[jW,start]
 refine⟨rfl,?_⟩
 walk_at"st"
 refine⟨U2 st,?_⟩
 rw[ZP]
 cases c1:gE.any (·== w)with
 |true =>
  simp only[if_true]
  walk_at"st"
  have e:fT w=false:=by simp [fT,c1]
  rw[<-e];exact hQ _ (fun _ _ z=>z)
 |false =>
  simp only[aq,if_false]
  rw[aO]
  walk_at"st"
  refine⟨hw,?_⟩
  split
  ·rename_i g1
   split
   ·rename_i g2
    refine⟨hw,?_⟩
    refine comp_map (fun d=>.bl (YA d)) _ [] st (fun aA x a ha=>by cases ha) ?_ (by simp only[ab,be];omega) fun aA x=>?_
    ·intro x hx aA K x1 hK
     obtain⟨c,hc,rfl⟩:=List.mem_map.mp hx
     exact hK aA .refl
    ·rw[a9]
     refine cG (by simp only[ab];omega) fun p aF x2 hp mC=>?_
     simp only[dY]
     rw[aE mC,HL]
     have e:fT w=(w.map fun c=>occurs [c] fP).all id:=by
      simp only[fT,c1,qt]
      have h1:decide (1<=w.length)=true:=decide_eq_true (by omega)
      have h2:decide (w.length<=8)=true:=decide_eq_true (by omega)
      rw[h1,h2]
      rfl
     show Q _ _
     rw[<-e]
     exact hQ _ (x.trans x2)
   ·rename_i g2
    have e:fT w=decide ((w.length:Int)<=8):=by
     have h2:decide (w.length<=8)=false:=decide_eq_false (by omega)
     have h3:decide ((w.length:Int)<=8)=false:=decide_eq_false g2
     simp only[fT,h2,h3,cq,ij]
    rw[<-e];exact hQ _ .refl
  ·rename_i g1
   have e:fT w=false:=by
    have h1:decide (1<=w.length)=false:=decide_eq_false (by omega)
    simp only[fT,h1,cq,ij]
   rw[<-e];exact hQ _ .refl
end
noncomputable def nW (iS fR:Nat)(sw:D):Fn:=⟨3,3,[.iff (.or_ (.cmp .lt (.v 2) (.c (.int 1))) (.or_ (.not_ (.isi (.v 1) [.tuple])) (.or_ (.cmp .lt (.bi .len [(.v 1)]) (.c (.int 1))) (.not_ (.isi (.ix (.v 1) (.c (.int 0))) [.str]))))) [.ret (.c (.bl false))] [],.iff (.cmp .eq (.ix (.v 1) (.c (.int 0))) (.c (.str (W "lamp")))) [.ret (.and_ (.cmp .eq (.bi .len [(.v 1)]) (.c (.int 2))) (.and_ (.call iS [(.ix (.v 1) (.c (.int 1)))]) (.cmp .in_ (.ix (.v 1) (.c (.int 1))) (.v 0))))] [],.iff (.or_ (.cmp .kX (.ix (.v 1) (.c (.int 0))) (.c sw)) (.cmp .ne (.bi .len [(.v 1)]) (.bin .add (.c (.int 1)) (.ix (.c sw) (.ix (.v 1) (.c (.int 0))))))) [.ret (.c (.bl false))] [],.ret (.bi .all [(.comp 1 [0,2] [0] true none [(.sl (.v 1) [(.c (.int 1))] [])] [] (.call fR [(.v 1),(.v 0),(.bin .sub (.v 2) (.c (.int 1)))]))])]⟩
section
variable {G:Prog}{k iS fR:Nat}{Q:VK}{E:XK}
noncomputable def zK:List D:=[(.str (W "yes")),(.str (W "no")),(.str (W "not")),(.str (W "before")),(.str (W "once")),(.str (W "sofar")),(.str (W "and")),(.str (W "or")),(.str (W "then")),(.str (W "same")),(.str (W "since"))]
noncomputable def CI:List D:=[(.int 0),(.int 0),(.int 1),(.int 1),(.int 1),(.int 1),(.int 2),(.int 2),(.int 2),(.int 2),(.int 2)]
theorem kR {α:Type}:∀(ps:List α),boolsOf (ps.map fun _=>.bl true)=some (ps.map fun _=>true)
 |[]=>rfl
 |_::r=>by
  show(boolsOf (r.map fun _=>.bl true)).map (true :: ·)=_
  rw[kR r];rfl
theorem xV (h:G.fns fR=some (nW iS fR (.dE zK CI))){nm:D}{w:List Nat}{ps:List D}{st:aB}{d:Int}(hd:1<=d)(hl:¬(w==W "lamp")=true)(hin:(zK.any fun x=>bM x (.str w))=true)(har:wW zK CI (.str w)=some (.int ps.length))(hps:ps.length<=2)
  (hp:∀ x∈ps,∀(aA:aB)(Q':VK)(E':XK),Ext st aA->(∀ aZ,Ext aA aZ->Q' (.bl true) aZ)->aI G k fR [nm,x,.int (d-1)] aA Q' E')(hQ:∀ aA,Ext st aA->Q (.bl true) aA):aI G (k+1) fR [nm,.tup (.str w::ps),.int d] st Q E:=by
 have hL:bH=16777216:=rfl
 rw[bA h]
 simp only[nW,start]
 refine⟨rfl,?_⟩
 walk_at"st"
 have n1:¬d<1:=by omega
 simp only[if_neg n1]
 have n2:¬((ps.length+1:Nat):Int)<1:=by omega
 simp only[bf,if_neg n2]
 walk_at"ex"
 rw[aO]
 walk_at"st"
 rw[if_neg hl]
 rw[aO]
 walk_at"st"
 rw[hin]
 simp only[fq,aq,if_false]
 rw[har]
 show plainS st (.int (1+(ps.length:Int)))/\_
 refine⟨⟨rfl,dm _⟩,?_⟩
 have n3:¬(!bV st (.int ((ps.length+1:Nat):Int)) (.int (1+(ps.length:Int))))=true:=by
  have e:(((ps.length+1:Nat):Int)==1+(ps.length:Int))=true:=beq_iff_eq.mpr (by omega)
  simp only[bV,e,fq,aq,not_false_iff]
 rw[if_neg n3,aO]
 walk_at"st"
 refine comp_map (fun _=>.bl true) ps [] st (fun aA x a ha=>by cases ha) (fun x hx aA K x1 hK=>hp x hx aA _ _ x1 fun aZ x2=>hK aZ x2) (by simp only[be];omega) fun aA x1=>?_
 rw[a9]
 refine cG (by simp only[ab];omega) fun p aF x2 hp' mC=>?_
 simp only[dY]
 rw[aE mC,kR]
 show Q (.bl (((ps.map fun _=>true).all id))) _
 have e:(ps.map fun _=>true).all id=true:=by simp
 rw[e]
 exact hQ _ (x1.trans x2)
theorem IS {n:List Nat}(h:fT n=true):n.length<=8:=by
 simp only[fT,aw,decide_eq_true_eq]at h
 exact h.1.2
theorem mN (st:aB):∀(names:List (List Nat)),dR st (names.map D.str)
 |[]=>⟨rfl,dm _⟩
 |n::r=>⟨by simp only[ay,iR,hJ,ke];exact(mN st r).1,by simp only[ay,cW,cS];have:=(mN st r).2;omega⟩
theorem UW (st:aB)(names:List (List Nat))(n:List Nat)(h:n∈names):((names.map D.str).any fun d=>bV st d (.str n))=true:=by
 rw[kz]
 exact List.any_eq_true.mpr ⟨n,h,by show(n==n)=true;simp⟩
theorem UI (h:G.fns fR=some (nW iS fR (.dE zK CI)))(hn:G.fns iS=some (jW (.tup (gE.map .str)) (.str fP) (.int 8))){names:List (List Nat)}(jO:∀ n∈names,fT n=true){n:List Nat}(ho:n∈names){st:aB}{d:Int}(hd:1<=d)
 (hQ:∀ aA,Ext st aA->Q (.bl true) aA):aI G (k+1+1) fR [.tup (names.map .str),.tup [.str (W "lamp"),.str n],.int d] st Q E:=by
 have hL:bH=16777216:=rfl
 rw[bA h]
 simp only[nW,start]
 refine⟨rfl,?_⟩
 walk_at"st"
 have n1:¬d<1:=by omega
 simp only[if_neg n1]
 walk_at"ex"
 have n2:¬((0+1+1:Nat):Int)<1:=by decide
 simp only[if_neg n2]
 walk_at"ex"
 rw[aO]
 walk_at"st"
 have n3:(W "lamp" == W "lamp")=true:=by simp
 simp only[n3,if_true]
 walk_at"st"
 rw[if_pos (by decide)]
 refine ET (w:=n) hn (by have:=IS (jO n ho);omega) fun aA x1=>?_
 rw[jO n ho]
 show dR aA (names.map .str)/\Q (.bl ((names.map D.str).any fun d=>bV aA d (.str n))) aA
 refine⟨mN aA names,?_⟩
 rw[UW aA names n ho]
 exact hQ _ x1
theorem BM (h:G.fns fR=some (nW iS fR (.dE zK CI)))(hn:G.fns iS=some (jW (.tup (gE.map .str)) (.str fP) (.int 8))){names:List (List Nat)}(jO:∀ n∈names,fT n=true):
  ∀(s:Sy){k:Nat}{st:aB}{Q:VK}{E:XK}{d:Int},over names s->(aR s:Int)<=d->(∀ aA,Ext st aA->Q (.bl true) aA)->aI G (k+aR s+1) fR [.tup (names.map .str),toD s,.int d] st Q E
 |.yes,k,st,Q,E,d,ho,hd,hQ=>by
  simp only[aR]at hd
  exact xV h (by omega) (by decide) (by decide) rfl (by decide) (fun x hx=>by cases hx) hQ
 |.no,k,st,Q,E,d,ho,hd,hQ=>by
  simp only[aR]at hd
  exact xV h (by omega) (by decide) (by decide) rfl (by decide) (fun x hx=>by cases hx) hQ
 |.cQ n,k,st,Q,E,d,ho,hd,hQ=>by
  simp only[aR]at hd ⊢
  exact UI h hn jO ho (by omega) hQ
 |.one w s,k,st,Q,E,d,ho,hd,hQ=>by
  simp only[aR]at hd ⊢
  refine xV (ps:=[toD s]) h (by omega) (by cases w<;>decide) (by cases w<;>decide) (by cases w<;>rfl) (by simp) (fun x hx aA Q' E' x1 hQ'=>?_) hQ
  simp only[aj]at hx
  subst hx
  have:=BM h hn jO s (k:=k) (st:=aA) (Q:=Q') (E:=E') (d:=d-1) ho (by omega) hQ'
  exact this
 |.two w s t,k,st,Q,E,d,ho,hd,hQ=>by
  simp only[aR]at hd ⊢
  refine xV (ps:=[toD s,toD t]) h (by omega) (by cases w<;>decide) (by cases w<;>decide) (by cases w<;>rfl) (by simp) (fun x hx aA Q' E' x1 hQ'=>?_) hQ
  have l1:=vw (aR s) (aR t)
  have l2:=uu (aR s) (aR t)
  simp only[cy,bw,or_false]at hx
  rcases hx with rfl|rfl
  ·have:=BM h hn jO s (k:=k+(max (aR s) (aR t)-aR s)) (st:=aA) (Q:=Q') (E:=E') (d:=d-1) ho.1 (by omega) hQ'
   have e:k+(max (aR s) (aR t)-aR s)+aR s+1=k+(max (aR s) (aR t)+1):=by omega
   rw[e]at this;exact this
  ·have:=BM h hn jO t (k:=k+(max (aR s) (aR t)-aR t)) (st:=aA) (Q:=Q') (E:=E') (d:=d-1) ho.2 (by omega) hQ'
   have e:k+(max (aR s) (aR t)-aR t)+aR t+1=k+(max (aR s) (aR t)+1):=by omega
   rw[e]at this;exact this
end
noncomputable def mQ:Fn:=⟨3,3,[.ret (.and_ (.isi (.v 0) [.tuple]) (.chain .le .le (.v 1) (.bi .len [(.v 0)]) (.v 2)))]⟩
noncomputable def M7 (ir iS:Nat)(ml:D):Fn:=⟨2,3,[.iff (.or_ (.not_ (.call ir [(.v 0),(.c (.int 1)),(.c ml)])) (.not_ (.call ir [(.v 1),(.c (.int 1)),(.c ml)]))) [.ret (.c (.bl false))] [],.asg (.nm 2) (.bin .add (.v 0) (.v 1)),.ret (.and_ (.bi .all [(.comp 1 [] [0] true none [(.v 2)] [] (.call iS [(.v 0)]))]) (.cmp .eq (.bi .tQ [(.v 2)]) (.bi .len [(.v 2)])))]⟩
section
variable {G:Prog}{k ir iS il:Nat}{st:aB}{Q:VK}{E:XK}
theorem nL (h:G.fns ir=some mQ){ds:List D}{lo hi:Int}(hQ:Q (.bl (decide (lo<=(ds.length:Int))&&decide ((ds.length:Int)<=hi))) st):aI G (k+1) ir [.tup ds,.int lo,.int hi] st Q E:=by
 rw[bA h]
 simp only[mQ,start]
 refine⟨rfl,?_⟩
 walk_at"st"
 by_cases c:lo<=(ds.length:Int)
 ·rw[if_pos c]
  rw[decide_eq_true c,ke]at hQ
  exact hQ
 ·rw[if_neg c]
  rw[decide_eq_false c,ij]at hQ
  exact hQ
theorem H0:∀(ws seen:List (List Nat)),(seen++ws).Nodup->AV seen ws=ws.length
 |[],_,_=>rfl
 |w::r,seen,h=>by
  have e:seen.any (·== w)=false:=by
   rw[og]
   intro x hx z
   have:x=w:=by simpa using z
   subst this
   rw[ow]at h
   exact h.2.2 x hx x (by simp) rfl
  show(if seen.any (·== w)=true then 0 else 1)+AV (seen++[w]) r=_
  rw[e,H0 r (seen++[w]) (by simpa using h)]
  simp only[aq,if_false,bf]
  omega
theorem EX:∀(ws:List (List Nat)),strsOf (ws.map .str)=some ws
 |[]=>rfl
 |w::r=>by
  show(strsOf (r.map .str)).map (w :: ·)=_
  rw[EX r];rfl
theorem VU (h:G.fns il=some (M7 ir iS (.int 2)))(hr:G.fns ir=some mQ)(hn:G.fns iS=some (jW (.tup (gE.map .str)) (.str fP) (.int 8))){fs gs:List (List Nat)}(h1:1<=fs.length)(h2:fs.length<=2)(h3:1<=gs.length)(h4:gs.length<=2)(h5:(fs++gs).Nodup)(h6:∀ n∈fs++gs,fT n=true)
  (hQ:∀ aA,Ext st aA->Q (.bl true) aA):aI G (k+2) il [.tup (fs.map .str),.tup (gs.map .str)] st Q E:=by
 have hL:bH=16777216:=rfl
 rw[bA h]
 simp only[M7,start]
 refine⟨rfl,?_⟩
 walk_at"st"
 refine nL hr ?_
 have e1:(decide ((1:Int)<=((fs.map D.str).length:Int))&&decide (((fs.map D.str).length:Int)<=2))=true:=by simp only[ab,aw,decide_eq_true_eq];omega
 rw[e1]
 walk_at"ex"
 refine nL hr ?_
 have e2:(decide ((1:Int)<=((gs.map D.str).length:Int))&&decide (((gs.map D.str).length:Int)<=2))=true:=by simp only[ab,aw,decide_eq_true_eq];omega
 rw[e2]
 walk_at"ex"
 rw[aO]
 walk_at"st"
 refine⟨by simp only[ab];omega,?_⟩
 rw[<-dg]
 walk_at"st"
 refine comp_map (fun _=>.bl true) _ [] st (fun aA x a ha=>by cases ha) (fun x hx aA K x1 hK=>?_) (by simp only[ab,bp,be];omega) fun aA x1=>?_
 ·obtain⟨n,hn',rfl⟩:=List.mem_map.mp hx
  refine ET (w:=n) hn (by have:=IS (h6 n hn');omega) fun aZ x2=>?_
  rw[h6 n hn']
  exact hK aZ x2
 ·rw[a9]
  refine cG (by simp only[ab,bp];omega) fun p aF x2 hp' mC=>?_
  simp only[dY]
  rw[aE mC,kR]
  rw[bF,EX,bF]
  have e3:(p9 (fun _=>true) ((fs++gs).map D.str)).all id=true:=by simp
  rw[if_pos e3]
  refine⟨by simp only[bp];omega,?_⟩
  have e4:(((AV [] (fs++gs):Nat):Int)==((((fs++gs).map D.str).length:Nat):Int))=true:=by
   rw[H0 (fs++gs) [] (by simpa using h5),ab];simp
  rw[e4]
  exact hQ _ (x1.trans x2)
end
noncomputable def sL (fR:Nat)(dp:D):Fn:=⟨2,2,[.ret (.call fR [(.v 0),(.v 1),(.c dp)])]⟩
noncomputable def A6 (ir iy:Nat):Fn:=⟨3,3,[.ret (.and_ (.call ir [(.v 1),(.c (.int 0)),(.v 2)]) (.bi .all [(.comp 1 [0] [0] true none [(.v 1)] [] (.call iy [(.v 1),(.v 0)]))]))]⟩
noncomputable def tF (hp:D):Fn:=⟨1,1,[.ret (.and_ (.isi (.v 0) [.int]) (.and_ (.not_ (.isi (.v 0) [.bool])) (.chain .le .le (.c (.int 1)) (.v 0) (.c hp))))]⟩
noncomputable def BF (ir ip iy:Nat):Fn:=⟨2,2,[.ret (.and_ (.call ir [(.v 1),(.c (.int 2)),(.c (.int 2))]) (.and_ (.call ip [(.ix (.v 1) (.c (.int 0)))]) (.call iy [(.v 0),(.ix (.v 1) (.c (.int 1)))])))]⟩
noncomputable def CY (ir iw:Nat)(mw:D):Fn:=⟨2,2,[.ret (.and_ (.call ir [(.v 1),(.c (.int 1)),(.c mw)]) (.bi .all [(.comp 1 [0] [0] true none [(.v 1)] [] (.call iw [(.v 1),(.v 0)]))]))]⟩
section
variable {G:Prog}{k ir iS fR iy ip iw ia:Nat}{st:aB}{Q:VK}{E:XK}{names:List (List Nat)}
theorem HP (hy:G.fns iy=some (sL fR (.int 8)))(h:G.fns fR=some (nW iS fR (.dE zK CI)))(hn:G.fns iS=some (jW (.tup (gE.map .str)) (.str fP) (.int 8)))(jO:∀ n∈names,fT n=true){s:Sy}(ho:over names s)(hd:aR s<=8)
 (hQ:∀ aA,Ext st aA->Q (.bl true) aA):aI G (k+10) iy [.tup (names.map .str),toD s] st Q E:=by
 rw[bA hy]
 simp only[sL,start]
 refine⟨rfl,?_⟩
 walk_at"st"
 have:=BM h hn jO s (k:=k+(8-aR s)) (st:=st) (Q:=Q) (E:=E) (d:=8) ho (by omega) hQ
 have e:k+(8-aR s)+aR s+1=k+9:=by omega
 rw[e]at this;exact this
theorem DP (ha:G.fns ia=some (A6 ir iy))(hr:G.fns ir=some mQ)(hy:G.fns iy=some (sL fR (.int 8)))(h:G.fns fR=some (nW iS fR (.dE zK CI)))(hn:G.fns iS=some (jW (.tup (gE.map .str)) (.str fP) (.int 8)))(jO:∀ n∈names,fT n=true){ss:List Sy}{m:Int}
  (ho:∀ s∈ss,over names s/\aR s<=8)(hl:(ss.length:Int)<=m)(hl2:ss.length<=1000)(hQ:∀ aA,Ext st aA->Q (.bl true) aA):aI G (k+11) ia [.tup (names.map .str),.tup (ss.map toD),.int m] st Q E:=by
 have hL:bH=16777216:=rfl
 rw[bA ha]
 simp only[A6,start]
 refine⟨rfl,?_⟩
 walk_at"st"
 refine nL hr ?_
 have e1:(decide ((0:Int)<=((ss.map toD).length:Int))&&decide (((ss.map toD).length:Int)<=m))=true:=by simp only[ab,aw,decide_eq_true_eq];omega
 rw[e1]
 walk_at"ex"
 refine comp_map (fun _=>.bl true) _ [] st (fun aA x a ha=>by cases ha) (fun x hx aA K x1 hK=>?_) (by simp only[ab,be];omega) fun aA x1=>?_
 ·obtain⟨s,hs,rfl⟩:=List.mem_map.mp hx
  exact HP hy h hn jO (ho s hs).1 (ho s hs).2 fun aZ x2=>hK aZ x2
 ·rw[a9]
  refine cG (by simp only[ab];omega) fun p aF x2 hp' mC=>?_
  simp only[dY]
  rw[aE mC,kR,bF]
  have e3:(p9 (fun _=>true) (ss.map toD)).all id=true:=by simp
  rw[e3]
  exact hQ _ (x1.trans x2)
theorem NM (h:G.fns ip=some (tF (.int 99))){p:Int}(h1:1<=p)(h2:p<=99)(hQ:Q (.bl true) st):aI G (k+1) ip [.int p] st Q E:=by
 rw[bA h]
 simp only[tF,start]
 refine⟨rfl,?_⟩
 walk_at"st"
 rw[if_pos h1,decide_eq_true h2]
 exact hQ
theorem RF (hw:G.fns iw=some (BF ir ip iy))(hr:G.fns ir=some mQ)(hp:G.fns ip=some (tF (.int 99)))(hy:G.fns iy=some (sL fR (.int 8)))(h:G.fns fR=some (nW iS fR (.dE zK CI)))(hn:G.fns iS=some (jW (.tup (gE.map .str)) (.str fP) (.int 8)))(jO:∀ n∈names,fT n=true){s:Sy}{p:Int}
 (h1:1<=p)(h2:p<=99)(ho:over names s)(hd:aR s<=8)(hQ:∀ aA,Ext st aA->Q (.bl true) aA):aI G (k+11) iw [.tup (names.map .str),.tup [.int p,toD s]] st Q E:=by
 rw[bA hw]
 simp only[BF,start]
 refine⟨rfl,?_⟩
 walk_at"st"
 refine nL hr ?_
 have e1:(decide ((2:Int)<=(([.int p,toD s]:List D).length:Int))&&decide ((([.int p,toD s]:List D).length:Int)<=2))=true:=rfl
 rw[e1]
 walk_at"ex"
 refine NM hp h1 h2 ?_
 walk_at"ex"
 exact HP hy h hn jO ho hd fun aZ x2=>hQ aZ x2
end
noncomputable def wZ (ih ib:Nat):Fn:=⟨2,2,[.iff (.cmp .eq (.ix (.v 1) (.c (.int 0))) (.c (.str (W "before")))) [.ret (.c (.bl false))] [],.iff (.cmp .eq (.ix (.v 1) (.c (.int 0))) (.c (.str (W "lamp")))) [.ret (.cmp .in_ (.ix (.v 1) (.c (.int 1))) (.v 0))] [],.ret (.bi .any [(.comp 1 [0] [0] true none [(.call ih [(.v 1)])] [] (.call ib [(.v 1),(.v 0)]))])]⟩
noncomputable def dW (gs:List (List Nat)):Sy->Bool
 |.cQ n=>gs.any (·== n)
 |.one .before _=>false
 |.one _ s=>dW gs s
 |.two _ s t=>dW gs s||dW gs t
 |_=>false
section
variable {G:Prog}{k ih ib ir iS fR iy ip iw ia:Nat}{st:aB}{Q:VK}{E:XK}{names:List (List Nat)}
theorem NS (ha:G.fns ia=some (CY ir iw (.int 5)))(hw:G.fns iw=some (BF ir ip iy))(hr:G.fns ir=some mQ)(hp:G.fns ip=some (tF (.int 99)))(hy:G.fns iy=some (sL fR (.int 8)))(h:G.fns fR=some (nW iS fR (.dE zK CI)))(hn:G.fns iS=some (jW (.tup (gE.map .str)) (.str fP) (.int 8)))(jO:∀ n∈names,fT n=true){ws:List (Int×Sy)}
  (ho:∀ w∈ws,1<=w.1/\w.1<=99/\over names w.2/\aR w.2<=8)(h1:1<=ws.length)(h2:ws.length<=5)(hQ:∀ aA,Ext st aA->Q (.bl true) aA):aI G (k+12) ia [.tup (names.map .str),.tup (ws.map fun w=>.tup [.int w.1,toD w.2])] st Q E:=by
 have hL:bH=16777216:=rfl
 rw[bA ha]
 simp only[CY,start]
 refine⟨rfl,?_⟩
 walk_at"st"
 refine nL hr ?_
 have e1:(decide ((1:Int)<=((ws.map fun w=>D.tup [.int w.1,toD w.2]).length:Int))&&decide (((ws.map fun w=>D.tup [.int w.1,toD w.2]).length:Int)<=5))=true:=by simp only[ab,aw,decide_eq_true_eq];omega
 rw[e1]
 walk_at"ex"
 refine comp_map (fun _=>.bl true) _ [] st (fun aA x a ha=>by cases ha) (fun x hx aA K x1 hK=>?_) (by simp only[ab,be];omega) fun aA x1=>?_
 ·obtain⟨s,hs,rfl⟩:=List.mem_map.mp hx
  obtain⟨o1,o2,o3,o4⟩:=ho s hs
  exact RF hw hr hp hy h hn jO o1 o2 o3 o4 fun aZ x2=>hK aZ x2
 ·rw[a9]
  refine cG (by simp only[ab];omega) fun p aF x2 hp' mC=>?_
  simp only[dY]
  rw[aE mC,kR,bF]
  have e3:(p9 (fun _=>true) (ws.map fun w=>D.tup [.int w.1,toD w.2])).all id=true:=by simp
  rw[e3]
  exact hQ _ (x1.trans x2)
end
theorem fB {α:Type}{g:aB->Prop}{turn:D->aB->(Option D->aB->Prop)->Prop}{R:List D->aB->Prop}(t f:α->D):∀(xs:List α)(acc:List D)(st:aB),
  (∀ aA,Ext st aA->g aA)->(∀ x∈xs,∀ aA (K:Option D->aB->Prop),Ext st aA->(∀ aZ,Ext aA aZ->K (some (f x)) aZ)->turn (t x) aA K) ->
  acc.length+xs.length<=bH->(∀ aA,Ext st aA->R (acc++xs.map f) aA)->kG g turn (xs.map t) acc st R
 |[],acc,st,hg,_,_,hR=>⟨hg st .refl,by simpa using hR st .refl⟩
 |x::xs,acc,st,hg,ht,hl,hR=>by
  simp only[bf]at hl
  refine⟨hg st .refl,by omega,ht x (by simp) st _ .refl fun aZ h''=>?_⟩
  exact fB t f xs (acc++[f x]) aZ (fun aA h=>hg aA (h''.trans h)) (fun y hy aA K h=>ht y (by simp [hy]) aA K (h''.trans h)) (by simp only[bp,bf,be];omega) fun aA h=>by simpa using hR aA (h''.trans h)
theorem xY {α:Type}(b:α->Bool):∀(ps:List α),boolsOf (ps.map fun x=>.bl (b x))=some (ps.map b)
 |[]=>rfl
 |x::r=>by
  show(boolsOf (r.map fun x=>.bl (b x))).map (b x :: ·)=_
  rw[xY b r];rfl
section
variable {G:Prog}{k ih ib:Nat}{Q:VK}{E:XK}{gs:List (List Nat)}
theorem xP (h:G.fns ib=some (wZ ih ib))(hh:G.fns ih=some fQ){s:Sy}{st:aB}(h1:¬(wd s==W "before")=true)(h2:fY s=false)(h3:¬(wd s==W "lamp")=true)(h4:(subs s).length<=2)
 (hp:∀ x∈subs s,∀(aA:aB)(Q':VK)(E':XK),Ext st aA->(∀ aZ,Ext aA aZ->Q' (.bl (dW gs x)) aZ)->aI G (k+1) ib [.tup (gs.map .str),toD x] aA Q' E')(hQ:∀ aA,Ext st aA->Q (.bl ((subs s).any (dW gs))) aA):aI G (k+2) ib [.tup (gs.map .str),toD s] st Q E:=by
 have hL:bH=16777216:=rfl
 rw[bA h]
 simp only[wZ,start]
 refine⟨rfl,?_⟩
 obtain⟨r,er⟩:=qH s
 rw[er]
 walk_at"st"
 rw[if_neg h1,aO]
 walk_at"st"
 rw[if_neg h3,aO]
 walk_at"st"
 rw[<-er]
 refine uK hh ?_
 walk_at"ex"
 refine fB toD (fun x=>.bl (dW gs x)) _ [] st (fun aA x a ha=>by cases ha) (fun x hx aA K x1 hK=>hp x hx aA _ _ x1 fun aZ x2=>hK aZ x2) (by simp only[be];omega) fun aA x1=>?_
 rw[a9]
 refine cG (by simp only[ab];omega) fun p aF x2 hp' mC=>?_
 simp only[dY]
 rw[aE mC,xY,bF,kz]
 exact hQ _ (x1.trans x2)
theorem A4 (h:G.fns ib=some (wZ ih ib))(hh:G.fns ih=some fQ):∀(s:Sy){k:Nat}{st:aB}{Q:VK}{E:XK},(∀ aA,Ext st aA->Q (.bl (dW gs s)) aA)->aI G (k+aR s+1) ib [.tup (gs.map .str),toD s] st Q E
 |.yes,k,st,Q,E,hQ=>xP (k:=k) h hh (by decide) rfl (by decide) (by decide) (fun x hx=>by cases hx) hQ
 |.no,k,st,Q,E,hQ=>xP (k:=k) h hh (by decide) rfl (by decide) (by decide) (fun x hx=>by cases hx) hQ
 |.cQ n,k,st,Q,E,hQ=>by
  rw[bA h]
  simp only[wZ,start,toD]
  refine⟨rfl,?_⟩
  walk_at"st"
  have n1:¬(W "lamp" == W "before")=true:=by decide
  rw[if_neg n1,aO]
  walk_at"st"
  have n3:(W "lamp" == W "lamp")=true:=by decide
  rw[if_pos n3]
  walk_at"st"
  refine⟨mN st gs,?_⟩
  have e:((gs.map D.str).any fun d=>bV st d (.str n))=dW gs (.cQ n):=by rw[kz];rfl
  rw[e]
  exact hQ _ .refl
 |.one w s,k,st,Q,E,hQ=>by
  by_cases hw:w=.before
  ·subst hw
   rw[bA h]
   simp only[wZ,start,toD,c1]
   refine⟨rfl,?_⟩
   walk_at"st"
   have n1:(W "before" == W "before")=true:=by decide
   rw[if_pos n1]
   walk_at"st"
   exact hQ _ .refl
  ·have e0:k+aR (.one w s)+1=(k+aR s)+2:=by simp only[aR];omega
   rw[e0]
   refine xP h hh (show ¬(c1 w==W "before")=true by cases w<;>first|decide|exact absurd rfl hw) rfl (show ¬(c1 w==W "lamp")=true by cases w<;>decide) (by simp [subs]) (fun x hx aA Q' E' x1 hQ'=>?_) (fun aA x1=>?_)
   ·simp only[subs,cy,bw,or_false]at hx
    rw[hx]at hQ' ⊢
    exact A4 h hh s (k:=k) (st:=aA) (Q:=Q') (E:=E') hQ'
   ·have e1:(subs (.one w s)).any (dW gs)=dW gs (.one w s):=by
     cases w<;>first|exact absurd rfl hw|simp [subs,dW]
    rw[e1];exact hQ aA x1
 |.two w s t,k,st,Q,E,hQ=>by
  have l1:=vw (aR s) (aR t)
  have l2:=uu (aR s) (aR t)
  have e0:k+aR (.two w s t)+1=(k+max (aR s) (aR t))+2:=by simp only[aR];omega
  rw[e0]
  refine xP h hh (show ¬(c2 w==W "before")=true by cases w<;>decide) rfl (show ¬(c2 w==W "lamp")=true by cases w<;>decide) (by simp [subs]) (fun x hx aA Q' E' x1 hQ'=>?_) (fun aA x1=>by simpa [subs,dW]using hQ aA x1)
  simp only[subs,cy,bw,or_false]at hx
  rcases hx with hx|hx
  ·rw[hx]at hQ' ⊢
   have:=A4 h hh s (k:=k+(max (aR s) (aR t)-aR s)) (st:=aA) (Q:=Q') (E:=E') hQ'
   have e:k+(max (aR s) (aR t)-aR s)+aR s+1=k+max (aR s) (aR t)+1:=by omega
   rw[e]at this;exact this
  ·rw[hx]at hQ' ⊢
   have:=A4 h hh t (k:=k+(max (aR s) (aR t)-aR t)) (st:=aA) (Q:=Q') (E:=E') hQ'
   have e:k+(max (aR s) (aR t)-aR t)+aR t+1=k+max (aR s) (aR t)+1:=by omega
   rw[e]at this;exact this
end
noncomputable def FQ (ia ib:Nat)(mp:D):Fn:=⟨3,3,[.ret (.and_ (.call ia [(.v 0),(.v 2),(.c mp)]) (.not_ (.bi .any [(.comp 1 [1] [0] true none [(.v 2)] [] (.call ib [(.v 1),(.v 0)]))])))]⟩
noncomputable def mM:Fn:=⟨3,3,[.ret (.bin .add (.bin .add (.bi .list [(.v 0)]) (.bi .list [(.v 1)])) (.comp 1 [] [0] true none [(.v 2)] [] (.ix (.v 0) (.c (.int 1)))))]⟩
section
variable {G:Prog}{k ih ib ir iS fR iy ia iap io:Nat}{st:aB}{Q:VK}{E:XK}{names gs:List (List Nat)}
theorem P1 (hp:G.fns iap=some (FQ ia ib (.int 3)))(hb:G.fns ib=some (wZ ih ib))(hh:G.fns ih=some fQ)(ha:G.fns ia=some (A6 ir iy))(hr:G.fns ir=some mQ)(hy:G.fns iy=some (sL fR (.int 8)))(h:G.fns fR=some (nW iS fR (.dE zK CI)))(hn:G.fns iS=some (jW (.tup (gE.map .str)) (.str fP) (.int 8)))(jO:∀ n∈names,fT n=true){ss:List Sy}
  (ho:∀ s∈ss,over names s/\aR s<=8)(hl:ss.length<=3)(hbare:∀ s∈ss,dW gs s=false)(hQ:∀ aA,Ext st aA->Q (.bl true) aA):aI G (k+12) iap [.tup (names.map .str),.tup (gs.map .str),.tup (ss.map toD)] st Q E:=by
 have hL:bH=16777216:=rfl
 rw[bA hp]
 simp only[FQ,start]
 refine⟨rfl,?_⟩
 walk_at"st"
 refine DP ha hr hy h hn jO ho (by omega) (by omega) fun aC y1=>?_
 walk_at"ex"
 refine fB toD (fun _=>.bl false) _ [] aC (fun aA x a ha=>by cases ha) (fun x hx aA K x1 hK=>?_) (by simp only[be];omega) fun aA x1=>?_
 ·have e:k+11=(k+10-aR x)+aR x+1:=by have:=(ho x hx).2;omega
  rw[e]
  refine A4 hb hh x fun aZ x2=>?_
  rw[hbare x hx]
  exact hK aZ x2
 ·rw[a9]
  refine cG (by simp only[ab];omega) fun p aF x2 hp' mC=>?_
  simp only[dY]
  rw[aE mC,xY (fun _=>false),bF]
  have e3:(ss.map fun _=>false).any id=false:=by simp
  rw[e3]
  exact hQ _ ((y1.trans x1).trans x2)
theorem HV (h:G.fns io=some mM){ps ms:List Sy}{ws:List (Int×Sy)}(h1:ps.length<=1000)(h2:ms.length<=1000)(h3:ws.length<=1000)
 (hQ:∀ p aA,Ext st aA->aA p=some (.lst ((ps++ms++ws.map (·.2)).map toD))->Q (.ref p) aA):aI G (k+1) io [.tup (ps.map toD),.tup (ms.map toD),.tup (ws.map fun w=>.tup [.int w.1,toD w.2])] st Q E:=by
 have hL:bH=16777216:=rfl
 rw[bA h]
 simp only[mM,start]
 refine⟨rfl,?_⟩
 walk_at"st"
 refine cG (by simp only[ab];omega) fun p aC x1 hp hp1=>?_
 walk_at"ex"
 refine cG (by simp only[ab];omega) fun q aF x2 hq hq2=>?_
 walk_at"ex"
 rw[aE (x2 _ _ hp1),aE hq2]
 refine cG (by simp only[ab,bp];omega) fun r aX x3 hr hr3=>?_
 refine fB (fun w:Int×Sy=>D.tup [.int w.1,toD w.2]) (fun w=>toD w.2) _ [] aX (fun aA x a ha=>by cases ha) (fun x hx aA K y1 hK=>hK aA .refl) (by simp only[be];omega) fun cN x4=>?_
 rw[a9]
 refine cG (by simp only[ab];omega) fun u dF x5 hu hu5=>?_
 show cR dF r fun xs=>cR dF u fun ys=>iP (xs++ys) dF Q
 rw[aE (x5 _ _ (x4 _ _ hr3)),aE hu5]
 refine cG (by simp only[ab,bp];omega) fun v gS x6 hv hv6=>?_
 refine hQ v gS (((((x1.trans x2).trans x3).trans x4).trans x5).trans x6) ?_
 rw[hv6]
 simp only[dg,l9]
 rfl
end
noncomputable def FJ (ir il iap ia iaw ipi io:Nat)(mm mp:D):Fn:=⟨1,6,[.iff (.or_ (.not_ (.call ir [(.v 0),(.c (.int 5)),(.c (.int 5))])) (.not_ (.call il [(.ix (.v 0) (.c (.int 0))),(.ix (.v 0) (.c (.int 1)))]))) [.ret (.c (.bl false))] [],.asg (.nm 1) (.ix (.v 0) (.c (.int 1))),.asg (.nm 2) (.bin .add (.ix (.v 0) (.c (.int 0))) (.v 1)),.asg (.nm 3) (.ix (.v 0) (.c (.int 2))),.asg (.nm 4) (.ix (.v 0) (.c (.int 3))),.asg (.nm 5) (.ix (.v 0) (.c (.int 4))),.iff (.or_ (.not_ (.call iap [(.v 2),(.v 1),(.v 3)])) (.not_ (.call ia [(.v 2),(.v 4),(.c mm)]))) [.ret (.c (.bl false))] [],.ret (.and_ (.call iaw [(.v 2),(.v 5)]) (.cmp .le (.bi .len [(.call ipi [(.call io [(.v 3),(.v 4),(.v 5)])])]) (.c mp)))]⟩
structure Bk where
 fs:List (List Nat)
 gs:List (List Nat)
 ps:List Sy
 ms:List Sy
 ws:List (Int×Sy)
noncomputable def Bk.d (b:Bk):D:=.tup [.tup (b.fs.map .str),.tup (b.gs.map .str),.tup (b.ps.map toD),.tup (b.ms.map toD),.tup (b.ws.map fun w=>.tup [.int w.1,toD w.2])]
noncomputable def Bk.names (b:Bk):List (List Nat):=b.fs++b.gs
noncomputable def Bk.says (b:Bk):List Sy:=b.ps++b.ms++b.ws.map (·.2)
structure Bk.Ok (b:Bk):Prop where
 f1:1<=b.fs.length
 f2:b.fs.length<=2
 g1:1<=b.gs.length
 g2:b.gs.length<=2
 nd:b.names.Nodup
 nm:∀ n∈b.names,fT n=true
 p1:b.ps.length<=3
 p2:∀ s∈b.ps,over b.names s/\aR s<=8
 p3:∀ s∈b.ps,dW b.gs s=false
 m1:b.ms.length<=3
 m2:∀ s∈b.ms,over b.names s/\aR s<=8
 w1:1<=b.ws.length
 w2:b.ws.length<=5
 w3:∀ w∈b.ws,1<=w.1/\w.1<=99/\over b.names w.2/\aR w.2<=8
section
variable {G:Prog}{k ih ib ir iS fR iy ia iap io il iaw ipi ip iw ibk:Nat}{st:aB}{Q:VK}{E:XK}
theorem NO (h:G.fns ir=some mQ){ds:List D}{lo hi:Int}(h1:lo<=(ds.length:Int))(h2:(ds.length:Int)<=hi)(hQ:Q (.bl true) st):aI G (k+1) ir [.tup ds,.int lo,.int hi] st Q E :=
 nL h (by rw[decide_eq_true h1,decide_eq_true h2];exact hQ)
end
section
variable {G:Prog}{k ir il iap ia iaw ipi io ibk:Nat}{Q:VK}{E:XK}
theorem NW (hbk:G.fns ibk=some (FJ ir il iap ia iaw ipi io (.int 3) (.int 4)))(hr:G.fns ir=some mQ){F J P M V N:D}{st:aB}{Φ:Nat->aB->Prop}
 (h1:∀(st:aB)(Q:VK)(E:XK),(∀ aA,Ext st aA->Q (.bl true) aA)->aI G (k+12) il [F,J] st Q E)(h2:∀(st:aB)(Q:VK),Q N st->iM .add F J st Q)
 (h3:∀(st:aB)(Q:VK)(E:XK),(∀ aA,Ext st aA->Q (.bl true) aA)->aI G (k+12) iap [N,J,P] st Q E)(h4:∀(st:aB)(Q:VK)(E:XK),(∀ aA,Ext st aA->Q (.bl true) aA)->aI G (k+12) ia [N,M,.int 3] st Q E)
 (h5:∀(st:aB)(Q:VK)(E:XK),(∀ aA,Ext st aA->Q (.bl true) aA)->aI G (k+12) iaw [N,V] st Q E)(h6:∀(st:aB)(Q:VK)(E:XK),(∀ l aA,Ext st aA->Φ l aA->Q (.ref l) aA)->aI G (k+12) io [P,M,V] st Q E)
 (h7:∀(l:Nat)(st:aB)(Q:VK)(E:XK),Φ l st->(∀ p aA (xs:List D),Ext st aA->xs.length<=4->aA p=some (.lst xs)->Q (.ref p) aA)->aI G (k+12) ipi [.ref l] st Q E)
 (hQ:∀ aA,Ext st aA->Q (.bl true) aA):aI G (k+13) ibk [.tup [F,J,P,M,V]] st Q E:=by
 rw[bA hbk]
 simp only[FJ,start]
 refine⟨rfl,?_⟩
 walk_at"st"
 refine NO hr (Wp 5) (Wp 5) ?_
 walk_at"ex"
 refine h1 _ _ _ fun aC x1=>?_
 walk_at"ex"
 rw[aO]
 try dsimp only
 refine gL ?_
 rw[wN,C7,G8]
 simp only[↓FK,↓K0]
 rw[mR,show gQ [F,J,P,M,V] 1=some J from rfl,bF,BA]
 simp only[d5,di]
 refine gL ?_
 rw[wN,RD,C7,G8]
 simp only[↓FK,↓K0]
 rw[mR,show gQ [F,J,P,M,V] 0=some F from rfl,bF,G8]
 simp only[d5,di,↓Im]
 refine h2 _ _ ?_
 rw[BA]
 simp only[d5,di]
 refine gL ?_
 rw[wN,C7,G8]
 simp only[d5,di,↓FK,↓K0]
 rw[mR,show gQ [F,J,P,M,V] 2=some P from rfl,bF,BA]
 simp only[d5,di]
 refine gL ?_
 rw[wN,C7,G8]
 simp only[d5,di,↓FK,↓K0]
 rw[mR,show gQ [F,J,P,M,V] 3=some M from rfl,bF,BA]
 simp only[d5,di]
 refine gL ?_
 rw[wN,C7,G8]
 simp only[d5,di,↓FK,↓K0]
 rw[mR,show gQ [F,J,P,M,V] 4=some V from rfl,bF,BA]
 simp only[d5,di]
 walk_at"st"
 refine h3 _ _ _ fun aF x2=>?_
 walk_at"ex"
 refine h4 _ _ _ fun aX x3=>?_
 walk_at"ex"
 rw[aO]
 walk_at"st"
 refine h5 _ _ _ fun cN x4=>?_
 walk_at"ex"
 refine h6 _ _ _ fun l dF x5 hl=>?_
 walk_at"ex"
 refine h7 _ _ _ _ hl fun p gS xs x6 hx hp=>?_
 walk_at"ex"
 unfold dX
 rw[hp]
 show Q (.bl (decide ((xs.length:Int)<=4))) gS
 rw[decide_eq_true (show(xs.length:Int)<=4 by omega)]
 exact hQ _ (((((x1.trans x2).trans x3).trans x4).trans x5).trans x6)
end
section
variable {G:Prog}{k ih ib ir iS fR iy ia iap io il iaw ipi ip iw ibk:Nat}{st:aB}{Q:VK}{E:XK}
theorem QG (hbk:G.fns ibk=some (FJ ir il iap ia iaw ipi io (.int 3) (.int 4)))(hla:G.fns il=some (M7 ir iS (.int 2)))(hap:G.fns iap=some (FQ ia ib (.int 3)))(hb:G.fns ib=some (wZ ih ib))(hh:G.fns ih=some fQ)(ha:G.fns ia=some (A6 ir iy))(hr:G.fns ir=some mQ)(hy:G.fns iy=some (sL fR (.int 8)))(h:G.fns fR=some (nW iS fR (.dE zK CI)))
  (hn:G.fns iS=some (jW (.tup (gE.map .str)) (.str fP) (.int 8)))(haw:G.fns iaw=some (CY ir iw (.int 5)))(hw:G.fns iw=some (BF ir ip iy))(hp:G.fns ip=some (tF (.int 99)))(ho:G.fns io=some mM)(hpi:G.fns ipi=some (gM ih)){b:Bk}(B:b.Ok)(hs:fN b.says<bH)(hd:∀ x∈b.says,aR x<=60)(hc:(cF b.says []).length<=4)
  (hQ:∀ aA,Ext st aA->Q (.bl true) aA):aI G (k+13) ibk [b.d] st Q E:=by
 have hL:bH=16777216:=rfl
 have f2:=B.f2
 have g2:=B.g2
 have p1:=B.p1
 have m1:=B.m1
 have w2:=B.w2
 refine NW hbk hr (N:=.tup (b.names.map .str)) (Φ:=fun l st=>st l=some (.lst (b.says.map toD))) (fun st Q E q=>VU (k:=k+10) hla hr hn B.f1 B.f2 B.g1 B.g2 B.nd B.nm q) (fun st Q q=>?_) (fun st Q E q=>P1 (k:=k) hap hb hh ha hr hy h hn B.nm B.p2 B.p1 B.p3 q)
  (fun st Q E q=>DP (k:=k+1) ha hr hy h hn B.nm B.m2 (by omega) (by omega) q) (fun st Q E q=>NS (k:=k) haw hw hr hp hy h hn B.nm B.w3 B.w1 B.w2 q) (fun st Q E q=>HV (k:=k+11) ho (by omega) (by omega) (by omega) fun p aA x e=>q p aA x e)
  (fun l st Q E e q=>zG (k:=k+10) hpi hh e hd hs fun p aA x e'=>q p aA _ x (by simpa using hc) e') hQ
 show _/\Q _ st
 refine⟨by simp only[ab];omega,?_⟩
 rw[<-dg]
 exact q
end
end L3
end
section
namespace L3
noncomputable def rY (f g:Nat->Bool):Nat->Bool
 |0=>g 0
 |t+1=>g (t+1)||(f (t+1)&&rY f g t)
noncomputable def EY (names:List (List Nat))(aN:List (List Bool))(n:List Nat)(t:Nat):Bool:=(((aN[t]?).getD [])[names.idxOf n]?).getD false
noncomputable def hv (names:List (List Nat))(aN:List (List Bool)):Sy->Nat->Bool
 |.yes,_=>true
 |.no,_=>false
 |.cQ n,t=>EY names aN n t
 |.one .not s,t=>!hv names aN s t
 |.one .before s,t=>decide (0<t)&&hv names aN s (t-1)
 |.one .once s,t=>(bb (t+1)).any (hv names aN s)
 |.one .sofar s,t=>(bb (t+1)).all (hv names aN s)
 |.two .and s u,t=>hv names aN s t&&hv names aN u t
 |.two .or s u,t=>hv names aN s t||hv names aN u t
 |.two .bD s u,t=>hv names aN u t || !hv names aN s t
 |.two .same s u,t=>hv names aN s t==hv names aN u t
 |.two .since s u,t=>rY (hv names aN s) (hv names aN u) t
noncomputable def nS:Sy->Sy
 |.one .before s=>s
 |s=>s
noncomputable def dU:Sy->Bool
 |.one .sofar _=>true
 |_=>false
noncomputable def eZ (names:List (List Nat))(aN:List (List Bool))(t:Nat)(p:Sy):Bool:=if t=0 then dU p else hv names aN (nS p) (t-1)
noncomputable def fV:Sy->Bool->List Bool->Bool
 |.one .before _,m,_=>m
 |.one .once _,m,a::_=>m||a
 |.one .sofar _,m,a::_=>m&&a
 |.two .since _ _,m,a::b::_=>b||(m&&a)
 |_,_,_=>false
noncomputable def rG:Sy->List Bool->Bool
 |.yes,_=>true
 |.one .not _,a::_=>!a
 |.two .and _ _,a::b::_=>a&&b
 |.two .or _ _,a::b::_=>a||b
 |.two .bD _ _,a::b::_=>b || !a
 |.two .same _ _,a::b::_=>a==b
 |_,_=>false
section
variable {names:List (List Nat)}{aN:List (List Bool)}
theorem FR (f:Nat->Bool)(t:Nat):(bb (t+1)).any f=((bb t).any f||f t):=by rw[j1];simp
theorem GU (f:Nat->Bool)(t:Nat):(bb (t+1)).all f=((bb t).all f&&f t):=by rw[j1];simp
theorem GP {s:Sy}(h:bR s=true)(t:Nat):hv names aN s t=fV s (eZ names aN t s) ((subs s).map fun u=>hv names aN u t):=by
 cases s with
 |one w a =>
  cases w with
  |not=>cases h
  |before =>
   cases t with
   |zero=>simp [hv,fV,eZ,dU]
   |succ t=>simp [hv,fV,eZ,nS]
  |once =>
   cases t with
   |zero=>simp [hv,fV,eZ,dU,subs]
   |succ t=>simp only[hv,fV,eZ,nS,subs,ay];rw[FR];simp
  |sofar =>
   cases t with
   |zero=>simp [hv,fV,eZ,dU,subs]
   |succ t=>simp only[hv,fV,eZ,nS,subs,ay];rw[GU];simp
 |two w a b =>
  cases w with
  |since =>
   cases t with
   |zero=>simp [hv,fV,eZ,dU,subs,rY]
   |succ t =>
    simp only[hv,fV,eZ,nS,subs,ay,rY]
    simp [Bool.and_comm]
  |_=>cases h
 |_=>cases h
theorem LF {s:Sy}(h:bR s=false)(hl:fY s=false)(t:Nat):hv names aN s t=rG s ((subs s).map fun u=>hv names aN u t):=by
 cases s with
 |one w a=>cases w<;>first|rfl|cases h
 |two w a b=>cases w<;>first|rfl|cases h
 |cQ n=>cases hl
 |_=>rfl
end
end L3
end
section
namespace L3
open PySem
local macro_rules|`(tactic| walk_at"wd")=>`(tactic| (first|rw[if_pos (by decide +kernel)]|rw[if_neg (by decide +kernel)]))
noncomputable def pH:Fn:=⟨2,2,[.iff (.cmp .eq (.v 0) (.c (.str (W "not")))) [.ret (.not_ (.ix (.v 1) (.c (.int 0))))] [],.iff (.cmp .eq (.v 0) (.c (.str (W "and")))) [.ret (.and_ (.ix (.v 1) (.c (.int 0))) (.ix (.v 1) (.c (.int 1))))] [],.iff (.cmp .eq (.v 0) (.c (.str (W "or")))) [.ret (.or_ (.ix (.v 1) (.c (.int 0))) (.ix (.v 1) (.c (.int 1))))] [],.iff (.cmp .eq (.v 0) (.c (.str (W "then")))) [.ret (.or_ (.ix (.v 1) (.c (.int 1))) (.not_ (.ix (.v 1) (.c (.int 0)))))] [],.iff (.cmp .eq (.v 0) (.c (.str (W "same")))) [.ret (.cmp .eq (.ix (.v 1) (.c (.int 0))) (.ix (.v 1) (.c (.int 1))))] [],.ret (.cmp .eq (.v 0) (.c (.str (W "yes"))))]⟩
noncomputable def mF:Fn:=⟨3,3,[.iff (.cmp .eq (.v 0) (.c (.str (W "before")))) [.ret (.v 1)] [],.iff (.cmp .eq (.v 0) (.c (.str (W "once")))) [.ret (.or_ (.v 1) (.ix (.v 2) (.c (.int 0))))] [],.iff (.cmp .eq (.v 0) (.c (.str (W "sofar")))) [.ret (.and_ (.v 1) (.ix (.v 2) (.c (.int 0))))] [],.ret (.or_ (.ix (.v 2) (.c (.int 1))) (.and_ (.v 1) (.ix (.v 2) (.c (.int 0)))))]⟩
section
variable {G:Prog}{k i:Nat}{st:aB}{Q:VK}{E:XK}
theorem BL {q:Nat}{bs:List Bool}{j:Nat}{b:Bool}(hq:st q=some (.lst (bs.map .bl)))(hb:bs[j]? = some b):nU (.ref q) (.int (j:Nat)) st Q=Q (.bl b) st:=by
 have hj:j<bs.length:=by
  by_cases h:j<bs.length
  ·exact h
  ·rw[cx (by omega)]at hb;cases hb
 rw[eO hq,eJ (by simpa using hj),bc,hb]
 rfl
theorem Ha (h:G.fns i=some pH){s:Sy}(hp:bR s=false)(hl:fY s=false){q:Nat}{bs:List Bool}(hb:bs.length=(subs s).length)(hq:st q=some (.lst (bs.map .bl)))(hQ:Q (.bl (rG s bs)) st):aI G (k+1) i [.str (wd s),.ref q] st Q E:=by
 rw[bA h]
 simp only[pH,start]
 refine⟨rfl,?_⟩
 cases s with
 |yes =>
  simp only[wd]
  iterate 5 (walk_at"st"; walk_at"wd"; rw[aO])
  walk_at"st"
  have e:(W "yes" == W "yes")=true:=by decide +kernel
  rw[e]
  exact hQ
 |no =>
  simp only[wd]
  iterate 5 (walk_at"st"; walk_at"wd"; rw[aO])
  walk_at"st"
  have e:(W "no" == W "yes")=false:=by decide +kernel
  rw[e]
  exact hQ
 |cQ n=>cases hl
 |one w a =>
  cases w with
  |not =>
   simp only[wd,c1]
   match bs,hb,hq,hQ with
   |[b],_,hq,hQ =>
    have i0:=fun(Q:VK)=>BL (st:=st) (Q:=Q) (j:=0) hq rfl
    simp only[l8]at i0
    walk_at"st"; walk_at"wd"
    walk_at"st"
    rw[i0]
    walk_at"ex"
    exact hQ
  |_=>cases hp
 |two w a c =>
  match bs,hb,hq,hQ with
  |[b,b'],_,hq,hQ =>
   have i0:=fun(Q:VK)=>BL (st:=st) (Q:=Q) (j:=0) hq rfl
   have i1:=fun(Q:VK)=>BL (st:=st) (Q:=Q) (j:=1) hq rfl
   simp only[l8]at i0
   have e1:((1:Nat):Int)=1:=rfl
   rw[e1]at i1
   cases w with
   |and =>
    simp only[wd,c2]
    iterate 1 (walk_at"st"; walk_at"wd"; rw[aO])
    walk_at"st"; walk_at"wd"
    walk_at"st"
    rw[i0]
    walk_at"ex"
    cases b with
    |false=>simpa [rG]using hQ
    |true=>simp only[if_true];rw[i1];simpa [rG]using hQ
   |or =>
    simp only[wd,c2]
    iterate 2 (walk_at"st"; walk_at"wd"; rw[aO])
    walk_at"st"; walk_at"wd"
    walk_at"st"
    rw[i0]
    walk_at"ex"
    cases b with
    |true=>simpa [rG]using hQ
    |false=>simp only[aq,if_false];rw[i1];simpa [rG]using hQ
   |bD =>
    simp only[wd,c2]
    iterate 3 (walk_at"st"; walk_at"wd"; rw[aO])
    walk_at"st"; walk_at"wd"
    walk_at"st"
    rw[i1]
    walk_at"ex"
    cases b' with
    |true=>simpa [rG]using hQ
    |false=>simp only[aq,if_false];walk_at"ex"; rw[i0];walk_at"ex"; simpa [rG]using hQ
   |same =>
    simp only[wd,c2]
    iterate 4 (walk_at"st"; walk_at"wd"; rw[aO])
    walk_at"st"; walk_at"wd"
    walk_at"st"
    rw[i0]
    rw[i1]
    walk_at"ex"
    exact hQ
   |since=>cases hp
theorem Cv (h:G.fns i=some mF){s:Sy}(hp:bR s=true){q:Nat}{m:Bool}{bs:List Bool}(hb:bs.length=(subs s).length)(hq:st q=some (.lst (bs.map .bl)))(hQ:Q (.bl (fV s m bs)) st):aI G (k+1) i [.str (wd s),.bl m,.ref q] st Q E:=by
 rw[bA h]
 simp only[mF,start]
 refine⟨rfl,?_⟩
 cases s with
 |one w a =>
  match bs,hb,hq,hQ with
  |[b],_,hq,hQ =>
   have i0:=fun(Q:VK)=>BL (st:=st) (Q:=Q) (j:=0) hq rfl
   simp only[l8]at i0
   cases w with
   |not=>cases hp
   |before =>
    simp only[wd,c1]
    walk_at"st"; walk_at"wd"
    walk_at"st"
    exact hQ
   |once =>
    simp only[wd,c1]
    iterate 1 (walk_at"st"; walk_at"wd"; rw[aO])
    walk_at"st"; walk_at"wd"
    walk_at"st"
    cases m with
    |true=>simpa [fV]using hQ
    |false=>simp only[aq,if_false];rw[i0];simpa [fV]using hQ
   |sofar =>
    simp only[wd,c1]
    iterate 2 (walk_at"st"; walk_at"wd"; rw[aO])
    walk_at"st"; walk_at"wd"
    walk_at"st"
    cases m with
    |false=>simpa [fV]using hQ
    |true=>simp only[if_true];rw[i0];simpa [fV]using hQ
 |two w a c =>
  match bs,hb,hq,hQ with
  |[b,b'],_,hq,hQ =>
   have i0:=fun(Q:VK)=>BL (st:=st) (Q:=Q) (j:=0) hq rfl
   have i1:=fun(Q:VK)=>BL (st:=st) (Q:=Q) (j:=1) hq rfl
   simp only[l8]at i0
   have e1:((1:Nat):Int)=1:=rfl
   rw[e1]at i1
   cases w with
   |since =>
    simp only[wd,c2]
    iterate 3 (walk_at"st"; walk_at"wd"; rw[aO])
    walk_at"st"
    rw[i1]
    walk_at"ex"
    cases b' with
    |true=>simpa [fV]using hQ
    |false =>
     simp only[aq,if_false]
     cases m with
     |false=>simpa [fV]using hQ
     |true=>simp only[if_true];rw[i0];simpa [fV]using hQ
   |_=>cases hp
 |_=>cases hp
end
mutual
theorem MQ {st:aB}:∀(a b:D),bK a=true->bV st a b=bM a b
 |.non,b,_=>by cases b<;>simp only[bV,bM]
 |.bl _,b,_=>by cases b<;>simp only[bV,bM]
 |.int _,b,_=>by cases b<;>simp only[bV,bM]
 |.str _,b,_=>by cases b<;>simp only[bV,bM]
 |.tup as,b,h=>by
  cases b with
  |tup bs=>simp only[bV,bM];exact ZF as bs (by simpa [bK]using h)
  |_=>simp only[bV,bM]
 |.ref _,_,h=>by simp [bK]at h
 |.dE _ _,_,h=>by simp [bK]at h
 |.bO _,_,h=>by simp [bK]at h
 |.exc _,_,h=>by simp [bK]at h
theorem ZF {st:aB}:∀(as bs:List D),bY as=true->kQ st as bs=gB as bs
 |[],[],_=>rfl
 |[],_::_,_=>rfl
 |_::_,[],_=>rfl
 |a::as,b::bs,h=>by
  simp only[bY,aw]at h
  simp only[kQ,gB]
  rw[MQ a b h.1,ZF as bs h.2]
end
theorem O0 (s t:Sy):bM (toD s) (toD t)=decide (s=t):=by rw[<-MQ (st:=fun _=>none) _ _ (mZ s)];exact rU s t
theorem KY (x:Sy)(f:List Sy):((f.map toD).any fun d=>bM d (toD x))=f.contains x:=by
 rw[<-OX (st:=fun _=>none),kz,kz]
 congr 1
 funext y
 simp only[Function.comp]
 rw[MQ _ _ (mZ y)]
theorem BQ:∀ s:Sy,jI (toD s)=true
 |.yes=>rfl
 |.no=>rfl
 |.cQ n=>rfl
 |.one w s=>by simp only[toD,jI,jR,BQ s,eu]
 |.two w s t=>by simp only[toD,jI,jR,BQ s,BQ t,eu]
theorem qE {s:Sy}(h:aR s<=8):keyed (toD s):=by
 have h1:=BQ s
 have h2:=rV s
 obtain⟨r,e⟩:=qH s
 rw[e]at h1 h2 ⊢
 simp only[jI]at h1
 simp only[cS]at h2
 exact⟨h1,by omega⟩
theorem HB {st:aB}{n:List Nat}:∀{names:List (List Nat)},n∈names->findD st (.str n) (names.map .str)=some (names.idxOf n)
 |[],h=>by cases h
 |m::r,h=>by
  simp only[ay,findD,iX]
  by_cases e:m=n
  ·subst e;simp [j3]
  ·rw[if_neg (by simpa using e),HB (by simpa [ey e]using h)]
   rw[j3,beq_eq_false_iff_ne.mpr e];rfl
theorem HZ {st:aB}{s:Sy}:∀{ps:List Sy},s∈ps->findD st (toD s) (ps.map toD)=some (ps.idxOf s)
 |[],h=>by cases h
 |m::r,h=>by
  simp only[ay,findD,rU]
  by_cases e:m=s
  ·subst e;simp [j3]
  ·rw[if_neg (by simpa using e),HZ (by simpa [ey e]using h)]
   rw[j3,beq_eq_false_iff_ne.mpr e];rfl
noncomputable def lB (names:List (List Nat))(aK:List Sy):Sy->D
 |.cQ n=>.int (names.idxOf n:Nat)
 |s=>if bR s then .int (aK.idxOf s:Nat)else .non
def lV (aK:List Sy):Sy->Prop
 |.one w s=>(p1 w=true->Sy.one w s∈aK)/\lV aK s
 |.two w s t=>(p2 w=true->Sy.two w s t∈aK)/\lV aK s/\lV aK t
 |_=>True
structure Good (names:List (List Nat))(aK:List Sy)(s:Sy):Prop where
 ov:over names s
 dp:aR s<=8
 pp:lV aK s
theorem Good.subs {names:List (List Nat)}{aK:List Sy}{s t:Sy}(h:Good names aK s)(ht:t∈subs s):Good names aK t:=by
 have hd:=DB ht
 have h0:=h.dp
 cases s with
 |one w a =>
 simp only[L3.subs,aj]at ht;subst ht
 exact⟨h.ov,by omega,h.pp.2⟩
 |two w a b =>
 simp only[L3.subs,cy,bw,or_false]at ht
 rcases ht with rfl|rfl
 ·exact⟨h.ov.1,by omega,h.pp.2.1⟩
 ·exact⟨h.ov.2,by omega,h.pp.2.2⟩
 |_=>cases ht
theorem Good.mem {names:List (List Nat)}{aK:List Sy}{s:Sy}(h:Good names aK s)(hp:bR s=true):s∈aK:=by
 cases s with
 |one w a=>exact h.pp.1 hp
 |two w a b=>exact h.pp.1 hp
 |_=>cases hp
def Oo (st:aB)(lr:Nat)(names:List (List Nat))(aK R:List Sy)(j:Nat)(s:Sy)(d:D):Prop:=∃(q:Nat)(is:List Nat),d=.tup [.str (wd s),lB names aK s,.ref q]/\q≠lr/\st q=some (.lst (is.map fun i=>.int (i:Nat)))/\is.length=(subs s).length /\
 ∀(m i:Nat)(t:Sy),is[m]? = some i->(subs s)[m]? = some t->i<j/\R[i]? = some t
def Hx (st:aB)(lr:Nat)(names:List (List Nat))(aK R:List Sy)(rows:List D):Prop:=rows.length=R.length/\∀ j s d,R[j]? = some s->rows[j]? = some d->Oo st lr names aK R j s d
noncomputable def uQ (n:Nat):List D:=(bb n).map fun i=>.int (i:Nat)
noncomputable def qO (names:List (List Nat))(lp lr ld:Nat):List (List Nat×D):=[(W "names", .tup (names.map .str)),(W "pieces", .ref lp),(W "rows", .ref lr),(W "row_of", .ref ld)]
structure jE (st:aB)(p lp lr ld:Nat)(names:List (List Nat))(aK R:List Sy)(xs:List (List Nat×D)):Prop where
 ins:st p=some (.ins (W "Table") (qO names lp lr ld++xs))
 pc:st lp=some (.lst (aK.map toD))
 rows:∃ rows,st lr=some (.lst rows)/\Hx st lr names aK R rows
 tab:st ld=some (.tab (R.map toD) (uQ R.length))
 ne:lp≠lr
 nd:R.Nodup
 gd:∀ s∈R,Good names aK s
 len:R.length<=5000
 pd:∀ s∈aK,aR s<=60
theorem X0 {names:List (List Nat)}{lp lr ld:Nat}{xs:List (List Nat×D)}:bN (qO names lp lr ld++xs) (W "names")=some (.tup (names.map .str)):=by
 simp only[qO,b7,bN];rw[if_pos bz]
theorem AR {names:List (List Nat)}{lp lr ld:Nat}{xs:List (List Nat×D)}:bN (qO names lp lr ld++xs) (W "pieces")=some (.ref lp):=by
 simp only[qO,b7,bN];rw[if_neg (by decide +kernel),if_pos bz]
theorem GD {names:List (List Nat)}{lp lr ld:Nat}{xs:List (List Nat×D)}:bN (qO names lp lr ld++xs) (W "rows")=some (.ref lr):=by
 simp only[qO,b7,bN];rw[if_neg (by decide +kernel),if_neg (by decide +kernel),if_pos bz]
theorem pN {names:List (List Nat)}{lp lr ld:Nat}{xs:List (List Nat×D)}:bN (qO names lp lr ld++xs) (W "row_of")=some (.ref ld):=by
 simp only[qO,b7,bN];rw[if_neg (by decide +kernel),if_neg (by decide +kernel),if_neg (by decide +kernel),if_pos bz]
theorem fE {names:List (List Nat)}{lp lr ld:Nat}{xs:List (List Nat×D)}{f:List Nat}(h1:W "names" ≠ f)(h2:W "pieces" ≠ f)(h3:W "rows" ≠ f)(h4:W "row_of" ≠ f):bN (qO names lp lr ld++xs) f=bN xs f:=by
 simp only[qO,b7,a9,bN];rw[if_neg h1,if_neg h2,if_neg h3,if_neg h4]
theorem jE.keep {st aA:aB}{p lp lr ld:Nat}{names:List (List Nat)}{aK R:List Sy}{xs:List (List Nat×D)}(T:jE st p lp lr ld names aK R xs)(h:Ext st aA):jE aA p lp lr ld names aK R xs:=by
 obtain⟨rows,r1,r2,r3⟩:=T.rows
 refine⟨h _ _ T.ins,h _ _ T.pc,⟨rows,h _ _ r1,r2,fun j s d e1 e2=>?_⟩,h _ _ T.tab,T.ne,T.nd,T.gd,T.len,T.pd⟩
 obtain⟨q,is,a1,a2,a3,a4⟩:=r3 j s d e1 e2
 exact⟨q,is,a1,a2,h _ _ a3,a4⟩
theorem MI {s:Sy}:∀{R:List Sy}{vs:List D}{j:Nat}{d:D},R.Nodup->R[j]? = some s->vs[j]? = some d->vs.length=R.length->lL (R.map toD) vs (toD s)=some d
 |[],_,_,_,_,h,_,_=>by simp at h
 |x::R,[],_,_,_,_,_,h=>by simp at h
 |x::R,v::vs,0,d,nd,h,hv,hl=>by
  simp at h hv
  subst h hv
  simp only[ay,lL,O0,decide_true,if_true]
 |x::R,v::vs,j+1,d,nd,h,hv,hl=>by
  simp at h hv hl
  have hx:x≠s:=fun e=>by subst e;exact(List.nodup_cons.mp nd).1 (bg h)
  simp only[ay,lL,O0]
  rw[if_neg (by simpa using hx)]
  exact MI (List.nodup_cons.mp nd).2 h hv hl
theorem OM (n:Nat):(uQ n).length=n:=by simp [uQ]
theorem RS {n j:Nat}(h:j<n):(uQ n)[j]? = some (.int (j:Nat)):=by simp [uQ,h]
theorem jE.look {st:aB}{p lp lr ld:Nat}{names:List (List Nat)}{aK R:List Sy}{xs:List (List Nat×D)}(T:jE st p lp lr ld names aK R xs){s:Sy}{j:Nat}(h:R[j]? = some s):lL (R.map toD) (uQ R.length) (toD s)=some (.int (j:Nat)):=by
 have hj:j<R.length:=by
  by_cases q:j<R.length
  ·exact q
  ·rw[cx (by omega)]at h;cases h
 exact MI T.nd h (RS hj) (OM _)
noncomputable def kY:Fn:=⟨2,2,[.iff (.cmp .eq (.ix (.v 1) (.c (.int 0))) (.c (.str (W "lamp")))) [.ret (.cT .index (.fld (W "Table") (W "names") (.v 0)) [(.ix (.v 1) (.c (.int 1)))])] [],.iff (.cmp .in_ (.ix (.v 1) (.c (.int 0))) (.c xF)) [.ret (.cT .index (.fld (W "Table") (W "pieces") (.v 0)) [(.v 1)])] [],.ret (.c .non)]⟩
noncomputable def sP:Fn:=⟨2,2,[.iff (.cmp .eq (.ix (.v 1) (.c (.int 0))) (.c (.str (W "before")))) [.ret (.dix (.fld (W "Table") (W "row_of") (.v 0)) (.ix (.v 1) (.c (.int 1))))] [],.ret (.dix (.fld (W "Table") (W "row_of") (.v 0)) (.v 1))]⟩
noncomputable def mW (iph inh:Nat):Fn:=⟨3,8,[.asg (.nm 3) (.lst []),.mB (.tp [4,5,6]) none [(.fld (W "Table") (W "rows") (.v 0))] [.asg (.nm 7) (.comp 1 [3] [0] true none [(.v 6)] [] (.ix (.v 1) (.v 0))),.iff (.cmp .eq (.v 4) (.c (.str (W "lamp")))) [.ex (.cT .append (.v 3) [(.ix (.v 2) (.v 5))])] [.iff (.cmp .in_ (.v 4) (.c xF)) [.ex (.cT .append (.v 3) [(.call iph [(.v 4),(.ix (.v 1) (.v 5)),(.v 7)])])] [.ex (.cT .append (.v 3) [(.call inh [(.v 4),(.v 7)])])]]],.ret (.v 3)]⟩
noncomputable def sQ:Fn:=⟨2,2,[.ret (.bi .tuple [(.comp 1 [1] [0] true none [(.fld (W "Table") (W "remembered_rows") (.v 0))] [] (.ix (.v 1) (.v 0)))])]⟩
theorem lD {α:Type}(t:α->D){g:aB->Prop}{turn:D->(St->aB->Prop)->St->aB->Prop}{N:St->aB->Prop}(I:List α->St->aB->Prop)(hg:∀ xs σ st,I xs σ st->g st)
 (ht:∀ x r σ st (M:St->aB->Prop),I (x::r) σ st->(∀ σ' aA,I r σ' aA->M σ' aA)->turn (t x) M σ st)(hN:∀ σ st,I [] σ st->N σ st):∀(xs:List α)(σ:St)(st:aB),I xs σ st->zO g turn N (xs.map t) σ st
 |[],σ,st,h=>⟨hg _ _ _ h,hN _ _ h⟩
 |x::xs,σ,st,h=>⟨hg _ _ _ h,ht x xs σ st _ h fun σ' aA h'=>lD t I hg ht hN xs σ' aA h'⟩
theorem B8 {names:List (List Nat)}{aK:List Sy}{s:Sy}(hl:fY s=false)(hp:bR s=true):lB names aK s=.int (aK.idxOf s:Nat):=by
 unfold lB
 split
 ·simp [fY]at hl
 ·rw[if_pos hp]
theorem QH {names:List (List Nat)}{aK:List Sy}{s:Sy}(hl:fY s=false)(hp:bR s=false):lB names aK s=.non:=by
 unfold lB
 split
 ·simp [fY]at hl
 ·rw[hp];rfl
section
variable {G:Prog}{k i iph inh:Nat}{st:aB}{Q:VK}{E:XK}{p lp lr ld:Nat}{names:List (List Nat)}{aK R:List Sy}{xs:List (List Nat×D)}
theorem U9 (h:G.fns i=some kY)(tins:st p=some (.ins (W "Table") (qO names lp lr ld++xs)))(tpc:st lp=some (.lst (aK.map toD)))(tpd:∀ s∈aK,aR s<=60){s:Sy}(g:Good names aK s)(hQ:Q (lB names aK s) st):aI G (k+1) i [.ref p,toD s] st Q E:=by
 rw[bA h]
 simp only[kY,start]
 refine⟨rfl,?_⟩
 obtain⟨r,er⟩:=qH s
 cases hl:fY s with
 |true =>
  cases s with
  |cQ n =>
   simp only[toD]
   walk_at"st"
   rw[if_pos (by decide +kernel)]
   walk_at"st"
   rw[cL tins X0]
   walk_at"ex"
   rw[HD,FN,M1,FN]
   refine⟨True.intro,DS,mN st names,?_⟩
   rw[HB g.ov,bF]
   exact hQ
  |_=>cases hl
 |false =>
  have h1:(wd s==W "lamp")=false:=by rw[FL];exact hl
  have eP:∀ st:aB,(Wo (oI.map .str) fun d=>bV st d (.str (wd s)))=bR s:=fun st=>(yH (wd s) oI).trans (GK s)
  rw[er]
  walk_at"st"
  rw[if_neg (by rw[h1];exact e9),aO]
  walk_at"st"
  simp only[xF]
  walk_at"ex"
  refine⟨(pW oI).s,?_⟩
  rw[eP st]
  cases hp:bR s with
  |true =>
   simp only[if_true]
   walk_at"st"
   rw[cL tins AR]
   walk_at"ex"
   rw[HD,wQ,aE tpc,M1,wQ,aE tpc,<-er]
   refine⟨True.intro,JH (by have:=g.dp;omega),EU tpd,?_⟩
   rw[HZ (g.mem hp),bF]
   have e:lB names aK s=.int (aK.idxOf s:Nat):=B8 hl hp
   rw[e]at hQ
   exact hQ
  |false =>
   simp only[aq,if_false,aO]
   walk_at"st"
   have e:lB names aK s=.non:=QH hl hp
   rw[e]at hQ
   exact hQ
theorem RT (s:Sy)(hp:bR s=true):(wd s==W "before")=true/\(∃ a,s=.one .before a)∨(wd s==W "before")=false/\nS s=s:=by
 cases s with
 |one w a=>cases w<;>first|exact .inl ⟨by simp only[wd,c1];decide +kernel,a,rfl⟩|exact .inr ⟨by simp only[wd,c1];decide +kernel,rfl⟩|cases hp
 |two w a b=>cases w<;>first|exact .inr ⟨by simp only[wd,c2];decide +kernel,rfl⟩|cases hp
 |_=>cases hp
theorem Jc (h:G.fns i=some sP)(T:jE st p lp lr ld names aK R xs){s:Sy}(hp:bR s=true)(hd:aR s<=8){j:Nat}(hj:R[j]? = some (nS s))(hQ:Q (.int (j:Nat)) st):aI G (k+1) i [.ref p,toD s] st Q E:=by
 rw[bA h]
 simp only[sP,start]
 refine⟨rfl,?_⟩
 rcases RT s hp with⟨e1,a,rfl⟩|⟨e1,e2⟩
 ·simp only[toD,c1]
  walk_at"st"
  rw[if_pos (by decide +kernel)]
  walk_at"st"
  rw[cL T.ins pN]
  walk_at"ex"
  simp only[nS]at hj
  simp only[aR]at hd
  rw[zJ T.tab (qE (by omega)) (T.look hj)]
  exact hQ
 ·obtain⟨r,er⟩:=qH s
  rw[er]
  walk_at"st"
  rw[if_neg (by rw[e1];exact e9),aO]
  walk_at"st"
  rw[cL T.ins pN]
  walk_at"ex"
  rw[e2]at hj
  rw[<-er,zJ T.tab (qE hd) (T.look hj)]
  exact hQ
theorem GW (h:G.fns i=some (mW iph inh))(hn:G.fns inh=some pH)(hpa:G.fns iph=some mF)(T:jE st p lp lr ld names aK R xs){mem set:List Bool}(V:Sy->Bool)
  (v1:∀ n∈names,set[names.idxOf n]? = some (V (.cQ n)))(v2:∀ s∈aK,bR s=true->∃ m,mem[aK.idxOf s]? = some m/\V s=fV s m ((subs s).map V))(v3:∀ s,bR s=false->fY s=false->V s=rG s ((subs s).map V))
  (hQ:∀ aA q,st q=none->Ext st aA->aA q=some (.lst (R.map fun s=>.bl (V s)))->Q (.ref q) aA):aI G (k+2) i [.ref p,.tup (mem.map .bl),.tup (set.map .bl)] st Q E:=by
 have hL:bH=16777216:=rfl
 rw[bA h]
 simp only[mW,start]
 refine⟨rfl,?_⟩
 walk_at"st"
 refine cG (by simp) fun q aC x1 hq hq1=>?_
 obtain⟨rows,r1,r2,r3⟩:=T.rows
 have T1:=T.keep x1
 walk_at"st"
 rw[cL T1.ins GD]
 rw[nC,aE (x1 _ _ r1)]
 have ez:rows=(R.zip rows).map Prod.snd:=by rw[List.map_snd_zip (by omega)]
 rw[ez]
 have qlr:q≠lr:=fun z=>by rw[z,r1]at hq;cases hq
 refine lD Prod.snd (I:=fun r σ aA=>∃ j o4 o5 o6 o7,r=(R.zip rows).drop j/\σ=[some (.ref p),some (.tup (mem.map .bl)),some (.tup (set.map .bl)),some (.ref q),o4,o5,o6,o7]/\bL [q] aC aA/\aA q=some (.lst ((R.take j).map fun s=>.bl (V s)))) (fun r σ aA ⟨j,_,_,_,_,_,_,k1,_⟩=>?_) (fun x r σ aA M ⟨j,o4,o5,o6,o7,e1,e2,k1,k2⟩ hM=>?_) (fun σ aA ⟨j,o4,o5,o6,o7,e1,e2,k1,k2⟩=>?_) _ _ _ ⟨0,none,none,none,none,rfl,rfl,.refl,by simpa using hq1⟩
 ·intro a ha
  simp only[aj]at ha
  subst ha
  rw[x1 _ _ r1]
  exact k1 _ _ (by simpa using qlr.symm) (x1 _ _ r1)
 ·-- a row
  have hz:j<(R.zip rows).length:=by
   by_cases z:j<(R.zip rows).length
   ·exact z
   ·rw[fx (by omega)]at e1;cases e1
  have hjR:j<R.length:=by rw[vx]at hz;omega
  have hjr:j<rows.length:=by rw[vx]at hz;omega
  rw[b9 hz]at e1
  injection e1 with e3 e4
  have ex:x=(R[j],rows[j]):=by rw[e3];simp
  obtain⟨s,d⟩:=x
  injection ex with es ed
  have hs:R[j]? = some s:=by rw[ah hjR,es]
  have hd:rows[j]? = some d:=by rw[ah hjr,ed]
  obtain⟨qq,is,f1,f2,f3,f4,f5⟩:=r3 j s d hs hd
  have gs:=T.gd s (bg hs)
  have hlR:=T.len
  subst e2
  have qqq:qq≠q:=fun z=>by rw[z,hq]at f3;cases f3
  have f3':aA qq=some (.lst (is.map fun i=>.int (i:Nat))):=k1 _ _ (by simpa using qqq) (x1 _ _ f3)
  have hsub:(subs s).length<=2:=by cases s<;>simp [subs]
  show lK false [4,5,6] d _ _
  rw[f1]
  walk_at"ex"
  walk_at"st"
  rw[aE f3']
  have hval:∀ i∈is,∃ t,R[i]? = some t/\i<j:=fun i hi=>by
   obtain⟨m,hm⟩:=List.mem_iff_getElem?.mp hi
   have hml:m<(subs s).length:=by
    have:m<is.length:=by
     by_cases z:m<is.length
     ·exact z
     ·rw[cx (by omega)]at hm;cases hm
    omega
   obtain⟨a,b⟩:=f5 m i _ hm (ah hml)
   exact⟨_,b,a⟩
  refine fB (fun i:Nat=>D.int (i:Nat)) (fun i=>.bl (V ((R[i]?).getD .yes))) is [] aA (fun aZ y a ha=>?_) (fun i hi aZ K y1 hK=>?_) (by simp only[be];omega) fun aF y2=>?_
  ·simp only[aj]at ha
   subst ha
   rw[f3',y _ _ f3']
  ·obtain⟨t,ht,hij⟩:=hval i hi
   show nU _ _ aZ _
   have hlen:i<((R.take j).map fun s=>D.bl (V s)).length:=by simp;omega
   rw[eO (y1 _ _ k2),eJ hlen,bc,List.getElem?_take,if_pos hij,ht]
   have:=hK aZ .refl
   rw[ht]at this
   exact this
  rw[a9]
  have hparts:(is.map fun i=>D.bl (V ((R[i]?).getD .yes)))=((subs s).map V).map .bl:=by
   apply zg
   intro m
   rw[bc,bc,bc]
   cases hm:is[m]? with
   |none =>
    have:is.length<=m:=by
     by_cases z:m<is.length
     ·rw[ah z]at hm;cases hm
     ·omega
    rw[cx (by omega)];rfl
   |some i =>
    have hml:m<(subs s).length:=by
     have:m<is.length:=by
      by_cases z:m<is.length
      ·exact z
      ·rw[cx (by omega)]at hm;cases hm
     omega
    obtain⟨_,b⟩:=f5 m i _ hm (ah hml)
    rw[ah hml]
    simp only[j4]
    rw[b];rfl
  rw[hparts]
  refine cG (by simp only[ab];omega) fun pp aX y3 hpp pC=>?_
  walk_at"ex"
  have k3:aX q=some (.lst ((R.take j).map fun s=>.bl (V s))):=y3 _ _ (y2 _ _ k2)
  have kk3:bL [q] aC aX:=fun a o na e=>y3 _ _ (y2 _ _ (k1 a o na e))
  have fin:∀(σ':St),(∃ o4 o5 o6 o7,σ'=[some (.ref p),some (.tup (mem.map .bl)),some (.tup (set.map .bl)),some (.ref q),o4,o5,o6,o7])->∀ b,b=V s->M σ' (put aX q (.lst (((R.take j).map fun s=>.bl (V s))++[.bl b]))):=fun σ' ⟨o4,o5,o6,o7,e⟩ b hb=>by
   refine hM σ' _ ⟨j+1,o4,o5,o6,o7,e4,e,fun a o na e=>by rw[aM (by simpa using na)];exact kk3 a o na e,?_⟩
   rw[aQ,List.take_succ,hs,hb]
   simp
  have hlq:((R.take j).map fun s=>D.bl (V s)).length<bH:=by simp;omega
  cases hl:fY s with
  |true =>
   cases s with
   |cQ n =>
    simp only[wd]
    walk_at"st"
    rw[if_pos (by decide +kernel)]
    walk_at"st"
    rw[aE k3]
    refine⟨True.intro,?_⟩
    simp only[lB]
    have hv:=v1 n gs.ov
    have hlen:names.idxOf n<(set.map D.bl).length:=by
     rw[ab]
     by_cases z:names.idxOf n<set.length
     ·exact z
     ·rw[cx (by omega)]at hv;cases hv
    rw[mR,eJ hlen,bc,hv,j4,bF,aE k3]
    refine⟨hlq,?_⟩
    simp only[aO]
    exact fin _ ⟨_,_,_,_,rfl⟩ _ rfl
   |_=>cases hl
  |false =>
   have h1:(wd s==W "lamp")=false:=by rw[FL];exact hl
   have eP:∀ st:aB,(Wo (oI.map .str) fun d=>bV st d (.str (wd s)))=bR s:=fun st=>(yH (wd s) oI).trans (GK s)
   walk_at"st"
   rw[if_neg (by rw[h1];exact e9)]
   walk_at"st"
   simp only[xF]
   walk_at"ex"
   refine⟨(pW oI).s,?_⟩
   rw[eP aX]
   cases hp:bR s with
   |true =>
    simp only[if_true]
    walk_at"st"
    rw[aE k3]
    refine⟨True.intro,?_⟩
    obtain⟨m,hm,hV⟩:=v2 s (gs.mem hp) hp
    have e:lB names aK s=.int (aK.idxOf s:Nat):=B8 hl hp
    rw[e]
    have hlen:aK.idxOf s<(mem.map D.bl).length:=by
     rw[ab]
     by_cases z:aK.idxOf s<mem.length
     ·exact z
     ·rw[cx (by omega)]at hm;cases hm
    walk_at"ex"
    (try rw[mR])
    rw[eJ hlen,bc,hm,j4,bF]
    refine Cv hpa hp (by simp) pC ?_
    rw[aE k3]
    refine⟨hlq,?_⟩
    simp only[aO]
    exact fin _ ⟨_,_,_,_,rfl⟩ _ hV.symm
   |false =>
    simp only[aq,if_false]
    walk_at"st"
    rw[aE k3]
    refine⟨True.intro,?_⟩
    refine Ha hn hp hl (by simp) pC ?_
    rw[aE k3]
    refine⟨hlq,?_⟩
    simp only[aO]
    exact fin _ ⟨_,_,_,_,rfl⟩ _ (v3 s hp hl).symm
 ·-- the end
  subst e2
  have hj:R.length<=j:=by
   have:(R.zip rows).length<=j:=by
    by_cases z:j<(R.zip rows).length
    ·rw[b9 z]at e1;cases e1
    ·omega
   rw[vx]at this;omega
  rw[List.take_of_length_le hj]at k2
  walk_at"st"
  exact hQ aA q hq (fun a o e=>k1 a o (by intro z;simp only[aj]at z;rw[z,hq]at e;cases e) (x1 a o e)) k2
end
noncomputable def lT (ie iw ipo:Nat):Fn:=⟨2,4,[.iff (.din false (.v 1) (.fld (W "Table") (W "row_of") (.v 0))) [.ret (.c .non)] [],.mB (.nm 2) none [(.call iw [(.v 1)])] [.ex (.mcl (W "Table") (W "enter") ie (.v 0) [(.v 2)])],.asg (.nm 3) (.comp 1 [0] [0] true none [(.call iw [(.v 1)])] [] (.dix (.fld (W "Table") (W "row_of") (.v 1)) (.v 0))),.asg (.dk (.fld (W "Table") (W "row_of") (.v 0)) (.v 1)) (.bi .len [(.fld (W "Table") (W "rows") (.v 0))]),.ex (.cT .append (.fld (W "Table") (W "rows") (.v 0)) [(.tup [(.ix (.v 1) (.c (.int 0))),(.mcl (W "Table") (W "place_of") ipo (.v 0) [(.v 1)]),(.v 3)])])]⟩
theorem jH {α:Type}{xs:List α}{j:Nat}{x:α}(h:xs[j]? = some x):j<xs.length:=by
 by_cases q:j<xs.length
 ·exact q
 ·rw[cx (by omega)]at h;cases h
section
variable {G:Prog}{k i ie iw ipo:Nat}{st:aB}{Q:VK}{E:XK}{p lp lr ld lm:Nat}{names:List (List Nat)}{aK R:List Sy}{xs fs:List (List Nat×D)}
theorem LK (h:G.fns i=some sQ)(ins:st p=some (.ins (W "Table") fs))(hf:bN fs (W "remembered_rows")=some (.ref lm)){js:List Nat}(hlm:st lm=some (.lst (js.map fun j=>.int (j:Nat)))){q:Nat}{V:Sy->Bool}(hq:st q=some (.lst (R.map fun s=>.bl (V s))))(hl:js.length=aK.length)(hl2:aK.length<=5000)
  (hj:∀(m j:Nat)(s:Sy),js[m]? = some j->aK[m]? = some s->R[j]? = some (nS s))(hQ:∀ aA,Ext st aA->Q (.tup (aK.map fun s=>.bl (V (nS s)))) aA):aI G (k+1) i [.ref p,.ref q] st Q E:=by
 have hL:bH=16777216:=rfl
 rw[bA h]
 simp only[sQ,start]
 refine⟨rfl,?_⟩
 walk_at"st"
 rw[cL ins hf,nC,aE hlm]
 refine fB (fun j:Nat=>D.int (j:Nat)) (fun j=>.bl (V ((R[j]?).getD .yes))) js [] st (fun aZ y a ha=>?_) (fun j hjs aZ K y1 hK=>?_) (by simp only[be];omega) fun aF y2=>?_
 ·simp only[aj]at ha
  subst ha
  rw[hlm,y _ _ hlm]
 ·obtain⟨m,hm⟩:=List.mem_iff_getElem?.mp hjs
  have hml:m<aK.length:=by have:=jH hm;omega
  have ht:=hj m j _ hm (ah hml)
  show nU _ _ aZ _
  have hlen:j<(R.map fun s=>D.bl (V s)).length:=by simpa using jH ht
  rw[eO (y1 _ _ hq),eJ hlen,bc,ht]
  have:=hK aZ .refl
  rw[ht]at this
  exact this
 rw[a9]
 have e:(js.map fun j=>D.bl (V ((R[j]?).getD .yes)))=aK.map fun s=>.bl (V (nS s)):=by
  apply zg
  intro m
  rw[bc,bc]
  cases hm:js[m]? with
  |none =>
   have:js.length<=m:=by
    by_cases z:m<js.length
    ·rw[ah z]at hm;cases hm
    ·omega
   rw[cx (by omega)];rfl
  |some j =>
   have hml:m<aK.length:=by have:=jH hm;omega
   have ht:=hj m j _ hm (ah hml)
   rw[ah hml]
   simp only[j4]
   rw[ht];rfl
 rw[e]
 refine cG (by simp only[ab];omega) fun pp aX y3 hpp pC=>?_
 walk_at"ex"
 rw[aE pC]
 refine⟨by simp only[ab];omega,hQ aX (y2.trans y3)⟩
theorem XS (h:G.fns ie=some (lT ie iw ipo))(hw:G.fns iw=some fQ)(hpo:G.fns ipo=some kY)(hxe:bN xs (W "enter")=none)(hxp:bN xs (W "place_of")=none):∀(n:Nat){s:Sy}{k:Nat}{st:aB}{Q:VK}{E:XK}{R:List Sy},aR s<=n->jE st p lp lr ld names aK R xs->Good names aK s->R.length+sz s<=5000 ->
  (∀ aA R',bL [lr,ld] st aA->jE aA p lp lr ld names aK R' xs->(∀ x∈R,x∈R')->s∈R'->(∀ x∈R',x∈R∨sz x<=sz s)->R'.length<=R.length+sz s->Q .non aA) ->
  aI G (k+n+2) ie [.ref p,toD s] st Q E:=by
 have hL:bH=16777216:=rfl
 intro n
 induction n with
 |zero=>intro s k st Q E R hn;cases s<;>simp [aR]at hn
 |succ n ih =>
  intro s k st Q E R hn T g hlen hQ
  rw[bA h]
  simp only[lT,start]
  refine⟨rfl,?_⟩
  have kd:=qE g.dp
  walk_at"st"
  rw[cL T.ins pN,VB T.tab kd,KY]
  (try walk_at"ex")
  cases hc:R.contains s with
  |true =>
   simp only[if_true]
   walk_at"st"
   have hs:s∈R:=by simpa using hc
   exact hQ st R .refl T (fun x hx=>hx) hs (fun x hx=>.inl hx) (by omega)
  |false =>
   have hs:s∉R:=by simpa using hc
   simp only[aq,if_false,aO]
   walk_at"st"
   refine uK (k:=k+n+1) hw ?_
   walk_at"ex"
   have hss:=OS s
   have hsub:(subs s).length<=2:=by cases s<;>simp [subs]
   have hszL:∀(l:List Sy)(t:Sy),t∈l->sz t<=fN l:=fun l=>by
    induction l with
    |nil=>intro t ht;cases ht
    |cons a l ihl =>
     intro t ht
     rw[kK]
     rcases List.mem_cons.mp ht with rfl|ht
     ·omega
     ·have:=ihl t ht;omega
   refine lD toD (I:=fun r σ aA=>∃ R1 o2 dn,subs s=dn++r/\σ=[some (.ref p),some (toD s),o2,none]/\bL [lr,ld] st aA/\jE aA p lp lr ld names aK R1 xs/\(∀ x∈R,x∈R1)/\(∀ t∈dn,t∈R1)/\(∀ x∈R1,x∈R∨sz x<sz s)/\R1.length<=R.length+fN dn) (fun r σ aA hI a ha=>by cases ha) (fun x r σ aA M hI hM=>?_) (fun σ aA hI=>?_) _ _ _ ⟨R,none,[],rfl,rfl,.refl,T,fun x hx=>hx,fun t ht=>(by cases ht),fun x hx=>.inl hx,by simp [fN]⟩
   ·obtain⟨R1,o2,dn,e1,e2,k1,T1,a1,a2,a3,a4⟩:=hI
    subst e2
    have hx:x∈subs s:=by rw[e1];simp
    have hxd:=DB hx
    have hdn:fN dn+sz x<=fN (subs s):=by rw[e1,mH,kK];omega
    walk_at"st"
    rw[fW T1.ins (by rw[fE (by decide +kernel) (by decide +kernel) (by decide +kernel) (by decide +kernel)];exact hxe)]
    refine⟨True.intro,?_⟩
    refine ih (k:=k) (by omega) T1 (g.subs hx) (by omega) fun aF R2 b1 b2 b3 b4 b5 b6=>?_
    rw[aO]
    refine hM _ aF ⟨R2,_,dn++[x],by simp [e1],rfl,k1.trans b1,b2,fun y hy=>b3 y (a1 y hy),fun t ht=>?_,fun y hy=>?_,?_⟩
    ·rcases List.mem_append.mp ht with ht|ht
     ·exact b3 t (a2 t ht)
     ·simp only[aj]at ht;subst ht;exact b4
    ·rcases b5 y hy with hy|hy
     ·exact a3 y hy
     ·exact .inr (by omega)
    ·rw[mH];simp only[kK];simp only[fN,fe,Vw]at *;omega
   ·obtain⟨R1,o2,dn,e1,e2,k1,T1,a1,a2,a3,a4⟩:=hI
    subst e2
    rw[eh]at e1
    subst e1
    have hs1:s∉R1:=fun z=>by
     rcases a3 s z with z|z
     ·exact hs z
     ·omega
    walk_at"st"
    refine uK (k:=k+n+1) hw ?_
    walk_at"ex"
    have hidx:∀ t∈subs s,R1[R1.idxOf t]? = some t:=fun t ht=>by
     have hm:=a2 t ht
     have:=List.idxOf_lt_length_iff.mpr hm
     rw[ah this]
     simp
    refine fB toD (fun t=>.int (R1.idxOf t:Nat)) _ [] aA (fun aZ y a ha=>by cases ha) (fun t ht aZ K y1 hK=>?_) (by simp only[be];omega) fun aF y2=>?_
    ·have T'':=T1.keep y1
     show qZ _ _ _ aZ _
     rw[cL T''.ins pN]
     have gt:=g.subs ht
     show tE _ _ aZ _
     rw[zJ T''.tab (qE gt.dp) (T''.look (hidx t ht))]
     exact hK aZ .refl
    rw[a9]
    refine cG (by simp only[ab];omega) fun q aX y3 hq hq3=>?_
    have T3:=T1.keep (y2.trans y3)
    have kk3:bL [lr,ld] st aX:=k1.trans (y2.trans y3).keep
    obtain⟨rows,r1,r2,r3⟩:=T3.rows
    walk_at"ex"
    walk_at"st"
    rw[cL T3.ins GD]
    rw[GA,fF r1]
    rw[cL T3.ins pN]
    have hnew:(((R1.map toD).any fun d=>bM d (toD s))=false):=by rw[KY];simpa using hs1
    have hl1:R1.length<5000:=by omega
    rw[Q6 T3.tab kd hnew (by simp;omega)]
    generalize hst4:put aX ld (.tab (R1.map toD++[toD s]) (uQ R1.length++[.int (rows.length:Nat)]))=cN
    have lrld:lr≠ld:=fun z=>by rw[z,T3.tab]at r1;cases r1
    have pld:p≠ld:=fun z=>by have:=T3.ins;rw[z,T3.tab]at this;cases this
    have plr:p≠lr:=fun z=>by have:=T3.ins;rw[z,r1]at this;cases this
    have lpld:lp≠ld:=fun z=>by have:=T3.pc;rw[z,T3.tab]at this;cases this
    have ins4:cN p=some (.ins (W "Table") (qO names lp lr ld++xs)):=by rw[<-hst4,aM pld];exact T3.ins
    have lr4:cN lr=some (.lst rows):=by rw[<-hst4,aM lrld];exact r1
    have q4:cN q=some (.lst ((subs s).map fun t=>.int (R1.idxOf t:Nat))):=by
     rw[<-hst4,aM (fun z=>by rw[z,T3.tab]at hq3;cases hq3)];exact hq3
    have tab4:cN ld=some (.tab ((R1++[s]).map toD) (uQ (R1++[s]).length)):=by
     rw[<-hst4,aQ,r2]
     simp [uQ,j1]
    have qlr:q≠lr:=fun z=>by
     rw[z]at hq
     obtain⟨rows',r1',_⟩:=(T1.keep y2).rows
     rw[r1']at hq;cases hq
    walk_at"st"
    rw[cL ins4 GD,wX,aE lr4]
    refine⟨True.intro,?_⟩
    obtain⟨r,er⟩:=qH s
    rw[er]
    walk_at"ex"
    rw[<-er,fW ins4 (by rw[fE (by decide +kernel) (by decide +kernel) (by decide +kernel) (by decide +kernel)];exact hxp)]
    refine⟨True.intro,?_⟩
    have T4:jE (put cN lr (.lst (rows++[.tup [.str (wd s),lB names aK s,.ref q]]))) p lp lr ld names aK (R1++[s]) xs:=by
     have keep4:∀ a o,a≠lr->a≠ld->aX a=some o->(put cN lr (.lst (rows++[.tup [.str (wd s),lB names aK s,.ref q]]))) a=some o:=fun a o n1 n2 e=>by
      rw[aM n1,<-hst4,aM n2];exact e
     refine⟨keep4 _ _ plr pld T3.ins,keep4 _ _ T3.ne lpld T3.pc,⟨_,aQ,by simp [r2],fun j t d ht hd=>?_⟩,?_,T3.ne,?_,?_,by simp;omega,T3.pd⟩
     ·by_cases hj:j<R1.length
      ·rw[bq hj]at ht
       rw[bq (by omega)]at hd
       obtain⟨q',is,c1,c2,c3,c4,c5⟩:=r3 j t d ht hd
       refine⟨q',is,c1,c2,keep4 _ _ c2 (fun z=>by rw[z,T3.tab]at c3;cases c3) c3,c4,fun m i' t' h1 h2=>?_⟩
       obtain⟨d1,d2⟩:=c5 m i' t' h1 h2
       exact⟨d1,by rw[bq (jH d2)];exact d2⟩
      ·have hj2:j=R1.length:=by have:=jH ht;simp at this;omega
       subst hj2
       rw[cp (az _)]at ht
       rw[cp (by omega)]at hd
       simp at ht
       simp [r2]at hd
       subst ht hd
       refine⟨q,(subs s).map fun t=>R1.idxOf t,rfl,qlr,?_,by simp,fun m i' t' h1 h2=>?_⟩
       ·rw[aM qlr,q4,l9];rfl
       ·rw[bc,h2]at h1
        simp at h1
        subst h1
        have ht':=bg h2
        have:=hidx t' ht'
        exact⟨jH this,by rw[bq (jH this)];exact this⟩
     ·rw[aM lrld.symm];exact tab4
     ·rw[ow]
      exact⟨T3.nd,by simp,fun a ha b hb=>by simp only[aj]at hb;subst hb;exact fun z=>hs1 (z▸ha)⟩
     ·intro t ht
      rcases List.mem_append.mp ht with ht|ht
      ·exact T3.gd t ht
      ·simp only[aj]at ht;subst ht;exact g
    refine U9 (k:=k+n+1) hpo ins4 (by rw[<-hst4,aM lpld];exact T3.pc) T3.pd g ?_
    rw[aE lr4]
    refine⟨by omega,?_⟩
    simp only[aO]
    refine hQ _ (R1++[s]) (fun a o na e=>?_) T4 (fun x hx=>by simp [a1 x hx]) (by simp) (fun x hx=>?_) (by simp;omega)
    ·simp only[cy,bw,or_false,not_or]at na
     rw[aM na.1,<-hst4,aM na.2]
     exact kk3 a o (by simp [na]) e
    ·rcases List.mem_append.mp hx with hx|hx
     ·rcases a3 x hx with hx|hx
      ·exact .inl hx
      ·exact .inr (by omega)
     ·simp only[aj]at hx;subst hx;exact .inr (az _)
end
noncomputable def jJ (iz ie irr:Nat):Fn:=⟨3,4,[.asg (.fl (W "Table") (W "names") (.v 0)) (.v 1),.asg (.fl (W "Table") (W "pieces") (.v 0)) (.call iz [(.v 2)]),.asg (.fl (W "Table") (W "rows") (.v 0)) (.lst []),.asg (.fl (W "Table") (W "row_of") (.v 0)) .dnew,.mB (.nm 3) none [(.v 2)] [.ex (.mcl (W "Table") (W "enter") ie (.v 0) [(.v 3)])],.asg (.fl (W "Table") (W "first_memory") (.v 0)) (.bi .tuple [(.comp 1 [] [0] true none [(.fld (W "Table") (W "pieces") (.v 0))] [] (.cmp .eq (.ix (.v 0) (.c (.int 0))) (.c (.str (W "sofar")))))]),.asg (.fl (W "Table") (W "remembered_rows") (.v 0)) (.comp 1 [0] [0] true none [(.fld (W "Table") (W "pieces") (.v 0))] [] (.mcl (W "Table") (W "remembered_row") irr (.v 1) [(.v 0)]))]⟩
theorem LV {f:List Sy}{s x:Sy}(h:x∈f):x∈eY f s:=by
 unfold eY;split
 ·exact px _ h
 ·exact h
theorem KG {f:List Sy}{s:Sy}(h:bR s=true):s∈eY f s:=by
 unfold eY
 rw[h]
 cases hc:f.contains s with
 |true=>simpa using hc
 |false=>simp
theorem nJ:∀(s:Sy){f:List Sy}{x:Sy},x∈f->x∈aK s f
 |.yes,_,_,h=>h
 |.no,_,_,h=>h
 |.cQ _,_,_,h=>h
 |.one w s,_,_,h=>nJ s (LV h)
 |.two w s t,_,_,h=>nJ t (nJ s (LV h))
theorem sO {f g:List Sy}(h:∀ x∈f,x∈g):∀ s:Sy,lV f s->lV g s
 |.yes,_=>trivial
 |.no,_=>trivial
 |.cQ _,_=>trivial
 |.one w s,⟨a,b⟩=>⟨fun q=>h _ (a q),sO h s b⟩
 |.two w s t,⟨a,b,c⟩=>⟨fun q=>h _ (a q),sO h s b,sO h t c⟩
theorem EO:∀(s:Sy)(f:List Sy),lV (aK s f) s
 |.yes,_=>trivial
 |.no,_=>trivial
 |.cQ _,_=>trivial
 |.one w s,f=>⟨fun q=>nJ s (KG q),EO s _⟩
 |.two w s t,f=>⟨fun q=>nJ t (nJ s (KG q)),sO (fun x hx=>nJ t hx) s (EO s _),EO t _⟩
theorem K4:∀(l:List Sy){f:List Sy}{x:Sy},x∈f->x∈cF l f
 |[],_,_,h=>h
 |s::l,_,_,h=>K4 l (nJ s h)
theorem G2:∀(l:List Sy)(f:List Sy)(s:Sy),s∈l->lV (cF l f) s
 |[],_,_,h=>by cases h
 |a::l,f,s,h=>by
  rcases List.mem_cons.mp h with rfl|h
  ·exact sO (fun x hx=>K4 l hx) s (EO s f)
  ·exact G2 l _ s h
theorem U1 {R f:List Sy}{s:Sy}(hf:∀ x∈f,x∈R)(hs:s∈R):∀ x∈eY f s,x∈R:=by
 unfold eY;split
 ·intro x hx
  rcases List.mem_append.mp hx with hx|hx
  ·exact hf x hx
  ·simp only[aj]at hx;subst hx;exact hs
 ·exact hf
theorem J6 {R:List Sy}(cl:∀ s∈R,∀ t∈subs s,t∈R):∀(s:Sy){f:List Sy},s∈R->(∀ x∈f,x∈R)->∀ x∈aK s f,x∈R
 |.yes,_,hs,hf=>hf
 |.no,_,hs,hf=>hf
 |.cQ _,_,hs,hf=>hf
 |.one w s,f,hs,hf=>J6 cl s (cl _ hs s (by simp [subs])) (U1 hf hs)
 |.two w s t,f,hs,hf=>J6 cl t (cl _ hs t (by simp [subs])) (J6 cl s (cl _ hs s (by simp [subs])) (U1 hf hs))
theorem R3 {R:List Sy}(cl:∀ s∈R,∀ t∈subs s,t∈R):∀(l f:List Sy),(∀ s∈l,s∈R)->(∀ x∈f,x∈R)->∀ x∈cF l f,x∈R
 |[],_,_,hf=>hf
 |s::l,f,hl,hf=>R3 cl l _ (fun t ht=>hl t (by simp [ht])) (J6 cl s (hl s (by simp)) hf)
theorem JJ {f:List Sy}{s:Sy}(hf:∀ x∈f,bR x=true):∀ x∈eY f s,bR x=true:=by
 unfold eY
 by_cases h:(bR s && !f.contains s)=true
 ·rw[if_pos h]
  simp only[aw]at h
  intro x hx
  rcases List.mem_append.mp hx with hx|hx
  ·exact hf x hx
  ·simp only[aj]at hx;subst hx;exact h.1
 ·rw[if_neg h];exact hf
theorem xQ:∀(s:Sy){f:List Sy},(∀ x∈f,bR x=true)->∀ x∈aK s f,bR x=true
 |.yes,_,hf=>hf
 |.no,_,hf=>hf
 |.cQ _,_,hf=>hf
 |.one w s,f,hf=>xQ s (JJ hf)
 |.two w s t,f,hf=>xQ t (xQ s (JJ hf))
theorem IG:∀(l f:List Sy),(∀ x∈f,bR x=true)->∀ x∈cF l f,bR x=true
 |[],_,hf=>hf
 |s::l,f,hf=>IG l _ (xQ s hf)
theorem xD:∀(l:List Sy){f:List Sy}{n:Nat},(∀ x∈f,aR x<=n)->(∀ x∈l,aR x<=n)->∀ x∈cF l f,aR x<=n
 |[],_,_,hf,_=>hf
 |s::l,f,n,hf,hl=>xD l (BH s hf (hl s (by simp))) fun x hx=>hl x (by simp [hx])
theorem WH (s:Sy):(wd s==W "sofar")=dU s:=by
 cases s with
 |one w s=>cases w<;>(simp only[wd,dU,c1];decide +kernel)
 |two w s t=>cases w<;>(simp only[wd,dU,c2];decide +kernel)
 |_=>(simp only[wd,dU];decide +kernel)
theorem gU {f:List Nat}{d:D}:∀{fs:List (List Nat×D)},bN fs f=none->tB f d fs=fs++[(f,d)]
 |[],_=>rfl
 |(g,x)::r,h=>by
  simp only[bN]at h
  by_cases q:g=f
  ·rw[if_pos q]at h;cases h
  ·rw[if_neg q]at h
   simp only[tB,if_neg q,gU h,b7]
theorem jE.closed {st:aB}{p lp lr ld:Nat}{names:List (List Nat)}{aK R:List Sy}{xs:List (List Nat×D)}(T:jE st p lp lr ld names aK R xs):∀ s∈R,∀ t∈subs s,t∈R:=by
 intro s hs t ht
 obtain⟨rows,_,r2,r3⟩:=T.rows
 obtain⟨j,hj⟩:=List.mem_iff_getElem?.mp hs
 have hjr:j<rows.length:=by have:=jH hj;omega
 obtain⟨q,is,_,_,_,c4,c5⟩:=r3 j s _ hj (ah hjr)
 obtain⟨m,hm⟩:=List.mem_iff_getElem?.mp ht
 have hmi:m<is.length:=by have:=jH hm;omega
 exact bg (c5 m _ t (ah hmi) hm).2
noncomputable def wK (aK:List Sy)(lm:Nat):List (List Nat×D):=[(W "first_memory", .tup (aK.map fun s=>.bl (dU s))),(W "remembered_rows", .ref lm)]
section
variable {G:Prog}{k i ie iw ipo iz irr iti:Nat}{st:aB}{Q:VK}{E:XK}{p l:Nat}{names:List (List Nat)}{ss:List Sy}
structure Table (st:aB)(p:Nat)(names:List (List Nat))(aK R:List Sy):Prop where
 h:∃(lp lr ld lm:Nat)(js:List Nat),jE st p lp lr ld names aK R (wK aK lm)/\st lm=some (.lst (js.map fun(j:Nat)=>.int (j:Nat)))/\js.length=aK.length/\(∀(m j:Nat)(s:Sy),js[m]? = some j->aK[m]? = some s->R[j]? = some (nS s))/\(∀ s∈aK,bR s=true)
theorem NI (h:G.fns iti=some (jJ iz ie irr))(hz:G.fns iz=some (gM iw))(he:G.fns ie=some (lT ie iw ipo))(hw:G.fns iw=some fQ)(hpo:G.fns ipo=some kY)(hrr:G.fns irr=some sP)(hp:st p=some (.ins (W "Table") []))(hl:st l=some (.lst (ss.map toD)))
  (ho:∀ s∈ss,over names s/\aR s<=8)(hs:fN ss<=5000)(fK:(cF ss []).length<=5000)(hQ:∀ aA R,bL [p] st aA->Table aA p names (cF ss []) R->(∀ s∈ss,s∈R)->Q .non aA):aI G (k+12) iti [.ref p,.tup (names.map .str),.ref l] st Q E:=by
 have hL:bH=16777216:=rfl
 rw[bA h]
 simp only[jJ,start]
 refine⟨rfl,?_⟩
 have pl:p≠l:=fun z=>by rw[z,hl]at hp;cases hp
 walk_at"st"
 rw[mV hp (by simp)]
 have e1:tB (W "names") (.tup (names.map .str)) []=[(W "names", .tup (names.map .str))]:=rfl
 rw[e1]
 generalize hst1:put st p (.ins (W "Table") [(W "names", .tup (names.map .str))])=aC
 have p1:aC p=some (.ins (W "Table") [(W "names", .tup (names.map .str))]):=by rw[<-hst1,aQ]
 have k1:bL [p] st aC:=by rw[<-hst1];exact bL.put (by simp)
 have l1:aC l=some (.lst (ss.map toD)):=k1 _ _ (by simpa using pl.symm) hl
 walk_at"st"
 refine zG (k:=k+9) hz hw l1 (fun x hx=>by have:=(ho x hx).2;omega) (by omega) fun lp aF x2 lp2=>?_
 walk_at"ex"
 rw[mV (x2 _ _ p1) (by simp),gU (by simp only[bN];rw[if_neg (by decide +kernel)])]
 generalize hst3:put aF p _=aX
 have p3:aX p=some (.ins (W "Table") ([(W "names", .tup (names.map .str))]++[(W "pieces", .ref lp)])):=by rw[<-hst3,aQ]
 have k3:bL [p] st aX:=k1.trans (x2.keep.trans (by rw[<-hst3];exact bL.put (by simp)))
 have plp:p≠lp:=fun z=>by rw[<-z,x2 _ _ p1]at lp2;cases lp2
 have lp3:aX lp=some (.lst ((cF ss []).map toD)):=by rw[<-hst3,aM plp.symm];exact lp2
 walk_at"st"
 refine cG (by decide) fun lr cN x4 hlr lr4=>?_
 walk_at"ex"
 rw[mV (x4 _ _ p3) (by simp),gU (by simp only[b7,a9,bN];rw[if_neg (by decide +kernel),if_neg (by decide +kernel)])]
 generalize hst5:put cN p _=dF
 have plr:p≠lr:=fun z=>by rw[<-z,p3]at hlr;cases hlr
 have lplr:lp≠lr:=fun z=>by rw[<-z,lp3]at hlr;cases hlr
 have llr:l≠lr:=fun z=>by rw[<-z,k3 _ _ (by simpa using pl.symm) hl]at hlr;cases hlr
 have p5:dF p=some (.ins (W "Table") ([(W "names", .tup (names.map .str))]++[(W "pieces", .ref lp)]++[(W "rows", .ref lr)])):=by rw[<-hst5,aQ]
 have k5:bL [p] st dF:=k3.trans (x4.keep.trans (by rw[<-hst5];exact bL.put (by simp)))
 have lp5:dF lp=some (.lst ((cF ss []).map toD)):=by rw[<-hst5,aM plp.symm];exact x4 _ _ lp3
 have lr5:dF lr=some (.lst []):=by rw[<-hst5,aM plr.symm];exact lr4
 walk_at"st"
 intro ld hld
 generalize hst6:put dF ld (.tab [] [])=gS
 have x6:Ext dF gS:=by rw[<-hst6];exact Ext.new hld
 have ld6:gS ld=some (.tab [] []):=by rw[<-hst6,aQ]
 rw[mV (x6 _ _ p5) (by simp),gU (by simp only[b7,a9,bN];rw[if_neg (by decide +kernel),if_neg (by decide +kernel),if_neg (by decide +kernel)])]
 generalize hst7:put gS p _=lF
 have pld:p≠ld:=fun z=>by rw[<-z,p5]at hld;cases hld
 have lld:l≠ld:=fun z=>by rw[<-z,k5 _ _ (by simpa using pl.symm) hl]at hld;cases hld
 have p7:lF p=some (.ins (W "Table") (qO names lp lr ld++[])):=by rw[<-hst7,aQ];rfl
 have k7:bL [p] st lF:=k5.trans (x6.keep.trans (by rw[<-hst7];exact bL.put (by simp)))
 have o7:∀ a o,a≠p->dF a=some o->lF a=some o:=fun a o na e=>by rw[<-hst7,aM na];exact x6 _ _ e
 have pd:∀ s∈cF ss [],aR s<=60:=fun s gR=>xD ss (n:=60) (by simp) (fun x hx=>by have:=(ho x hx).2;omega) s gR
 have T7:jE lF p lp lr ld names (cF ss []) [] []:=⟨p7,o7 _ _ plp.symm lp5,⟨[],o7 _ _ plr.symm lr5,rfl,fun j s d e=>by simp at e⟩,by rw[<-hst7,aM pld.symm];exact ld6,lplr,w5,fun s gR=>(by cases gR),by simp,pd⟩
 have l7:lF l=some (.lst (ss.map toD)):=k7 _ _ (by simpa using pl.symm) hl
 have hszL:∀(l:List Sy)(t:Sy),t∈l->sz t<=fN l:=fun l=>by
  induction l with
  |nil=>intro t ht;cases ht
  |cons a l ihl =>
   intro t ht
   rw[kK]
   rcases List.mem_cons.mp ht with rfl|ht
   ·omega
   ·have:=ihl t ht;omega
 walk_at"st"
 rw[aE l7]
 refine lD toD (I:=fun r σ aA=>∃ R1 o3 dn,ss=dn++r/\σ=[some (.ref p),some (.tup (names.map .str)),some (.ref l),o3]/\bL [lr,ld] lF aA/\jE aA p lp lr ld names (cF ss []) R1 []/\(∀ t∈dn,t∈R1)/\R1.length<=fN dn) (fun r σ aA ⟨R1,o3,dn,e1,e2,k1,T1,a2,a4⟩=>?_) (fun x r σ aA M ⟨R1,o3,dn,e1,e2,k1,T1,a2,a4⟩ hM=>?_) (fun σ aA ⟨R1,o3,dn,e1,e2,k1,T1,a2,a4⟩=>?_) _ _ _ ⟨[],none,[],rfl,rfl,.refl,T7,fun t ht=>(by cases ht),by simp [fN]⟩
 ·intro a ha
  simp only[aj]at ha
  subst ha
  rw[l7,k1 _ _ (by simp [llr,lld]) l7]
 ·-- a saying
  subst e2
  have hx:x∈ss:=by rw[e1];simp
  have hdn:fN dn+sz x<=fN ss:=by rw[e1,mH,kK];omega
  walk_at"st"
  rw[fW T1.ins (by rw[fE (by decide +kernel) (by decide +kernel) (by decide +kernel) (by decide +kernel)];rfl)]
  refine⟨True.intro,?_⟩
  refine XS (k:=k+1) he hw hpo rfl rfl 8 (ho x hx).2 T1 ⟨(ho x hx).1,(ho x hx).2,G2 ss [] x hx⟩ (by omega) fun aF R2 b1 b2 b3 b4 b5 b6=>?_
  rw[aO]
  refine hM _ aF ⟨R2,_,dn++[x],by simp [e1],rfl,k1.trans b1,b2,fun t ht=>?_,?_⟩
  ·rcases List.mem_append.mp ht with ht|ht
   ·exact b3 t (a2 t ht)
   ·simp only[aj]at ht;subst ht;exact b4
  ·rw[mH];simp only[kK];simp only[fN,fe,Vw]at *;omega
 ·-- behind them
  subst e2
  rw[eh]at e1
  have rN:∀ s∈ss,s∈R1:=fun s gR=>a2 s (by rw[<-e1];exact gR)
  have kk:bL [p,lr,ld] st aA:=(k7.mono (by simp)).trans (k1.mono (by simp))
  walk_at"st"
  rw[cL T1.ins AR,nC,aE T1.pc]
  refine fB toD (fun s=>.bl (dU s)) (cF ss []) [] aA (fun aZ y a ha=>?_) (fun t ht aZ K y1 hK=>?_) (by simp only[be];omega) fun aF y2=>?_
  ·simp only[aj]at ha
   subst ha
   rw[T1.pc,y _ _ T1.pc]
  ·obtain⟨r,er⟩:=qH t
   rw[er]
   walk_at"ex"
   rw[WH]
   exact hK aZ .refl
  rw[a9]
  refine cG (by simp only[ab];omega) fun pp aX y3 hpp pC=>?_
  walk_at"ex"
  rw[aE pC]
  refine⟨by simp only[ab];omega,?_⟩
  have T3:=T1.keep (y2.trans y3)
  rw[mV T3.ins (by simp [qO]),gU (by rw[fE (by decide +kernel) (by decide +kernel) (by decide +kernel) (by decide +kernel)];rfl)]
  generalize hst8:put aX p _=eI
  have nep:∀ a o,a≠p->aX a=some o->eI a=some o:=fun a o na e=>by rw[<-hst8,aM na];exact e
  have lpp:lp≠p:=plp.symm
  have T8:jE eI p lp lr ld names (cF ss []) R1 [(W "first_memory", .tup ((cF ss []).map fun s=>.bl (dU s)))]:=by
   obtain⟨rows,r1,r2,r3⟩:=T3.rows
   refine⟨by rw[<-hst8,aQ,oq];rfl,nep _ _ lpp T3.pc,⟨rows,nep _ _ plr.symm r1,r2,fun j s d h1 h2=>?_⟩,nep _ _ pld.symm T3.tab,T3.ne,T3.nd,T3.gd,T3.len,T3.pd⟩
   obtain⟨q,is,c1,c2,c3,c4⟩:=r3 j s d h1 h2
   exact⟨q,is,c1,c2,nep _ _ (fun z=>by rw[z,T3.ins]at c3;cases c3) c3,c4⟩
  have cl:=T8.closed
  have hin:∀ s∈cF ss [],nS s∈R1:=fun s gR=>by
   have h1:=R3 cl ss [] rN (fun x hx=>by cases hx) s gR
   cases s with
   |one w a =>
    cases w with
    |before=>exact cl _ h1 a (by simp [subs])
    |_=>exact h1
   |_=>exact h1
  have hpast:=IG ss [] (fun x hx=>by cases hx)
  walk_at"st"
  rw[cL T8.ins AR,nC,aE T8.pc]
  refine fB toD (fun s=>.int (R1.idxOf (nS s):Nat)) (cF ss []) [] eI (fun aZ y a ha=>?_) (fun t ht aZ K y1 hK=>?_) (by simp only[be];omega) fun tR y9=>?_
  ·simp only[aj]at ha
   subst ha
   rw[T8.pc,y _ _ T8.pc]
  ·have T'':=T8.keep y1
   walk_at"ex"
   rw[fW T''.ins (by rw[fE (by decide +kernel) (by decide +kernel) (by decide +kernel) (by decide +kernel)];simp only[bN];rw[if_neg (by decide +kernel)])]
   refine⟨True.intro,?_⟩
   have cO:=List.idxOf_lt_length_iff.mpr (hin t ht)
   have hd8:aR t<=8:=xD ss (n:=8) (by simp) (fun x hx=>(ho x hx).2) t ht
   refine Jc (k:=k+10) hrr T'' (hpast t ht) hd8 (j:=R1.idxOf (nS t)) (by rw[ah cO];simp) ?_
   exact hK aZ .refl
  rw[a9]
  refine cG (by simp only[ab];omega) fun lm yK y10 hlm hlm10=>?_
  walk_at"ex"
  have T10:=T8.keep (y9.trans y10)
  rw[mV T10.ins (by simp [qO]),gU (by rw[fE (by decide +kernel) (by decide +kernel) (by decide +kernel) (by decide +kernel)];simp only[bN];rw[if_neg (by decide +kernel)])]
  simp only[aO]
  generalize hst11:put yK p _=yL
  have nep2:∀ a o,a≠p->yK a=some o->yL a=some o:=fun a o na e=>by rw[<-hst11,aM na];exact e
  refine hQ yL R1 (fun a o na e=>?_) ⟨lp,lr,ld,lm,(cF ss []).map fun s=>R1.idxOf (nS s),?_,?_,by simp,fun m j s h1 h2=>?_,hpast⟩ rN
  ·simp only[aj]at na
   have h7:=k7 a o (by simpa using na) e
   have alr:a≠lr:=fun z=>by rw[<-z,k3 a o (by simpa using na) e]at hlr;cases hlr
   have ald:a≠ld:=fun z=>by rw[<-z,k5 a o (by simpa using na) e]at hld;cases hld
   exact nep2 a o na ((y9.trans y10) _ _ (nep a o na ((y2.trans y3) _ _ (k1 a o (by simp [alr,ald]) h7))))
  ·obtain⟨rows,r1,r2,r3⟩:=T10.rows
   refine⟨by rw[<-hst11,aQ,oq];rfl,nep2 _ _ lpp T10.pc,⟨rows,nep2 _ _ plr.symm r1,r2,fun j s d h1 h2=>?_⟩,nep2 _ _ pld.symm T10.tab,T10.ne,T10.nd,T10.gd,T10.len,T10.pd⟩
   obtain⟨q,is,c1,c2,c3,c4⟩:=r3 j s d h1 h2
   exact⟨q,is,c1,c2,nep2 _ _ (fun z=>by rw[z,T10.ins]at c3;cases c3) c3,c4⟩
  ·rw[nep2 _ _ (fun z=>by rw[z,(T8.keep y9).ins]at hlm;cases hlm) hlm10,l9];rfl
  ·rw[bc,h2]at h1
   simp at h1
   subst h1
   have cO:=List.idxOf_lt_length_iff.mpr (hin s (bg h2))
   rw[ah cO];simp
end
noncomputable def oS (iti io:Nat):Fn:=⟨2,2,[.asg (.fl (W "Rules") (W "table") (.v 0)) (.mk (W "Table") iti [(.bin .add (.ix (.v 1) (.c (.int 0))) (.ix (.v 1) (.c (.int 1)))),(.call io [(.ix (.v 1) (.c (.int 2))),(.ix (.v 1) (.c (.int 3))),(.ix (.v 1) (.c (.int 4)))])]),.asg (.fl (W "Rules") (W "promise_rows") (.v 0)) (.comp 1 [0] [0] true none [(.ix (.v 1) (.c (.int 2)))] [] (.dix (.fld (W "Table") (W "row_of") (.fld (W "Rules") (W "table") (.v 1))) (.v 0))),.asg (.fl (W "Rules") (W "must_rows") (.v 0)) (.comp 1 [0] [0] true none [(.ix (.v 1) (.c (.int 3)))] [] (.dix (.fld (W "Table") (W "row_of") (.fld (W "Rules") (W "table") (.v 1))) (.v 0))),.asg (.fl (W "Rules") (W "priced_rows") (.v 0)) (.comp 1 [0] [0] true none [(.ix (.v 1) (.c (.int 4)))] [] (.tup [(.ix (.v 0) (.c (.int 0))),(.dix (.fld (W "Table") (W "row_of") (.fld (W "Rules") (W "table") (.v 1))) (.ix (.v 0) (.c (.int 1))))]))]⟩
noncomputable def kM:Fn:=⟨2,2,[.ret (.and_ (.isi (.v 0) [.tuple]) (.and_ (.cmp .eq (.bi .len [(.v 0)]) (.v 1)) (.bi .all [(.comp 1 [] [0] true none [(.v 0)] [] (.isi (.v 0) [.bool]))])))]⟩
noncomputable def nM (ist:Nat):Fn:=⟨2,3,[.asg (.nm 2) (.bin .add (.bi .len [(.ix (.v 0) (.c (.int 0)))]) (.bi .len [(.ix (.v 0) (.c (.int 1)))])),.iff (.or_ (.not_ (.isi (.v 1) [.list])) (.not_ (.bi .all [(.comp 1 [2] [0] true none [(.v 1)] [] (.call ist [(.v 0),(.v 1)]))]))) [.rais 3 [(.c (.str (W "no play for this book")))]] [],.ret (.v 1)]⟩
noncomputable def kI (ibk:Nat):Fn:=⟨1,1,[.iff (.not_ (.call ibk [(.v 0)])) [.rais 2 [(.c (.str (W "no book")))]] [],.ret (.v 0)]⟩
noncomputable def rS (ich icp iri ima eV:Nat):Fn:=⟨2,5,[.ex (.call ich [(.v 0)]),.ex (.call icp [(.v 0),(.v 1)]),.asg (.nm 2) (.fld (W "Rules") (W "table") (.mk (W "Rules") iri [(.v 0)])),.asg (.nm 3) (.fld (W "Table") (W "first_memory") (.v 2)),.mB (.nm 4) none [(.v 1)] [.asg (.nm 3) (.mcl (W "Table") (W "memory_after") ima (.v 2) [(.mcl (W "Table") (W "held_at") eV (.v 2) [(.v 3),(.v 4)])])],.ret (.v 3)]⟩
theorem Table.keep {st aA:aB}{p:Nat}{names:List (List Nat)}{aK R:List Sy}(T:Table st p names aK R)(h:Ext st aA):Table aA p names aK R:=by
 obtain⟨lp,lr,ld,lm,js,a,b,c⟩:=T.h
 exact⟨lp,lr,ld,lm,js,a.keep h,h _ _ b,c⟩
theorem Table.set {st:aB}{p r:Nat}{names:List (List Nat)}{aK R:List Sy}{fs:List (List Nat×D)}{o:MO}(T:Table st p names aK R)(hr:st r=some (.ins (W "Rules") fs)):Table (put st r o) p names aK R:=by
 obtain⟨lp,lr,ld,lm,js,a,b',c⟩:=T.h
 have nr:∀ a u,st a=some u->u≠.ins (W "Rules") fs->put st r o a=some u:=fun a u e n=>by rw[aM (fun z=>n (by rw[z,hr]at e;cases e;rfl))];exact e
 have hc:W "Table" ≠ W "Rules":=by decide +kernel
 obtain⟨rows,r1,r2',r3⟩:=a.rows
 refine⟨lp,lr,ld,lm,js,⟨nr _ _ a.ins (fun z=>by injection z with z1;exact hc z1),nr _ _ a.pc (fun z=>nomatch z),⟨rows,nr _ _ r1 (fun z=>nomatch z),r2',fun j s d h1 h2=>?_⟩,nr _ _ a.tab (fun z=>nomatch z),a.ne,a.nd,a.gd,a.len,a.pd⟩,nr _ _ b' (fun z=>nomatch z),c⟩
 obtain⟨q,is,c1,c2,c3,c4⟩:=r3 j s d h1 h2
 exact⟨q,is,c1,c2,nr _ _ c3 (fun z=>nomatch z),c4⟩
theorem Table.row {st:aB}{p:Nat}{names:List (List Nat)}{aK R:List Sy}(T:Table st p names aK R):∃ ld fs,st p=some (.ins (W "Table") fs)/\bN fs (W "row_of")=some (.ref ld)/\st ld=some (.tab (R.map toD) (uQ R.length))/\∀ s∈R,aR s<=8/\lL (R.map toD) (uQ R.length) (toD s)=some (.int (R.idxOf s:Nat)):=by
 obtain⟨lp,lr,ld,lm,js,a,b,c⟩:=T.h
 refine⟨ld,_,a.ins,pN,a.tab,fun s hs=>⟨(a.gd s hs).dp,?_⟩⟩
 have cO:=List.idxOf_lt_length_iff.mpr hs
 exact a.look (by rw[ah cO];simp)
noncomputable def sM (p l1 l2 l3:Nat):List (List Nat×D):=[(W "table", .ref p),(W "promise_rows", .ref l1),(W "must_rows", .ref l2),(W "priced_rows", .ref l3)]
structure iG (st:aB)(r p l1 l2 l3:Nat)(b:Bk)(R:List Sy):Prop where
 ins:st r=some (.ins (W "Rules") (sM p l1 l2 l3))
 tab:Table st p b.names (cF b.says []) R
 pr:st l1=some (.lst (b.ps.map fun s=>.int (R.idxOf s:Nat)))
 mu:st l2=some (.lst (b.ms.map fun s=>.int (R.idxOf s:Nat)))
 wi:st l3=some (.lst (b.ws.map fun w=>.tup [.int w.1,.int (R.idxOf w.2:Nat)]))
 all:∀ s∈b.says,s∈R
theorem iG.keep {st aA:aB}{r p l1 l2 l3:Nat}{b:Bk}{R:List Sy}(T:iG st r p l1 l2 l3 b R)(h:Ext st aA):iG aA r p l1 l2 l3 b R:=⟨h _ _ T.ins,T.tab.keep h,h _ _ T.pr,h _ _ T.mu,h _ _ T.wi,T.all⟩
section
variable {G:Prog}{k i ie iw ipo iz irr iti io r:Nat}{st:aB}{Q:VK}{E:XK}{b:Bk}
theorem PM (B:b.Ok):∀ s∈b.says,over b.names s/\aR s<=8:=by
 intro s hs
 simp only[Bk.says,ng,qw]at hs
 rcases hs with(hs|hs)|⟨w,hw,rfl⟩
 ·exact B.p2 s hs
 ·exact B.m2 s hs
 ·exact⟨(B.w3 w hw).2.2.1,(B.w3 w hw).2.2.2⟩
theorem DF (h:G.fns i=some (oS iti io))(ht:G.fns iti=some (jJ iz ie irr))(hz:G.fns iz=some (gM iw))(he:G.fns ie=some (lT ie iw ipo))(hw:G.fns iw=some fQ)(hpo:G.fns ipo=some kY)(hrr:G.fns irr=some sP)(hio:G.fns io=some mM)
  (B:b.Ok)(hs:fN b.says<=5000)(fK:(cF b.says []).length<=5000)(hr:st r=some (.ins (W "Rules") []))(hQ:∀ aA p l1 l2 l3 R,bL [r] st aA->iG aA r p l1 l2 l3 b R->Q .non aA):aI G (k+13) i [.ref r,b.d] st Q E:=by
 have hL:bH=16777216:=rfl
 have f2:=B.f2
 have g2:=B.g2
 have p1:=B.p1
 have m1:=B.m1
 have w2:=B.w2
 have e2:bN (sM 0 0 0 0) (W "table")=some (.ref 0):=by simp only[sM,bN];rw[if_pos bz]
 rw[bA h]
 simp only[oS,start]
 refine⟨rfl,?_⟩
 have hd:b.d=.tup [.tup (b.fs.map .str),.tup (b.gs.map .str),.tup (b.ps.map toD),.tup (b.ms.map toD),.tup (b.ws.map fun w=>.tup [.int w.1,toD w.2])]:=rfl
 rw[hd]
 walk_at"st"
 refine⟨by simp only[ab];omega,?_⟩
 refine HV (k:=k+11) hio (by omega) (by omega) (by omega) fun l aC x1 l1=>?_
 intro p hp
 have l1':aC l=some (.lst (b.says.map toD)):=by rw[l1];simp [Bk.says]
 have lp:l≠p:=fun z=>by rw[z,hp]at l1;cases l1
 have rp:r≠p:=fun z=>by rw[<-z,x1 _ _ hr]at hp;cases hp
 have en:(b.fs.map D.str++b.gs.map D.str)=b.names.map .str:=by simp [Bk.names]
 rw[en]
 refine NI (k:=k) ht hz he hw hpo hrr aQ (by rw[aM lp];exact l1') (PM B) hs fK fun aF R k2 T2 rN=>⟨rfl,?_⟩
 have kk2:Ext aC aF:=fun a o e=>k2 a o (by intro z;simp only[aj]at z;rw[z,hp]at e;cases e) (pP hp e)
 have r2:aF r=some (.ins (W "Rules") []):=kk2 _ _ (x1 _ _ hr)
 walk_at"ex"
 rw[mV r2 (by simp),gU rfl]
 generalize hst3:put aF r _=aX
 have T2':=T2
 have ne3:∀ a o,a≠r->aF a=some o->aX a=some o:=fun a o na e=>by rw[<-hst3,aM na];exact e
 have T3:Table aX p b.names (cF b.says []) R:=by rw[<-hst3];exact T2.set r2
 have r3:aX r=some (.ins (W "Rules") ([]++[(W "table", .ref p)])):=by rw[<-hst3,aQ]
 have kk3:bL [r] st aX:=x1.keep.trans (kk2.keep.trans (by rw[<-hst3];exact bL.put (by simp)))
 have look:∀{cN:aB}{fs:List (List Nat×D)}{s:Sy}{Q':VK},Table cN p b.names (cF b.says []) R->cN r=some (.ins (W "Rules") fs)->bN fs (W "table")=some (.ref p)->s∈R->Q' (.int (R.idxOf s:Nat)) cN ->
   qZ (W "Rules") (W "table") (.ref r) cN fun x aC=>qZ (W "Table") (W "row_of") x aC fun y aF=>tE (toD s) y aF Q':=by
  intro cN fs s Q' T4 r4 hf hsR hq
  obtain⟨ld,fs',a1,a2,a3,a4⟩:=T4.row
  rw[cL r4 hf,cL a1 a2,zJ a3 (qE (a4 s hsR).1) (a4 s hsR).2]
  exact hq
 walk_at"st"
 refine fB toD (fun s=>.int (R.idxOf s:Nat)) b.ps [] aX (fun aZ y a ha=>by cases ha) (fun t ht aZ K y1 hK=>?_) (by simp only[be];omega) fun cN y4=>?_
 ·exact look (T3.keep y1) (y1 _ _ r3) (by simp only[a9,bN];rw[if_pos bz]) (rN t (by simp [Bk.says,ht])) (hK aZ .refl)
 rw[a9]
 refine cG (by simp only[ab];omega) fun l1 dF y5 hl1 l15=>?_
 walk_at"ex"
 have y35:=y4.trans y5
 rw[mV (y35 _ _ r3) (by simp),gU (by simp only[a9,bN];rw[if_neg (by decide +kernel)])]
 generalize hst6:put dF r _=gS
 have T6:Table gS p b.names (cF b.says []) R:=by rw[<-hst6];exact(T3.keep y35).set (y35 _ _ r3)
 have r6:gS r=some (.ins (W "Rules") ([]++[(W "table", .ref p)]++[(W "promise_rows", .ref l1)])):=by rw[<-hst6,aQ]
 have n6:∀ a o,a≠r->dF a=some o->gS a=some o:=fun a o na e=>by rw[<-hst6,aM na];exact e
 have l1r:l1≠r:=fun z=>by rw[z,y4 _ _ r3]at hl1;cases hl1
 have l16:=n6 _ _ l1r l15
 have kk6:bL [r] st gS:=kk3.trans (y35.keep.trans (by rw[<-hst6];exact bL.put (by simp)))
 walk_at"st"
 refine fB toD (fun s=>.int (R.idxOf s:Nat)) b.ms [] gS (fun aZ y a ha=>by cases ha) (fun t ht aZ K y1 hK=>?_) (by simp only[be];omega) fun lF y7=>?_
 ·exact look (T6.keep y1) (y1 _ _ r6) (by simp only[a9,b7,bN];rw[if_pos bz]) (rN t (by simp [Bk.says,ht])) (hK aZ .refl)
 rw[a9]
 refine cG (by simp only[ab];omega) fun l2 eI y8 hl2 l28=>?_
 walk_at"ex"
 have y68:=y7.trans y8
 rw[mV (y68 _ _ r6) (by simp),gU (by simp only[a9,b7,bN];rw[if_neg (by decide +kernel),if_neg (by decide +kernel)])]
 generalize hst9:put eI r _=tR
 have T9:Table tR p b.names (cF b.says []) R:=by rw[<-hst9];exact(T6.keep y68).set (y68 _ _ r6)
 have r9:tR r=some (.ins (W "Rules") ([]++[(W "table", .ref p)]++[(W "promise_rows", .ref l1)]++[(W "must_rows", .ref l2)])):=by rw[<-hst9,aQ]
 have n9:∀ a o,a≠r->eI a=some o->tR a=some o:=fun a o na e=>by rw[<-hst9,aM na];exact e
 have l2r:l2≠r:=fun z=>by rw[z,y7 _ _ r6]at hl2;cases hl2
 have l29:=n9 _ _ l2r l28
 have l19:=n9 _ _ l1r (y68 _ _ l16)
 have kk9:bL [r] st tR:=kk6.trans (y68.keep.trans (by rw[<-hst9];exact bL.put (by simp)))
 walk_at"st"
 refine fB (fun w:Int×Sy=>D.tup [.int w.1,toD w.2]) (fun w=>.tup [.int w.1,.int (R.idxOf w.2:Nat)]) b.ws [] tR (fun aZ y a ha=>by cases ha) (fun t ht aZ K y1 hK=>?_) (by simp only[be];omega) fun yK y10=>?_
 ·refine look (s:=t.2) (T9.keep y1) (y1 _ _ r9) (by simp only[a9,b7,bN];rw[if_pos bz]) (rN t.2 (by simp only[Bk.says,ng,qw];exact .inr ⟨t,ht,rfl⟩)) ?_
  exact hK aZ .refl
 rw[a9]
 refine cG (by simp only[ab];omega) fun l3 yL y11 hl3 l311=>?_
 walk_at"ex"
 have y911:=y10.trans y11
 rw[mV (y911 _ _ r9) (by simp),gU (by simp only[a9,b7,bN];rw[if_neg (by decide +kernel),if_neg (by decide +kernel),if_neg (by decide +kernel)])]
 simp only[aO]
 generalize hst12:put yL r _=YB
 have n12:∀ a o,a≠r->yL a=some o->YB a=some o:=fun a o na e=>by rw[<-hst12,aM na];exact e
 have l3r:l3≠r:=fun z=>by rw[z,y10 _ _ r9]at hl3;cases hl3
 refine hQ YB p l1 l2 l3 R (kk9.trans (y911.keep.trans (by rw[<-hst12];exact bL.put (by simp)))) ⟨by rw[<-hst12,aQ];rfl,by rw[<-hst12];exact(T9.keep y911).set (y911 _ _ r9),n12 _ _ l1r (y911 _ _ l19),n12 _ _ l2r (y911 _ _ l29),n12 _ _ l3r l311,rN⟩
end
noncomputable def bC (bs:List Bool):D:=.tup (bs.map .bl)
def xX (G:Prog)(ibk kb:Nat)(b:Bk):Prop:=∀(k:Nat)(st:aB)(Q:VK)(E:XK),(∀ aA,Ext st aA->Q (.bl true) aA)->aI G (k+kb) ibk [b.d] st Q E
section
variable {G:Prog}{k i ibk kb ich icp ist ie iw ipo iz irr iti io iri ima eV iph inh:Nat}{st:aB}{Q:VK}{E:XK}{b:Bk}
theorem QY (h:G.fns ist=some kM){bs:List Bool}{n:Nat}(hn:bs.length=n)(hl:n<=100)(hQ:∀ aA,Ext st aA->Q (.bl true) aA):aI G (k+1) ist [bC bs,.int n] st Q E:=by
 have hL:bH=16777216:=rfl
 rw[bA h]
 simp only[kM,start,bC]
 refine⟨rfl,?_⟩
 walk_at"st"
 have e1:(((bs.map D.bl).length:Int)==(n:Int))=true:=by rw[ab,hn];simp
 simp only[e1,if_true]
 walk_at"ex"
 refine fB D.bl (fun _=>.bl true) bs [] st (fun aZ y a ha=>by cases ha) (fun t ht aZ K y1 hK=>hK aZ .refl) (by simp only[be];omega) fun aF y2=>?_
 rw[a9]
 refine cG (by simp only[ab];omega) fun pp aX y3 hpp pC=>?_
 walk_at"ex"
 rw[aE pC,kR,bF]
 have e2:(bs.map fun _=>true).all id=true:=by simp
 rw[e2]
 exact hQ aX (y2.trans y3)
theorem DV (h:G.fns icp=some (nM ist))(hs:G.fns ist=some kM)(B:b.Ok){l:Nat}{aN:List (List Bool)}(hl:st l=some (.lst (aN.map bC)))(hp:∀ bs∈aN,bs.length=b.names.length)(dA:aN.length<=1000)
  (hQ:∀ aA,Ext st aA->Q (.ref l) aA):aI G (k+2) icp [b.d,.ref l] st Q E:=by
 have hL:bH=16777216:=rfl
 have f2:=B.f2
 have g2:=B.g2
 have jO:b.names.length=b.fs.length+b.gs.length:=by simp [Bk.names]
 rw[bA h]
 simp only[nM,start,Bk.d]
 refine⟨rfl,?_⟩
 walk_at"st"
 walk_at"st"
 rw[fF hl]
 (try simp only[fq,aq,if_false])
 walk_at"ex"
 rw[aE hl]
 have en:((b.fs.map D.str).length:Int)+((b.gs.map D.str).length:Int)=(b.names.length:Nat):=by rw[jO];simp
 refine fB bC (fun _=>.bl true) aN [] st (fun aZ y a ha=>?_) (fun t ht aZ K y1 hK=>?_) (by simp only[be];omega) fun aF y2=>?_
 ·simp only[aj]at ha
  subst ha
  rw[hl,y _ _ hl]
 ·rw[en]
  exact QY hs (hp t ht) (by omega) fun aX y3=>hK aX y3
 rw[a9]
 refine cG (by simp only[ab];omega) fun pp aX y3 hpp pC=>?_
 walk_at"ex"
 rw[aE pC,kR,bF]
 have e2:(aN.map fun _=>true).all id=true:=by simp
 rw[e2]
 simp only[fq,aq,if_false,aO]
 walk_at"st"
 exact hQ aX (y2.trans y3)
theorem yI (h:G.fns ich=some (kI ibk))(hb:xX G ibk kb b)(hQ:∀ aA,Ext st aA->Q b.d aA):aI G (k+kb+1) ich [b.d] st Q E:=by
 rw[bA h]
 simp only[kI,start]
 refine⟨rfl,?_⟩
 walk_at"st"
 refine hb k _ _ _ fun aC x1=>?_
 walk_at"ex"
 simp only[aO]
 walk_at"st"
 exact hQ aC x1
theorem JV (h:G.fns i=some (rS ich icp iri ima eV))(hch:G.fns ich=some (kI ibk))(hb:xX G ibk 13 b)(hcp:G.fns icp=some (nM ist))(dN:G.fns ist=some kM)(hri:G.fns iri=some (oS iti io))(ht:G.fns iti=some (jJ iz ie irr))(hz:G.fns iz=some (gM iw))(he:G.fns ie=some (lT ie iw ipo))(hw:G.fns iw=some fQ)(hpo:G.fns ipo=some kY)(hrr:G.fns irr=some sP)(hio:G.fns io=some mM)
  (hma:G.fns ima=some sQ)(hha:G.fns eV=some (mW iph inh))(hn:G.fns inh=some pH)(hpa:G.fns iph=some mF)
  (B:b.Ok)(hs:fN b.says<=5000)(fK:(cF b.says []).length<=5000){l:Nat}{aN:List (List Bool)}(hl:st l=some (.lst (aN.map bC)))(hp:∀ bs∈aN,bs.length=b.names.length)(dA:aN.length<=1000)
  (hQ:∀ aA,Ext st aA->Q (.tup ((cF b.says []).map fun s=>.bl (eZ b.names aN aN.length s))) aA):aI G (k+15) i [b.d,.ref l] st Q E:=by
 have hL:bH=16777216:=rfl
 rw[bA h]
 simp only[rS,start]
 refine⟨rfl,?_⟩
 walk_at"st"
 refine yI (k:=k) hch hb fun aC x1=>?_
 walk_at"st"
 refine DV (k:=k+12) hcp dN B (x1 _ _ hl) hp dA fun aF x2=>?_
 walk_at"st"
 intro r hr
 refine DF (k:=k+1) hri ht hz he hw hpo hrr hio B hs fK aQ fun aX p l1 l2 l3 R k3 T3=>⟨rfl,?_⟩
 have x3:Ext aF aX:=fun a o e=>k3 a o (by intro z;simp only[aj]at z;rw[z,hr]at e;cases e) (pP hr e)
 rw[cL T3.ins (x:=.ref p) (by simp only[sM,bN];rw[if_pos bz])]
 walk_at"ex"
 walk_at"st"
 obtain⟨lp,lr,ld,lm,js,T,hlm,hjl,hjs,hpast⟩:=T3.tab.h
 rw[cL T.ins (x:=.tup ((cF b.says []).map fun s=>.bl (dU s))) (by rw[fE (by decide +kernel) (by decide +kernel) (by decide +kernel) (by decide +kernel)];simp only[wK,bN];rw[if_pos bz])]
 walk_at"ex"
 have l3':aX l=some (.lst (aN.map bC)):=x3 _ _ (x2 _ _ (x1 _ _ hl))
 walk_at"st"
 rw[aE l3']
 refine lD bC (I:=fun rest σ aA=>∃ t o4,t<=aN.length/\rest=aN.drop t/\σ=[some b.d,some (.ref l),some (.ref p),some (.tup ((cF b.says []).map fun s=>.bl (eZ b.names aN t s))),o4]/\Ext aX aA) (fun rest σ aA ⟨t,o4,e0,e1,e2,x4⟩=>?_) (fun x rest σ aA M ⟨t,o4,e0,e1,e2,x4⟩ hM=>?_) (fun σ aA ⟨t,o4,e0,e1,e2,x4⟩=>?_) _ _ _ ⟨0,none,dm _,rfl,by simp [eZ],.refl⟩
 ·intro a ha
  simp only[aj]at ha
  subst ha
  rw[l3',x4 _ _ l3']
 ·-- a turn
  subst e2
  have ht':t<aN.length:=by
   by_cases z:t<aN.length
   ·exact z
   ·rw[fx (by omega)]at e1;cases e1
  rw[b9 ht']at e1
  injection e1 with e3 e4
  have hx:aN[t]? = some x:=by rw[ah ht',e3]
  have hxl:x.length=b.names.length:=hp x (bg hx)
  have T4:=T.keep x4
  walk_at"st"
  rw[fW T4.ins (by rw[fE (by decide +kernel) (by decide +kernel) (by decide +kernel) (by decide +kernel)];simp only[wK,bN];rw[if_neg (by decide +kernel),if_neg (by decide +kernel)])]
  refine⟨True.intro,?_⟩
  rw[fW T4.ins (by rw[fE (by decide +kernel) (by decide +kernel) (by decide +kernel) (by decide +kernel)];simp only[wK,bN];rw[if_neg (by decide +kernel),if_neg (by decide +kernel)])]
  refine⟨True.intro,?_⟩
  have em:((cF b.says []).map fun s=>D.bl (eZ b.names aN t s))=((cF b.says []).map fun s=>eZ b.names aN t s).map .bl:=by rw[l9];rfl
  rw[em]
  refine GW (k:=k+12) hha hn hpa T4 (set:=x) (fun s=>hv b.names aN s t) (fun n hn'=>?_) (fun s gR hps=>⟨eZ b.names aN t s,?_,GP hps t⟩) (fun s h1 h2=>LF h1 h2 t) fun dF q _ x5 hq=>?_
  ·have cO:b.names.idxOf n<x.length:=by rw[hxl];exact List.idxOf_lt_length_iff.mpr hn'
   simp only[hv,EY,hx,jo]
   rw[ah cO];rfl
  ·have cO:=List.idxOf_lt_length_iff.mpr gR
   rw[bc,ah cO];simp
  ·have T5:=T4.keep x5
   refine LK (k:=k+13) (aK:=cF b.says []) hma T5.ins (lm:=lm) (by rw[fE (by decide +kernel) (by decide +kernel) (by decide +kernel) (by decide +kernel)];simp only[wK,bN];rw[if_neg (by decide +kernel),if_pos bz]) (x5 _ _ (x4 _ _ hlm)) hq hjl fK hjs fun gS x6=>?_
   walk_at"ex"
   simp only[aO]
   refine hM _ gS ⟨t+1,some (bC x),ht',e4,?_,x4.trans (x5.trans x6)⟩
   simp [eZ]
 ·-- the end
  subst e2
  have hj:aN.length<=t:=by
   by_cases z:t<aN.length
   ·rw[b9 z]at e1;cases e1
   ·omega
  have et:t=aN.length:=by omega
  subst et
  walk_at"st"
  exact hQ aA (((x1.trans x2).trans x3).trans x4)
end
local macro_rules|`(tactic| walk_at"wd")=>`(tactic| (first|rw[if_pos (by decide +kernel)]|rw[if_neg (by decide +kernel)]))
theorem sC {α:Type}{g:aB->Prop}{turn:D->aB->(Option D->aB->Prop)->Prop}{R:List D->aB->Prop}(t:α->D)(f:α->Option D):∀(xs:List α)(acc:List D)(st:aB),
  (∀ aA,Ext st aA->g aA)->(∀ x∈xs,∀ aA (K:Option D->aB->Prop),Ext st aA->(∀ aZ,Ext aA aZ->K (f x) aZ)->turn (t x) aA K) ->
  acc.length+xs.length<=bH->(∀ aA,Ext st aA->R (acc++xs.filterMap f) aA)->kG g turn (xs.map t) acc st R
 |[],acc,st,hg,_,_,hR=>⟨hg st .refl,by simpa using hR st .refl⟩
 |x::xs,acc,st,hg,ht,hl,hR=>by
  simp only[bf]at hl
  refine⟨hg st .refl,by omega,ht x (by simp) st _ .refl fun aZ h''=>?_⟩
  cases hf:f x with
  |none =>
   exact sC t f xs acc aZ (fun aA h=>hg aA (h''.trans h)) (fun y hy aA K h=>ht y (by simp [hy]) aA K (h''.trans h)) (by omega) fun aA h=>by simpa [hf]using hR aA (h''.trans h)
  |some d =>
   exact sC t f xs (acc++[d]) aZ (fun aA h=>hg aA (h''.trans h)) (fun y hy aA K h=>ht y (by simp [hy]) aA K (h''.trans h)) (by simp only[bp,bf,be];omega) fun aA h=>by simpa [hf]using hR aA (h''.trans h)
theorem AX (n:Nat):iZ 0 n=(bb n).map fun k=>D.int (k:Nat):=by
 unfold iZ;congr 1;funext k;simp
theorem pG (bs:List Bool):bK (bC bs)=true:=by
 simp only[bC,bK]
 induction bs with
 |nil=>rfl
 |cons a l ih=>simp only[ay,bY,bK,ih,eu]
theorem BK (bs:List Bool):cS (bC bs)<=1:=by
 simp only[bC,cS]
 have:cW (bs.map D.bl)=0:=by
  induction bs with
  |nil=>rfl
  |cons a l ih=>simp only[ay,cW,cS,ih];rfl
 omega
noncomputable def BO (is dM:Nat):Fn:=⟨5,7,[.asg (.nm 5) (.call is [(.v 0),(.v 1),(.v 2),(.c (.int 1)),(.lst [(.c (.int 0))])]),.iff (.and_ (.cmp .gt (.ix (.v 4) (.c (.int 0))) (.c (.int 0))) (.cmp .eq (.call dM [(.v 0),(.v 1),(.c (.int 2))]) (.c (.int 1)))) [.asg (.ix (.v 4) (.c (.int 0))) (.bin .sub (.ix (.v 4) (.c (.int 0))) (.c (.int 1))),.asg (.nm 6) (.call is [(.v 0),(.v 1),(.v 3),(.c (.int 1)),(.lst [(.c (.int 0))])]),.ret (.tup [(.ix (.lst [(.c (.str (W "then"))),(.c (.str (W "or"))),(.c (.str (W "same")))]) (.call dM [(.v 0),(.v 1),(.c (.int 3))])),(.tup [(.c (.str (W "before"))),(.v 6)]),(.v 5)])] [],.ret (.v 5)]⟩
noncomputable def A7 (inm dM is ipr:Nat):Fn:=⟨4,14,[.asg (.nm 4) (.lst [(.v 1)]),.asg (.tp [5,6]) (.call inm [(.v 0),(.v 4)]),.asg (.nm 7) (.bin .add (.v 5) (.v 6)),.asg (.nm 8) (.lst [(.call dM [(.v 0),(.v 4),(.bin .add (.v 2) (.c (.int 1)))])]),.asg (.nm 9) (.lst []),.mB (.nm 10) (some .range) [(.bin .add (.c (.int 1)) (.call dM [(.v 0),(.v 4),(.c (.int 3))]))] [.asg (.nm 11) (.bin .add (.c (.int 1)) (.call dM [(.v 0),(.v 4),(.ix (.lst [(.c (.int 3)),(.c (.int 9)),(.c (.int 99))]) (.call dM [(.v 0),(.v 4),(.c (.int 3))]))])),.ex (.cT .append (.v 9) [(.tup [(.v 11),(.call is [(.v 0),(.v 4),(.v 7),(.c (.int 2)),(.v 8)])])])],.asg (.nm 12) (.comp 1 [0,4,7,8] [0] true (some .range) [(.call dM [(.v 0),(.v 4),(.bin .add (.v 3) (.c (.int 1)))])] [] (.call is [(.v 1),(.v 2),(.v 3),(.c (.int 2)),(.v 4)])),.asg (.nm 13) (.comp 1 [0,4,5,7,8] [0] true (some .range) [(.call dM [(.v 0),(.v 4),(.c (.int 2))])] [] (.call ipr [(.v 1),(.v 2),(.v 3),(.v 4),(.v 5)])),.ret (.tup [(.v 5),(.v 6),(.bi .tuple [(.v 13)]),(.bi .tuple [(.v 12)]),(.bi .tuple [(.v 9)])])]⟩
theorem qK {f g:List (List Nat)}(h:∀ n∈f,n∈g):∀ s:Sy,over f s->over g s
 |.yes,_=>trivial
 |.no,_=>trivial
 |.cQ _,q=>h _ q
 |.one w s,q=>qK h s q
 |.two w s t,q=>⟨qK h s q.1,qK h t q.2⟩
theorem qL {fs gs:List (List Nat)}(h:∀ n∈fs,n∉gs):∀ s:Sy,over fs s->dW gs s=false
 |.yes,_=>rfl
 |.no,_=>rfl
 |.cQ n,q=>by
  simp only[dW,og]
  intro x hx e
  have:=h n q
  rw[<-eq_of_beq e]at this
  exact this hx
 |.one w s,q=>by cases w<;>first|rfl|exact qL h s q
 |.two w s t,q=>by simp only[dW,qL h s q.1,qL h t q.2,Vx]
section
variable {G:Prog}{k ic im dM is ipr:Nat}{st:aB}{Q:VK}{E:XK}{ns:List Int}
theorem Au (h:G.fns ipr=some (BO is dM))(hs:G.fns is=some (pO dM is))(hn:G.fns dM=some (uI im))(hm:G.fns im=some (nY ic))(hc:G.fns ic=some pU){fs gs:List (List Nat)}(hf:0<fs.length)(hdis:∀ n∈fs,n∉gs){a b:Nat}(eD:a≠b){i l:Int}
  (ha:st a=some (.lst [.int i]))(hb:st b=some (.lst [.int l]))(hi:0<=i)(hl:0<=l)
  (hQ:∀ s aA i',over (fs++gs) s->dW gs s=false->aR s<=4->(cnt s:Int)<=l->bL [a,b] st aA->0<=i'->aA a=some (.lst [.int i'])->aA b=some (.lst [.int (l-cnt s)])->Q (toD s) aA):
  aI G (k+6) ipr [.bO (ns.map .int),.ref a,.tup (fs.map .str),.tup ((fs++gs).map .str),.ref b] st Q E:=by
 rw[bA h]
 simp only[BO,start]
 refine⟨rfl,?_⟩
 have hfm:∀ n∈fs,n∈fs++gs:=fun n hn=>by simp [hn]
 walk_at"st"
 refine cG (by decide) fun z aC x1 hz hz1=>?_
 have za:a≠z:=fun e=>by rw[<-e,ha]at hz;cases hz
 have zb:b≠z:=fun e=>by rw[<-e,hb]at hz;cases hz
 have zz:∀ c o,st c=some o->c≠z:=fun c o e q=>by rw[q,hz]at e;cases e
 refine uM (k:=k) hs hn hm hc hf za 1 (x1 _ _ ha) hz1 hi (by omega) fun s aF i2 o1 d1 c1' k2 hi2 a2 z2=>?_
 have cs:cnt s=0:=by omega
 have b2:aF b=some (.lst [.int l]):=k2 b _ (by simp [eD.symm,zb]) (x1 _ _ hb)
 have kk2:bL [a,b] st aF:=fun c o nc e=>k2 c o (by simp only[cy,bw,or_false,not_or]at nc ⊢;exact⟨nc.1,zz c o e⟩) (x1 _ _ e)
 have base:∀ aX i3,bL [a,b] aF aX->0<=i3->aX a=some (.lst [.int i3])->aX b=some (.lst [.int l])->Q (toD s) aX:=fun aX i3 k3 h3 a3 b3 =>
  hQ s aX i3 (qK hfm s o1) (qL hdis s o1) (by omega) (by omega) (kk2.trans k3) h3 a3 (by rw[cs];simpa using b3)
 walk_at"st"
 rw[eO b2,GY,bF]
 walk_at"ex"
 by_cases hl0:0<l
 ·rw[if_pos hl0]
  refine gF (k:=k+2) hn hm hc a2 hi2 (by omega) fun aX k3 a3=>?_
  have b3:aX b=some (.lst [.int l]):=k3 b _ (by simpa using eD.symm) b2
  walk_at"ex"
  generalize hv:lG ns (i2+1) 2=v
  cases hv1:(v==1)with
  |true =>
   simp only[if_true]
   walk_at"st"
   rw[eO b3,GY,bF]
   walk_at"ex"
   rw[aE b3,Y7,bF]
   generalize hst4:put aX b _=cN
   have b4:cN b=some (.lst [.int (l-1)]):=by rw[<-hst4,aQ];rfl
   have a4:cN a=some (.lst [.int (i2+1)]):=by rw[<-hst4,aM eD];exact a3
   have k4:bL [a,b] aX cN:=by rw[<-hst4];exact bL.put (by simp)
   walk_at"st"
   refine cG (by decide) fun y dF x5 hy hy5=>?_
   have ya:a≠y:=fun e=>by rw[<-e,a4]at hy;cases hy
   have yb:b≠y:=fun e=>by rw[<-e,b4]at hy;cases hy
   have yy:∀ c o,cN c=some o->c≠y:=fun c o e q=>by rw[q,hy]at e;cases e
   refine uM (k:=k) hs hn hm hc (by simp;omega) ya 1 (x5 _ _ a4) hy5 (by omega) (by omega) fun s2 gS i6 o6 d6 c6 k6 hi6 a6 y6=>?_
   have cs2:cnt s2=0:=by omega
   have b6:gS b=some (.lst [.int (l-1)]):=k6 b _ (by simp [eD.symm,yb]) (x5 _ _ b4)
   have kk6:bL [a,b] cN gS:=fun c o nc e=>k6 c o (by simp only[cy,bw,or_false,not_or]at nc ⊢;exact⟨nc.1,yy c o e⟩) (x5 _ _ e)
   walk_at"st"
   refine cG (by decide) fun u lF x7 hu hu7=>?_
   walk_at"ex"
   refine gF (k:=k+2) hn hm hc (x7 _ _ a6) hi6 (by omega) fun eI k8 a8=>?_
   have u8:eI u=some (.lst [.str (W "then"),.str (W "or"),.str (W "same")]):=k8 u _ (by
    intro z'
    simp only[aj]at z'
    rw[z',a6]at hu;cases hu) hu7
   have w0:=iD (ns:=ns) (k:=i6+1) (many:=3) (by omega)
   have w1:=iE (ns:=ns) (k:=i6+1) (many:=3) (by omega)
   generalize lG ns (i6+1) 3=w at w0 w1
   have b8:eI b=some (.lst [.int (l-1)]):=k8 b _ (by simpa using eD.symm) (x7 _ _ b6)
   have kk8:bL [a,b] st eI:=((((kk2.trans (k3.mono (by simp))).trans k4).trans kk6).trans x7.keep).trans (k8.mono (by simp))
   have fin:∀ W2',p2 W2'=false->aR (Sy.two W2' (.one .before s2) s)<=4->Q (toD (Sy.two W2' (.one .before s2) s)) eI:=fun W2' mC hdp=>by
    have hcn:cnt (Sy.two W2' (.one .before s2) s)=1:=by simp [cnt,mC,p1,cs,cs2]
    refine hQ _ eI (i6+1) ⟨o6,qK hfm s o1⟩ ?_ hdp (by rw[hcn];omega) kk8 (by omega) a8 (by rw[hcn];exact b8)
    simp only[dW,qL hdis s o1,Vx]
   walk_at"ex"
   have hdp:∀ W2',aR (Sy.two W2' (.one .before s2) s)<=4:=fun W2'=>by simp only[aR];omega
   have hw:w=0∨w=1∨w=2:=by omega
   rcases hw with rfl|rfl|rfl
   ·rw[eO u8,GY,bF];exact fin .bD rfl (hdp _)
   ·rw[eO u8,V8,bF];exact fin .or rfl (hdp _)
   ·rw[eO u8,VQ,bF];exact fin .same rfl (hdp _)
  |false =>
   simp only[aq,if_false,aO]
   walk_at"st"
   exact base aX (i2+1) (k3.mono (by simp)) (by omega) a3 b3
 ·rw[if_neg hl0]
  (try rw[if_neg hl0])
  (try simp only[decide_eq_false hl0,aq,if_false])
  rw[aO]
  walk_at"st"
  exact base aF i2 .refl hi2 a2 b2
end
theorem WJ {fs gs:List (List Nat)}(h:vU fs gs=true):1<=fs.length/\fs.length<=2/\1<=gs.length/\gs.length<=2/\(fs++gs).Nodup/\∀ n∈fs++gs,n∈pX:=by
 simp only[vU,aw,decide_eq_true_eq,km]at h
 obtain⟨⟨⟨⟨⟨a,b⟩,c⟩,d⟩,e⟩,f⟩:=h
 exact⟨a,b,c,d,e,fun n hn=>by simpa using f n hn⟩
theorem Q9:∀ n∈pX,fT n=true:=by decide +kernel
noncomputable def fM (l:List Sy):Nat:=(l.map cnt).sum
theorem uV (a b:List Sy):fM (a++b)=fM a+fM b:=by simp [fM]
theorem M3 (f:List Sy)(s:Sy):(eY f s).length<=f.length+(if bR s=true then 1 else 0):=by
 unfold eY
 cases h:bR s with
 |true=>simp only[ke,if_true];split<;>simp
 |false=>simp
theorem BJ:∀(s:Sy)(f:List Sy),(aK s f).length<=f.length+cnt s
 |.yes,f=>by simp [aK]
 |.no,f=>by simp [aK]
 |.cQ _,f=>by simp [aK]
 |.one w s,f=>by
  have h1:=BJ s (eY f (.one w s))
  have h2:=M3 f (.one w s)
  simp only[bR]at h2
  simp only[aK,cnt]
  cases h:p1 w<;>simp [h]at h2 ⊢<;>omega
 |.two w s t,f=>by
  have h1:=BJ s (eY f (.two w s t))
  have h2:=M3 f (.two w s t)
  have h3:=BJ t (aK s (eY f (.two w s t)))
  simp only[bR]at h2
  simp only[aK,cnt]
  cases h:p2 w<;>simp [h]at h2 ⊢<;>omega
theorem M5:∀(l f:List Sy),(cF l f).length<=f.length+fM l
 |[],f=>by simp [cF,fM]
 |s::l,f=>by
  have h1:=M5 l (aK s f)
  have h2:=BJ s f
  have:fM (s::l)=cnt s+fM l:=by simp [fM]
  simp only[cF];omega
structure Pq (b:Bk)(pieces gK:Int):Prop where
 ok:b.Ok
 d4:∀ s∈b.says,aR s<=4
 ms:(b.ms.length:Int)<=gK
 cn:(fM b.says:Int)<=pieces
 n8:∀ n∈b.names,n∈pX
noncomputable abbrev bσ (at_ pieces gK:Int)(ns:List Int)(fs gs:List (List Nat))(m lf wl:Nat)(pF qW JR VN:Option D):St:=[some (.bO (ns.map .int)),some (.int at_),some (.int pieces),some (.int gK),some (.ref m),some (.tup (fs.map .str)),some (.tup (gs.map .str)),some (.tup ((fs++gs).map .str)),some (.ref lf),some (.ref wl),pF,qW,JR,VN]
inductive WI (σ0:Option D->Option D->St)(names:List (List Nat))(m lf wl:Nat)(gS:aB)(lv v:Int)(rest:List Nat)(σ:St)(aA:aB):Prop
 |mk (j:Nat)(pF qW:Option D)(i':Int)(ws:List (Int×Sy))(e1:rest=(bb (1+v).toNat).drop j)(e2:σ=σ0 pF qW)(q1:bL [m,lf,wl] gS aA)(q2:0<=i')(q3:aA m=some (.lst [.int i']))(q4:aA lf=some (.lst [.int (lv-fM (ws.map (·.2)))]))(q5:(fM (ws.map (·.2)):Int)<=lv)(q6:aA wl=some (.lst (ws.map fun w:Int×Sy=>.tup [.int w.1,toD w.2])))(q7:ws.length=j)(q7':j<=(1+v).toNat)(q8:∀ w∈ws,1<=w.1/\w.1<=99/\over names w.2/\aR w.2<=3)
theorem Tq {a b c:Nat}{x:Int}(h:(a:Int)<=x)(h':(b:Int)<=x-a):((a+b:Nat):Int)<=x:=by omega
theorem Td {a b:Nat}{x:Int}:x-(a:Int)-(b:Int)=x-((a+b:Nat):Int):=by omega
theorem ZC {b:Nat}{x:Int}(h:(b:Int)<=x):0<=x-(b:Int):=by omega
theorem draws {turn:D->aB->(Option D->aB->Prop)->Prop}{R:List D->aB->Prop}{m lf:Nat}{ok:Sy->Prop}{tS:aB}
 (ht:∀(x:D)(st:aB)(K:Option D->aB->Prop)(i c:Int),0<=i->0<=c->st m=some (.lst [.int i])->st lf=some (.lst [.int c])->(∀ s aA i',ok s->(cnt s:Int)<=c->bL [m,lf] st aA->0<=i'->aA m=some (.lst [.int i'])->aA lf=some (.lst [.int (c-cnt s)])->K (some (toD s)) aA)->turn x st K):
 ∀(xs:List D)(ss:List Sy){st:aB}{i c:Int},0<=i->0<=c->st m=some (.lst [.int i])->st lf=some (.lst [.int c])->ss.length+xs.length<bH ->
  (∀ ss' aA i',(∀ s∈ss',ok s)->ss'.length=xs.length->(fM ss':Int)<=c->bL [m,lf] st aA->0<=i'->aA m=some (.lst [.int i'])->aA lf=some (.lst [.int (c-fM ss')])->R ((ss++ss').map toD) aA) ->
  kG (same [] tS) turn xs (ss.map toD) st R
 |[],ss,st,i,c,hi,hc,hm,hl,hn,h=>⟨LA,by have q:=h [] st i (fun _ h=>nomatch h) rfl (by simpa [fM]using hc) .refl hi hm (by simpa [fM]using hl);rw[eh]at q;exact q⟩
 |x::xs,ss,st,i,c,hi,hc,hm,hl,hn,h=>⟨LA,by rw[ab];simp only[bf]at hn;omega,ht x st _ i c hi hc hm hl fun s aA i' o1 o2 k1 hi' m1 l1=>by
 have q:=draws (tS:=tS) ht xs (ss++[s]) hi' (ZC o2) m1 l1 (by simp only[bp,bf,be]at hn ⊢;omega) (fun ss' aZ i'' p1 p2 p3 p4 p5 p6 p7=>by
  have e:fM (s::ss')=cnt s+fM ss':=by simp [fM]
  have z:=h (s::ss') aZ i'' (fun s' gR=>by
  rcases List.mem_cons.mp gR with rfl|gR
  ·exact o1
  ·exact p1 s' gR) (by simp [p2]) (by rw[e];exact Tq (c:=0) o2 p3) (k1.trans p4) p5 p6 (by rw[e,<-Td];exact p7)
  rw[oq]
  exact z)
 rw[dg]at q
 exact q⟩
section
variable {G:Prog}{k i inm ic im dM is ipr:Nat}{st:aB}{Q:VK}{E:XK}{ns:List Int}
theorem Jr {v:Int}{n:Int}(h0:0<=v)(h1:v<n)(hn:n<=4):iF v:=by unfold iF;omega
theorem YY {v:Int}{n:Int}{a:Nat}(e:a=v.toNat)(h1:v<n)(hn:n<=4):a<=3:=by omega
theorem Ub {v n:Int}{a:Nat}(e:a=v.toNat)(h0:0<=v)(h1:v<n+1):(a:Int)<=n:=by omega
theorem Ua {a b c:Nat}{x y:Int}(h:(a:Int)<=x-c-b)(h':x<y+1):((a+b+c:Nat):Int)<=y:=by omega
theorem UC {a:Nat}(h:a<=3):a<=bH:=c7 h (by decide)
theorem SH (hp:G.fns ipr=some (BO is dM))(hs:G.fns is=some (pO dM is))(hn:G.fns dM=some (uI im))(hm:G.fns im=some (nY ic))(hc:G.fns ic=some pU){fs gs:List (List Nat)}(f1:0<fs.length)(fpos:0<(fs++gs).length)(hdis:∀ n∈fs,n∉gs){m lf wl:Nat}(mlf:m≠lf)(mwl:m≠wl)(lfwl:lf≠wl){at_ pieces gK i' c:Int}(hmu:0<=gK)(hmu3:gK<=3){ws:List (Int×Sy)}{pF qW:Option D}(q2:0<=i')(q3:st m=some (.lst [.int i']))(q4:st lf=some (.lst [.int c]))(hc0:0<=c)(q6:st wl=some (.lst (ws.map fun w:Int×Sy=>.tup [.int w.1,toD w.2])))(hws:ws.length<=3)
 (hQ:∀ ps ms aA,(∀ s∈ms,over (fs++gs) s/\aR s<=3)->(ms.length:Int)<=gK->ms.length<=3->(∀ s∈ps,over (fs++gs) s/\aR s<=4/\dW gs s=false)->ps.length<=3->(fM ms:Int)<=c->(fM ps:Int)<=c-fM ms->bL [m,lf] st aA->Q (Bk.d ⟨fs,gs,ps,ms,ws⟩) aA):
 cY (aI G (k+6)) G.sub ((A7 inm dM is ipr).body.drop 6) ⟨fun _ aA=>Q .non aA,Q,fun _ _=>False,fun _ _=>False,fun c _ aA=>E c aA⟩ (bσ at_ pieces gK ns fs gs m lf wl pF qW none none) st:=by
 simp only[A7,xg,rk,bσ]
 walk_at"st"
 refine gF (k:=k+3) hn hm hc q3 q2 (by omega) fun lF k7 m7=>?_
 have V2:=iD (ns:=ns) (k:=i'+1) (many:=gK+1) (by omega)
 have V3:=iE (ns:=ns) (k:=i'+1) (many:=gK+1) (by omega)
 generalize lG ns (i'+1) (gK+1)=v2 at V2 V3
 walk_at"ex"
 have h4:gK+1<=4:=by omega
 refine⟨Jr V2 V3 h4,?_⟩
 have lf7:=k7 lf _ (by simpa using mlf.symm) q4
 have wl7:=k7 wl _ (by simpa using mwl.symm) q6
 refine draws (m:=m) (lf:=lf) (ok:=fun s=>over (fs++gs) s/\aR s<=3) (fun x aA K i c hi hc' h1 h2 hK=>?_) _ [] (by omega) hc0 m7 lf7 ?_ fun ms eI i8 z8 z7 z6 z2 z3 z4 z5=>?_
 ·exact uM (k:=k) hs hn hm hc fpos mlf 2 h1 h2 hi hc' fun s eI i8 o8 d8 c8 k8 hi8 m8 lf8=>hK s eI i8 ⟨o8,d8⟩ c8 k8 hi8 m8 lf8
 ·simp only[be,iZ,ab,dw];exact rh (by rw[ze];exact YY rfl V3 h4) (by decide)
 simp only[iZ,ab,dw]at z7
 have m3:=YY z7 V3 h4
 refine cG (by rw[a9,ab];exact UC m3) fun ml tR x9 hml ml9=>?_
 walk_at"ex"
 have wl9:=x9 _ _ (z2 wl _ (by simp [mwl.symm,lfwl.symm]) wl7)
 walk_at"st"
 refine gF (k:=k+3) hn hm hc (x9 _ _ z4) z3 (by decide) fun sta ka ma=>?_
 have V4:=iD (ns:=ns) (k:=i8+1) (many:=2) (by decide)
 have V5:=iE (ns:=ns) (k:=i8+1) (many:=2) (by decide)
 generalize lG ns (i8+1) 2=v3 at V4 V5
 walk_at"ex"
 refine⟨Jr V4 V5 (by decide),?_⟩
 have mml:m≠ml:=fun z=>by rw[<-z,z4]at hml;cases hml
 have lfml:lf≠ml:=fun z=>by rw[<-z,z5]at hml;cases hml
 have lfa:=ka lf _ (by simpa using mlf.symm) (x9 _ _ z5)
 have wla:=ka wl _ (by simpa using mwl.symm) wl9
 have mla:=ka ml _ (by simpa using mml.symm) ml9
 refine draws (m:=m) (lf:=lf) (ok:=fun s=>over (fs++gs) s/\aR s<=4/\dW gs s=false) (fun x aA K i c hi hc' h1 h2 hK=>?_) _ [] (by omega) (ZC z6) ma lfa ?_ fun ps stb ib y8 y7 y6 y2 y3 y4 y5=>?_
 ·exact Au (k:=k) hp hs hn hm hc f1 hdis mlf h1 h2 hi hc' fun s eI i8 o8 b8 d8 c8 k8 hi8 m8 lf8=>hK s eI i8 ⟨o8,d8,b8⟩ c8 k8 hi8 m8 lf8
 ·simp only[be,iZ,ab,dw];exact rh (by rw[ze];exact YY rfl V5 (by decide)) (by decide)
 simp only[iZ,ab,dw]at y7
 have p3:=YY y7 V5 (by decide)
 refine cG (by rw[a9,ab];exact UC p3) fun pl stc xc dA plc=>?_
 walk_at"ex"
 have wlc:=xc _ _ (y2 wl _ (by simp [mwl.symm,lfwl.symm]) wla)
 have mlc:=xc _ _ (y2 ml _ (by simp [mml.symm,lfml.symm]) mla)
 simp only[a9]at plc mlc
 walk_at"st"
 rw[aE plc]
 refine⟨by rw[ab];exact UC p3,?_⟩
 rw[aE mlc]
 refine⟨by rw[ab];exact UC m3,?_⟩
 rw[aE wlc]
 refine⟨by rw[ab];exact UC hws,?_⟩
 refine hQ ps ms stc z8 (Ub z7 V2 V3) m3 y8 p3 z6 y6 fun a o ha e=>?_
 have ha':=ha
 simp only[cy,bw,or_false,not_or]at ha'
 have t7:=k7 a o (by simpa using ha'.1) e
 have t9:=ka a o (by simpa using ha'.1) (x9 _ _ (z2 a o ha t7))
 exact xc _ _ (y2 a o ha t9)
theorem Ai (h:G.fns i=some (A7 inm dM is ipr))(jO:G.fns inm=some (ES dM))(hp:G.fns ipr=some (BO is dM))(hs:G.fns is=some (pO dM is))(hn:G.fns dM=some (uI im))(hm:G.fns im=some (nY ic))(hc:G.fns ic=some pU){at_ pieces gK:Int}(ha:0<=at_)(hpi:0<=pieces)(hmu:0<=gK)(hmu3:gK<=3)
  (hQ:∀ b aA,Pq b pieces gK->Ext st aA->Q b.d aA):aI G (k+7) i [.bO (ns.map .int),.int at_,.int pieces,.int gK] st Q E:=by
 have hL:bH=16777216:=rfl
 rw[bA h]
 simp only[A7,start]
 refine⟨rfl,?_⟩
 walk_at"st"
 refine cG (by show 1<=bH;decide) fun m aC x1 hm0 m1=>?_
 walk_at"st"
 refine WC (k:=k+2) jO hn hm hc m1 ha fun fs gs aF i2 bT k2 hi2 m2=>?_
 obtain⟨f1,f2,g1,g2,nd,n8⟩:=WJ bT
 walk_at"ex"
 walk_at"st"
 refine⟨by simp only[ab];omega,?_⟩
 have en:(fs.map D.str++gs.map D.str)=(fs++gs).map .str:=by simp
 rw[en]
 walk_at"st"
 refine gF (k:=k+3) hn hm hc m2 hi2 (by omega) fun aX k3 m3=>?_
 have L0:=iD (ns:=ns) (k:=i2+1) (many:=pieces+1) (by omega)
 have L1:=iE (ns:=ns) (k:=i2+1) (many:=pieces+1) (by omega)
 generalize lG ns (i2+1) (pieces+1)=lv at L0 L1
 refine cG (by show 1<=bH;decide) fun lf cN x4 hlf lf4=>?_
 have m4:=x4 _ _ m3
 have mlf:m≠lf:=fun z=>by rw[<-z,m3]at hlf;cases hlf
 have old3:∀ a o,st a=some o->aX a=some o:=fun a o e=>by
  have hma:a≠m:=fun z=>by rw[z,hm0]at e;cases e
  exact k3 a o (by simpa using hma) (k2 a o (by simpa using hma) (x1 _ _ e))
 have old4:∀ a o,st a=some o->cN a=some o/\a≠m/\a≠lf:=fun a o e=>⟨x4 _ _ (old3 a o e),fun z=>(by rw[z,hm0]at e;cases e),fun z=>(by rw[<-z,old3 a o e]at hlf;cases hlf)⟩
 walk_at"ex"
 walk_at"st"
 refine cG (by simp) fun wl dF x5 hwl wl5=>?_
 have m5:=x5 _ _ m4
 have lf5:=x5 _ _ lf4
 have mwl:m≠wl:=fun z=>by rw[<-z,m4]at hwl;cases hwl
 have lfwl:lf≠wl:=fun z=>by rw[<-z,lf4]at hwl;cases hwl
 have old5:∀ a o,st a=some o->dF a=some o/\a≠m/\a≠lf/\a≠wl:=fun a o e=>by
  obtain⟨q1,q2,q3⟩:=old4 a o e
  exact⟨x5 _ _ q1,q2,q3,fun z=>by rw[<-z,q1]at hwl;cases hwl⟩
 walk_at"ex"
 walk_at"st"
 refine gF (k:=k+3) hn hm hc m5 (by omega) (by omega) fun gS k6 m6=>?_
 have V0:=iD (ns:=ns) (k:=i2+1+1) (many:=3) (by omega)
 have V1:=iE (ns:=ns) (k:=i2+1+1) (many:=3) (by omega)
 generalize lG ns (i2+1+1) 3=v at V0 V1
 have lf6:=k6 lf _ (by simpa using mlf.symm) lf5
 have wl6:=k6 wl _ (by simpa using mwl.symm) wl5
 walk_at"ex"
 refine⟨by unfold iF;omega,?_⟩
 rw[AX]
 have hname:∀ n∈fs++gs,fT n=true:=fun n hn'=>Q9 n (n8 n hn')
 have fpos:0<(fs++gs).length:=by simp;omega
 have hdis:∀ n∈fs,n∉gs:=fun n h1 h2=>by
  rw[ow]at nd
  exact nd.2.2 n h1 n h2 rfl
 refine lD (fun j:Nat=>D.int (j:Nat)) (I:=WI (fun pF qW=>bσ at_ pieces gK ns fs gs m lf wl pF qW none none) (fs++gs) m lf wl gS lv v) (fun rest σ aA _ a ha=>?_) (fun x rest σ aA M ⟨j,pF,qW,i',ws,e1,e2,q1,q2,q3,q4,q5,q6,q7,q7',q8⟩ hM=>?_) (fun σ aA ⟨j,pF,qW,i',ws,e1,e2,q1,q2,q3,q4,q5,q6,q7,q7',q8⟩=>?_) _ _ _ ⟨0,none,none,i2+1+1,[],rfl,rfl,.refl,by omega,m6,by simpa [fM]using lf6,by simp [fM];omega,wl6,rfl,dm _,by simp⟩
 ·cases ha
 ·subst e2
  have hj:j<(bb (1+v).toNat).length:=by
   by_cases z:j<(bb (1+v).toNat).length
   ·exact z
   ·rw[fx (by omega)]at e1;cases e1
  rw[b9 hj]at e1
  injection e1 with e3 e4
  simp only[dw]at hj
  simp only[bσ]
  walk_at"st"
  refine cG (by decide) fun u lF x7 hu hu7=>?_
  walk_at"ex"
  refine gF (k:=k+3) hn hm hc (x7 _ _ q3) q2 (by omega) fun eI k8 m8=>?_
  have um:u≠m:=fun z=>by rw[z,q3]at hu;cases hu
  have u8:=k8 u _ (by simpa using um) hu7
  have w0:=iD (ns:=ns) (k:=i'+1) (many:=3) (by omega)
  have w1:=iE (ns:=ns) (k:=i'+1) (many:=3) (by omega)
  generalize lG ns (i'+1) 3=w at w0 w1
  have hpr:∃ c:Int,0<c/\c<=99/\gQ [D.int 3,D.int 9,D.int 99] w=some (.int c):=by
   have hw:w=0∨w=1∨w=2:=by omega
   rcases hw with rfl|rfl|rfl
   ·exact⟨3,by decide,by decide,GY⟩
   ·exact⟨9,by decide,by decide,V8⟩
   ·exact⟨99,by decide,by decide,VQ⟩
  obtain⟨c,ZC,c99,hc'⟩:=hpr
  rw[eO u8,hc',bF]
  refine gF (k:=k+3) hn hm hc m8 (by omega) ZC fun tR k9 m9=>?_
  have y0:=iD (ns:=ns) (k:=i'+1+1) (many:=c) (by omega)
  have y1:=iE (ns:=ns) (k:=i'+1+1) (many:=c) (by omega)
  generalize lG ns (i'+1+1) c=y at y0 y1
  walk_at"ex"
  have kk9:bL [m,lf,wl] aA tR:=(x7.keep.trans (k8.mono (by simp))).trans (k9.mono (by simp))
  have lf9:tR lf=some (.lst [.int (lv-fM (ws.map (·.2)))]):=k9 lf _ (by simpa using mlf.symm) (k8 lf _ (by simpa using mlf.symm) (x7 _ _ q4))
  have wl9:tR wl=some (.lst (ws.map fun w:Int×Sy=>.tup [.int w.1,toD w.2])):=k9 wl _ (by simpa using mwl.symm) (k8 wl _ (by simpa using mwl.symm) (x7 _ _ q6))
  walk_at"st"
  rw[aE wl9]
  refine⟨True.intro,?_⟩
  refine uM (k:=k) hs hn hm hc fpos mlf 2 m9 lf9 (by omega) (by omega) fun s yK i10 o10' d10 c10 k10 hi10 m10 lf10=>?_
  have wl10:=k10 wl _ (by simp [mwl.symm,lfwl.symm]) wl9
  walk_at"ex"
  rw[aE wl10]
  refine⟨by simp only[ab];omega,?_⟩
  simp only[aO]
  have ec:fM ((ws++[(1+y,s)]).map (·.2))=fM (ws.map (·.2))+cnt s:=by rw[dg,uV];simp [fM]
  refine hM _ _ ⟨j+1,_,_,i10,ws++[(1+y,s)],e4,rfl,?_,hi10,?_,?_,?_,?_,by simp [q7],by omega,fun w' hw'=>?_⟩
  ·intro a o na e
   simp only[cy,bw,or_false,not_or]at na
   rw[aM na.2.2]
   exact k10 a o (by simp [na]) (kk9 a o (by simp [na]) (q1 a o (by simp [na]) e))
  ·rw[aM mwl];exact m10
  ·rw[aM lfwl,lf10,ec];simp;omega
  ·rw[ec];simp;omega
  ·rw[aQ];simp
  ·rcases List.mem_append.mp hw' with hw'|hw'
   ·exact q8 w' hw'
   ·simp only[aj]at hw';subst hw'
    exact⟨by show 1<=1+y;omega,by show 1+y<=99;omega,o10',d10⟩
 ·-- gK
  subst e2
  have hj:(1+v).toNat<=j:=by
   by_cases z:j<(bb (1+v).toNat).length
   ·rw[b9 z]at e1;cases e1
   ·simpa using z
  have hws:ws.length<=3:=by omega
  refine SH (k:=k) (inm:=inm) hp hs hn hm hc (by omega) fpos hdis mlf mwl lfwl hmu hmu3 q2 q3 q4 (by omega) q6 hws fun ps ms eI z8 z7 m3 y8 p3 z6 y6 z2=>?_
  have w1:1<=ws.length:=by omega
  refine hQ ⟨fs,gs,ps,ms,ws⟩ eI ⟨⟨f1,f2,g1,g2,nd,hname,p3,fun s gR=>⟨(y8 s gR).1,c7 (y8 s gR).2.1 (by decide)⟩,fun s gR=>(y8 s gR).2.2,m3,fun s gR=>⟨(z8 s gR).1,c7 (z8 s gR).2 (by decide)⟩,w1,c7 hws (by decide),fun w hw=>⟨(q8 w hw).1,(q8 w hw).2.1,(q8 w hw).2.2.1,c7 (q8 w hw).2.2.2 (by decide)⟩⟩,fun s gR=>?_,z7,?_,n8⟩ fun a o e=>?_
  ·simp only[Bk.says,ng,qw]at gR
   rcases gR with(gR|gR)|⟨w,hw,rfl⟩
   ·exact(y8 s gR).2.1
   ·exact c7 (z8 s gR).2 (by decide)
   ·exact c7 (q8 w hw).2.2.2 (by decide)
  ·show((fM (ps++ms++ws.map (·.2)):Nat):Int)<=pieces
   rw[uV,uV]
   exact Ua y6 L1
  ·obtain⟨s1,s2,s3,s4⟩:=old5 a o e
   have t6:=k6 a o (by simpa using s2) s1
   exact z2 a o (by simp [s2,s3]) (q1 a o (by simp [s2,s3,s4]) t6)
end
theorem R7 {n:Nat}:∀(l:List Sy),(∀ s∈l,aR s<=4)->fN l<=l.length*15
 |[],_=>by simp [fN]
 |s::l,h=>by
  have h1:=J4 s
  have h2:=h s (by simp)
  have h3:=R7 (n:=n) l fun x hx=>h x (by simp [hx])
  have h4:2 ^ aR s<=2 ^ 4:=fk (by decide) h2
  rw[kK]
  simp only[bf]
  omega
theorem JK {names:List (List Nat)}{f:List Sy}{s:Sy}(hf:∀ x∈f,over names x)(hs:over names s):∀ x∈eY f s,over names x:=by
 unfold eY;split
 ·intro x hx
  rcases List.mem_append.mp hx with hx|hx
  ·exact hf x hx
  ·simp only[aj]at hx;subst hx;exact hs
 ·exact hf
theorem yB {names:List (List Nat)}:∀(s:Sy){f:List Sy},(∀ x∈f,over names x)->over names s->∀ x∈aK s f,over names x
 |.yes,_,hf,_=>hf
 |.no,_,hf,_=>hf
 |.cQ _,_,hf,_=>hf
 |.one w s,_,hf,hs=>yB s (JK hf hs) hs
 |.two w s t,_,hf,hs=>yB t (yB s (JK hf hs) hs.1) hs.2
theorem IA {names:List (List Nat)}:∀(l:List Sy){f:List Sy},(∀ x∈f,over names x)->(∀ s∈l,over names s)->∀ x∈cF l f,over names x
 |[],_,hf,_=>hf
 |s::l,_,hf,hl=>IA l (yB s hf (hl s (by simp))) fun x hx=>hl x (by simp [hx])
section
variable {G:Prog}{k il ibo ipl imb ilm inm ic im dM is ipr ibk ich icp ist ie iw ipo iz irr iti io iri ima eV iph inh ibp ip ih:Nat}{st:aB}{E:XK}{ns:List Int}
theorem UD {b:Bk}{pieces gK:Int}(DR:Pq b pieces gK)(hp:pieces<=4):fN b.says<=200/\(∀ x∈b.says,aR x<=60)/\(cF b.says []).length<=4/\∀ s∈cF b.says [],over b.names s/\aR s<=8:=by
 have p1:=DR.ok.p1
 have m1:=DR.ok.m1
 have w2:=DR.ok.w2
 have hl:b.says.length<=11:=by simp [Bk.says];omega
 refine⟨?_,fun x hx=>by have:=DR.d4 x hx;omega,?_,fun s hs=>⟨IA b.says (by simp) (fun s hs=>(PM DR.ok s hs).1) s hs,xD b.says (n:=8) (by simp) (fun x hx=>by have:=DR.d4 x hx;omega) s hs⟩⟩
 ·have:=R7 (n:=0) b.says DR.d4;omega
 ·have:=M5 b.says []
  have h2:=DR.cn
  simp at this;omega
end
noncomputable def xH:Fn:=⟨1,5,[.asg (.nm 1) (.lst [(.tup [])]),.mB (.nm 2) (some .range) [(.bi .len [(.v 0)])] [.asg (.nm 3) (.lst []),.mB (.nm 4) none [(.v 1)] [.ex (.cT .append (.v 3) [(.bin .add (.v 4) (.tup [(.c (.bl false))]))]),.ex (.cT .append (.v 3) [(.bin .add (.v 4) (.tup [(.c (.bl true))]))])],.asg (.nm 1) (.v 3)],.ret (.v 1)]⟩
noncomputable def BE:Fn:=⟨2,2,[.ret (.bi .all [(.comp 1 [1] [0] true none [(.fld (W "Rules") (W "promise_rows") (.v 0))] [] (.ix (.v 1) (.v 0)))])]⟩
noncomputable def BP:Fn:=⟨2,2,[.ret (.bi .all [(.comp 1 [1] [0] true none [(.fld (W "Rules") (W "must_rows") (.v 0))] [] (.ix (.v 1) (.v 0)))])]⟩
noncomputable def xU:Fn:=⟨2,2,[.ret (.bi .sum [(.comp 2 [1] [0,1] false none [(.fld (W "Rules") (W "priced_rows") (.v 0))] [(.not_ (.ix (.v 2) (.v 1)))] (.v 0))])]⟩
noncomputable def EN:Fn:=⟨2,2,[.asg (.fl (W "Numbering") (W "met") (.v 0)) (.lst [(.v 1)]),.asg (.fl (W "Numbering") (W "numbers_met") (.v 0)) (.d1 (.v 1) (.c (.int 0)))]⟩
noncomputable def BY:Fn:=⟨2,2,[.iff (.din true (.v 1) (.fld (W "Numbering") (W "numbers_met") (.v 0))) [.asg (.dk (.fld (W "Numbering") (W "numbers_met") (.v 0)) (.v 1)) (.bi .len [(.fld (W "Numbering") (W "met") (.v 0))]),.ex (.cT .append (.fld (W "Numbering") (W "met") (.v 0)) [(.v 1)])] [],.ret (.dix (.fld (W "Numbering") (W "numbers_met") (.v 0)) (.v 1))]⟩
noncomputable def dI:Nat->List (List Bool)
 |0=>[[]]
 |n+1=>(dI n).flatMap fun r=>[r++[false],r++[true]]
noncomputable def vm (names:List (List Nat))(aK:List Sy)(m set:List Bool):Sy->Bool
 |.yes=>true
 |.no=>false
 |.cQ n=>(set[names.idxOf n]?).getD false
 |.one w s=>if p1 w=true then fV (.one w s) ((m[aK.idxOf (.one w s)]?).getD false) [vm names aK m set s]else rG (.one w s) [vm names aK m set s]
 |.two w s t=>if p2 w=true then fV (.two w s t) ((m[aK.idxOf (.two w s t)]?).getD false) [vm names aK m set s,vm names aK m set t]else rG (.two w s t) [vm names aK m set s,vm names aK m set t]
theorem OI {names:List (List Nat)}{aK:List Sy}{m set:List Bool}{s:Sy}(h:bR s=true):vm names aK m set s=fV s ((m[aK.idxOf s]?).getD false) ((subs s).map (vm names aK m set)):=by
 cases s with
 |one w a=>simp only[bR]at h;simp only[vm,h,if_true,subs,ay,fe]
 |two w a b=>simp only[bR]at h;simp only[vm,h,if_true,subs,ay,fe]
 |_=>cases h
theorem VE {names:List (List Nat)}{aK:List Sy}{m set:List Bool}{s:Sy}(h:bR s=false)(hl:fY s=false):vm names aK m set s=rG s ((subs s).map (vm names aK m set)):=by
 cases s with
 |one w a=>simp only[bR]at h;simp only[vm,h,aq,if_false,subs,ay,fe]
 |two w a b=>simp only[bR]at h;simp only[vm,h,aq,if_false,subs,ay,fe]
 |cQ n=>cases hl
 |_=>rfl
theorem pQ:∀(n:Nat)(r:List Bool),r∈dI n->r.length=n
 |0,r,h=>by simp [dI]at h;subst h;rfl
 |n+1,r,h=>by
  simp only[dI,z9,cy,bw,or_false]at h
  obtain⟨q,hq,h|h⟩:=h<;>(subst h;simp [pQ n q hq])
theorem LW:∀(n:Nat)(r:List Bool),r.length=n->r∈dI n
 |0,r,h=>by simp at h;subst h;simp [dI]
 |n+1,r,h=>by
  simp only[dI,z9,cy,bw,or_false]
  have hr:r≠[]:=by intro z;rw[z]at h;cases h
  refine⟨r.dropLast,LW n _ (by simp [h]),?_⟩
  have:=List.dropLast_concat_getLast hr
  cases hb:r.getLast hr with
  |false=>rw[hb]at this;exact .inl this.symm
  |true=>rw[hb]at this;exact .inr this.symm
theorem nK:∀ n:Nat,(dI n).length=2 ^ n
 |0=>rfl
 |n+1=>by
  have h:=nK n
  simp only[dI]
  have:∀ l:List (List Bool),(l.flatMap fun r=>[r++[false],r++[true]]).length=2*l.length:=fun l=>by
   induction l with
   |nil=>rfl
   |cons a l ih=>simp only[sy,bp,ih,bf,be];omega
  rw[this,h,zf];omega
theorem HU:∀ n:Nat,∃ r,dI n=ak n false::r
 |0=>⟨[],rfl⟩
 |n+1=>by
  obtain⟨r,e⟩:=HU n
  refine⟨(ak n false++[true])::r.flatMap (fun r=>[r++[false],r++[true]]),?_⟩
  simp only[dI,e,sy,b7,a9]
  rw[List.replicate_succ']
theorem U4 {α:Type}[DecidableEq α]:∀(l u:List α),l.Nodup->(∀ x∈l,x∈u)->l.length<=u.length
 |[],u,_,_=>dm _
 |x::l,u,nd,h=>by
  have hx:=h x (by simp)
  have nd':=List.nodup_cons.mp nd
  have ih:=U4 l (u.erase x) nd'.2 fun y hy=>by
   have hne:y≠x:=fun e=>nd'.1 (e▸hy)
   exact(List.mem_erase_of_ne hne).mpr (h y (by simp [hy]))
  rw[List.length_erase_of_mem hx]at ih
  have:0<u.length:=List.length_pos_of_mem hx
  simp only[bf];omega
inductive Rm (N:Nat)(hd:Option D)(st:aB)(rest:List Nat)(σ:St)(aA:aB):Prop
 |mk (t q:Nat)(o2 o3 o4:Option D)(e0:t<=N)(e1:rest=(bb N).drop t)(e2:σ=[hd,some (.ref q),o2,o3,o4])(hq:st q=none)(x3:Ext st aA)(e5:aA q=some (.lst ((dI t).map bC)))
inductive Rv (t:Nat)(hd:Option D)(q x u:Nat)(cN:aB)(RO:List (List Bool))(σ:St)(dF:aB):Prop
 |mk (dn:List (List Bool))(o4:Option D)(f1:dI t=dn++RO)(f2:σ=[hd,some (.ref q),some (.int (x:Nat)),some (.ref u),o4])(f3:bL [u] cN dF)(f4:dF u=some (.lst ((dn.flatMap fun r=>[r++[false],r++[true]]).map bC)))
theorem Lw (l:List (List Bool)):(l.flatMap fun r=>[r++[false],r++[true]]).length=2*l.length:=by
 induction l with
 |nil=>rfl
 |cons a l ih=>simp only[sy,bp,ih,bf,be];omega
theorem G4 {t:Nat}(h:t<=4):(dI t).length<=16:=by
 rw[nK];exact fk (n:=2) (by decide) h
theorem drop_cons {N t x:Nat}{rest:List Nat}(h:x::rest=(bb N).drop t):t<N/\rest=(bb N).drop (t+1):=by
 have ht:t<(bb N).length:=by
  by_cases z:t<(bb N).length
  ·exact z
  ·rw[fx (by omega)]at h;cases h
 rw[b9 ht]at h
 injection h with _ h
 exact⟨by simpa using ht,h⟩
theorem drop_nil {N t:Nat}(h:[]=(bb N).drop t):N<=t:=by
 by_cases z:t<(bb N).length
 ·rw[b9 z]at h;cases h
 ·simpa using z
theorem Bh {l dn r:List (List Bool)}{n:Nat}(e:l=dn++r)(h:l.length<=n):dn.length<=n:=by
 rw[e,bp]at h;omega
section
variable {G:Prog}{k i:Nat}{st:aB}{Q:VK}{E:XK}
theorem GL (h:G.fns i=some xH){ds:List D}(hd:ds.length<=4)(hQ:∀ p aA,st p=none->Ext st aA->aA p=some (.lst ((dI ds.length).map bC))->Q (.ref p) aA):aI G (k+1) i [.tup ds] st Q E:=by
 have hL:bH=16777216:=rfl
 rw[bA h]
 simp only[xH,start]
 refine⟨rfl,?_⟩
 walk_at"st"
 refine cG (by show 1<=bH;decide) fun p aC x1 hp hp1=>?_
 walk_at"st"
 refine⟨by unfold iF;omega,?_⟩
 rw[show((ds.length:Int)).toNat=ds.length by omega,AX]
 have p1:aC p=some (.lst ((dI 0).map bC)):=hp1
 refine lD (fun j:Nat=>D.int (j:Nat)) (I:=Rm ds.length (some (.tup ds)) st) (fun rest σ aA _ a ha=>?_) (fun x rest σ aA M I hM=>?_) (fun σ aA I=>?_) _ _ _ ⟨0,p,none,none,none,dm _,rfl,rfl,hp,x1,p1⟩
 ·cases ha
 ·obtain⟨t,q,o2,o3,o4,e0,e1,e2,hq,x3,e5⟩:=I
  subst e2
  obtain⟨ht,e4⟩:=drop_cons e1
  have lE:(dI t).length<=16:=G4 (by omega)
  clear e1
  walk_at"st"
  refine cG (by simp) fun u cN x4 hu hu4=>?_
  have qu:q≠u:=fun z=>by rw[<-z,e5]at hu;cases hu
  walk_at"st"
  rw[aE (x4 _ _ e5)]
  refine lD bC (I:=Rv t (some (.tup ds)) q x u cN) (fun RO σ dF J=>?_) (fun y RO σ dF M2 J hM2=>?_) (fun σ dF J=>?_) _ _ _ ⟨[],o4,rfl,rfl,.refl,hu4⟩
  ·obtain⟨dn,o4,f1,f2,f3,f4⟩:=J
   intro a ha
   simp only[aj]at ha
   subst ha
   rw[x4 _ _ e5,f3 _ _ (by simpa using qu) (x4 _ _ e5)]
  ·obtain⟨dn,o4,f1,f2,f3,f4⟩:=J
   subst f2
   have hl:(dn.flatMap fun r=>[r++[false],r++[true]]).length<=40:=by have:=Bh f1 lE;rw[Lw];omega
   have hyl:y.length=t:=pQ t y (by rw[f1];simp)
   simp only[bC]
   walk_at"st"
   rw[aE f4]
   refine⟨True.intro,by simp only[ab];omega,?_⟩
   rw[aE f4]
   refine⟨by simp only[ab];omega,?_⟩
   walk_at"st"
   rw[aE aQ]
   refine⟨True.intro,by simp only[ab];omega,?_⟩
   rw[aE aQ]
   refine⟨by simp only[ab,bp,bf,be];omega,?_⟩
   simp only[aO]
   rw[Ax]
   refine hM2 _ _ ⟨dn++[y],_,by simp [f1],rfl,fun a o na e=>by rw[aM (by simpa using na)];exact f3 a o na e,?_⟩
   rw[aQ]
   simp [bC,List.flatMap_append]
  ·obtain⟨dn,o4,f1,f2,f3,f4⟩:=J
   subst f2
   rw[eh]at f1
   walk_at"st"
   simp only[aO]
   refine hM _ dF ⟨t+1,u,_,_,_,by omega,e4,rfl,?_,fun a o e=>f3 a o (fun z=>?_) (x4 _ _ (x3 _ _ e)),?_⟩
   ·cases hz:st u with
    |none=>rfl
    |some o=>rw[x3 _ _ hz]at hu;cases hu
   ·simp only[aj]at z
    rw[z]at e
    rw[x3 _ _ e]at hu;cases hu
   ·rw[f4,<-f1];rfl
 ·obtain⟨t,q,o2,o3,o4,e0,e1,e2,hq,x3,e5⟩:=I
  subst e2
  have ht:=drop_nil e1
  have et:t=ds.length:=by omega
  subst et
  walk_at"st"
  exact hQ q aA hq x3 e5
end
noncomputable def bS (ss:List Sy)(V:Sy->Bool):Bool:=ss.all V
noncomputable def fU (ws:List (Int×Sy))(V:Sy->Bool):Int:=((ws.filter fun w=>!V w.2).map (·.1)).sum
noncomputable def KD (l d:Nat):List (List Nat×D):=[(W "met", .ref l),(W "numbers_met", .ref d)]
structure mX (st:aB)(n l d:Nat)(met:List (List Bool)):Prop where
 ins:st n=some (.ins (W "Numbering") (KD l d))
 dic:st d=some (.tab (met.map bC) (uQ met.length))
 met:st l=some (.lst (met.map bC))
theorem nQ {p l1 l2 l3:Nat}:bN (sM p l1 l2 l3) (W "table")=some (.ref p):=by simp only[sM,bN];rw[if_pos bz]
theorem Hu {p l1 l2 l3:Nat}:bN (sM p l1 l2 l3) (W "promise_rows")=some (.ref l1):=by simp only[sM,bN];rw[if_neg (by decide +kernel),if_pos bz]
theorem Hd {p l1 l2 l3:Nat}:bN (sM p l1 l2 l3) (W "must_rows")=some (.ref l2):=by simp only[sM,bN];rw[if_neg (by decide +kernel),if_neg (by decide +kernel),if_pos bz]
theorem Hy {p l1 l2 l3:Nat}:bN (sM p l1 l2 l3) (W "priced_rows")=some (.ref l3):=by simp only[sM,bN];rw[if_neg (by decide +kernel),if_neg (by decide +kernel),if_neg (by decide +kernel),if_pos bz]
theorem wC {p l1 l2 l3:Nat}{f:List Nat}(h1:W "table" ≠ f)(h2:W "promise_rows" ≠ f)(h3:W "must_rows" ≠ f)(h4:W "priced_rows" ≠ f):bN (sM p l1 l2 l3) f=none:=by
 simp only[sM,bN];rw[if_neg h1,if_neg h2,if_neg h3,if_neg h4]
theorem BN {l d:Nat}:bN (KD l d) (W "met")=some (.ref l):=by simp only[KD,bN];rw[if_pos bz]
theorem FI {l d:Nat}:bN (KD l d) (W "numbers_met")=some (.ref d):=by simp only[KD,bN];rw[if_neg (by decide +kernel),if_pos bz]
theorem Eu {l d:Nat}{f:List Nat}(h1:W "met" ≠ f)(h2:W "numbers_met" ≠ f):bN (KD l d) f=none:=by simp only[KD,bN];rw[if_neg h1,if_neg h2]
theorem ON {st:aB}(a b:List Bool):bV st (bC a) (bC b)=decide (a=b):=by
 rw[MQ _ _ (pG a)]
 simp only[bC,bM]
 induction a generalizing b with
 |nil=>cases b<;>simp [gB]
 |cons x a ih =>
 cases b with
 |nil=>simp [gB]
 |cons y b =>
  simp only[ay,gB,bM,ih,qj]
  by_cases h1:x=y<;>by_cases h2:a=b<;>simp [h1,h2]
theorem HY {st:aB}(a:List Bool):plainS st (bC a):=⟨sE _ (pG a),c7 (BK a) (by decide)⟩
theorem PF (a b:List Bool):bM (bC a) (bC b)=decide (a=b):=(MQ (st:=fun _=>none) _ _ (pG a)).symm.trans (ON a b)
theorem M4 (m:List Bool)(met:List (List Bool)):((met.map bC).any fun k=>bM k (bC m))=met.contains m:=by
 induction met with
 |nil=>rfl
 |cons x met ih =>
 simp only[ay,kf,PF,ih,nj]
 congr 1
 by_cases h:x=m
 ·subst h;simp
 ·rw[decide_eq_false h];exact(beq_eq_false_iff_ne.mpr fun z=>h z.symm).symm
theorem uE (m:List Bool):keyed (bC m):=by
 refine⟨?_,?_⟩
 ·induction m with
  |nil=>rfl
  |cons a l ih=>simp only[ay,jR,jI,ke];exact ih
 ·have:cW (m.map D.bl)=0:=by
   induction m with
   |nil=>rfl
   |cons a l ih=>simp only[ay,cW,cS,ih];rfl
  omega
theorem LR {m:List Bool}:∀{met:List (List Bool)}{vs:List D}{d:D},m∈met->vs.length=met.length->vs[met.idxOf m]? = some d->lL (met.map bC) vs (bC m)=some d
 |[],_,_,h,_,_=>by cases h
 |x::r,[],_,_,h,_=>by simp at h
 |x::r,v::vs,d,h,hl,hv=>by
  simp only[ay,lL,PF]
  by_cases e:x=m
  ·subst e
   simp [j3]at hv
   simp [hv]
  ·rw[if_neg (by simpa using e)]
   rw[j3,beq_eq_false_iff_ne.mpr e]at hv
   exact LR (by simpa [ey e]using h) (by simpa using hl) (by simpa using hv)
noncomputable def jM (met:List (List Bool))(m:List Bool):List (List Bool):=if met.contains m then met else met++[m]
set_option tactic.hygienic true in
theorem xO (met:List (List Bool))(m:List Bool):m∈jM met m:=by
 unfold jM;split
 ·rename_i h;simpa using h
 ·simp
section
variable {G:Prog}{k i:Nat}{st:aB}{Q:VK}{E:XK}{b:Bk}{r p l1 l2 l3:Nat}{R:List Sy}{V:Sy->Bool}{q:Nat}
theorem U6 (hR:∀ s∈R,True){s:Sy}(hs:s∈R)(hq:st q=some (.lst (R.map fun s=>.bl (V s)))){Q':VK}:nU (.ref q) (.int (R.idxOf s:Nat)) st Q'=Q' (.bl (V s)) st:=by
 have cO:=List.idxOf_lt_length_iff.mpr hs
 rw[eO hq,eJ (by simpa using cO),bc,ah cO]
 simp [dG]
theorem IX {f:List Nat}{l:Nat}{ss:List Sy}(h:G.fns i=some ⟨2,2,[.ret (.bi .all [(.comp 1 [1] [0] true none [(.fld (W "Rules") f (.v 0))] [] (.ix (.v 1) (.v 0)))])]⟩)(T:iG st r p l1 l2 l3 b R)(hf:bN (sM p l1 l2 l3) f=some (.ref l))(hl:st l=some (.lst (ss.map fun s=>.int (R.idxOf s:Nat))))(hss:∀ s∈ss,s∈R)(hn:ss.length<=1000)(hq:st q=some (.lst (R.map fun s=>.bl (V s))))
  (hQ:∀ aA,Ext st aA->Q (.bl (bS ss V)) aA):aI G (k+1) i [.ref r,.ref q] st Q E:=by
 have hL:bH=16777216:=rfl
 rw[bA h]
 simp only[start]
 refine⟨rfl,?_⟩
 walk_at"st"
 rw[cL T.ins hf,nC,aE hl]
 refine fB (fun s:Sy=>D.int (R.idxOf s:Nat)) (fun s=>.bl (V s)) ss [] st (fun aZ y a ha=>?_) (fun s hs aZ K y1 hK=>?_) (by simp only[be];omega) fun aF y2=>?_
 ·simp only[aj]at ha
  subst ha
  rw[hl,y _ _ hl]
 ·show nU _ _ aZ _
  rw[U6 (fun _ _=>trivial) (hss s hs) (y1 _ _ hq)]
  exact hK aZ .refl
 rw[a9]
 refine cG (by simp only[ab];omega) fun pp aX y3 hpp pC=>?_
 walk_at"ex"
 rw[aE pC,xY,bF,qt]
 exact hQ aX (y2.trans y3)
theorem OG (h:G.fns i=some BE)(T:iG st r p l1 l2 l3 b R)(B:b.Ok)(hq:st q=some (.lst (R.map fun s=>.bl (V s))))(hQ:∀ aA,Ext st aA->Q (.bl (bS b.ps V)) aA):aI G (k+1) i [.ref r,.ref q] st Q E :=
 IX h T Hu T.pr (fun s hs=>T.all s (by simp [Bk.says,hs])) (by have:=B.p1;omega) hq hQ
theorem O2 (h:G.fns i=some BP)(T:iG st r p l1 l2 l3 b R)(B:b.Ok)(hq:st q=some (.lst (R.map fun s=>.bl (V s))))(hQ:∀ aA,Ext st aA->Q (.bl (bS b.ms V)) aA):aI G (k+1) i [.ref r,.ref q] st Q E :=
 IX h T Hd T.mu (fun s hs=>T.all s (by simp [Bk.says,hs])) (by have:=B.m1;omega) hq hQ
theorem XE (V:Sy->Bool)(ws:List (Int×Sy)):intsOf (ws.filterMap fun w=>if(!V w.2)=true then some (D.int w.1)else none)=some ((ws.filter fun w=>!V w.2).map (·.1)):=by
 induction ws with
 |nil=>rfl
 |cons w ws ih =>
 cases hv:V w.2 with
 |true=>simp [f6,md,hv]at ih ⊢;exact ih
 |false =>
  simp only[f6,md,hv,kj,if_true,intsOf,ay]
  rw[ih];rfl
theorem O6 (h:G.fns i=some xU)(T:iG st r p l1 l2 l3 b R)(B:b.Ok)(hq:st q=some (.lst (R.map fun s=>.bl (V s))))(hQ:∀ aA,Ext st aA->Q (.int (fU b.ws V)) aA):aI G (k+1) i [.ref r,.ref q] st Q E:=by
 have hL:bH=16777216:=rfl
 have w2:=B.w2
 rw[bA h]
 simp only[xU,start]
 refine⟨rfl,?_⟩
 walk_at"st"
 rw[cL T.ins Hy,nC,aE T.wi]
 refine sC (fun w:Int×Sy=>D.tup [.int w.1,.int (R.idxOf w.2:Nat)]) (fun w=>if(!V w.2)=true then some (D.int w.1)else none) b.ws [] st (fun aZ y a ha=>?_) (fun w hw aZ K y1 hK=>?_) (by simp only[be];omega) fun aF y2=>?_
 ·simp only[aj]at ha
  subst ha
  rw[T.wi,y _ _ T.wi]
 ·have hs:w.2∈R:=T.all w.2 (by simp only[Bk.says,ng,qw];exact .inr ⟨w,hw,rfl⟩)
  walk_at"ex"
  rw[U6 (fun _ _=>trivial) hs (y1 _ _ hq)]
  walk_at"ex"
  have:=hK aZ .refl
  cases hv:V w.2 with
  |true=>simpa [hv]using this
  |false=>simpa [hv]using this
 rw[a9]
 refine cG (by have:=List.length_filterMap_le (fun w:Int×Sy=>if(!V w.2)=true then some (D.int w.1)else none) b.ws;omega) fun pp aX y3 hpp pC=>?_
 walk_at"ex"
 rw[aE pC,XE,bF]
 exact hQ aX (y2.trans y3)
theorem ZJ (h:G.fns i=some EN){n:Nat}{m:List Bool}(hn:st n=some (.ins (W "Numbering") []))(hQ:∀ aA l d,st l=none->st d=none->bL [n] st aA->mX aA n l d [m]->Q .non aA):aI G (k+1) i [.ref n,bC m] st Q E:=by
 rw[bA h]
 simp only[EN,start]
 refine⟨rfl,?_⟩
 walk_at"st"
 refine cG (by show 1<=bH;decide) fun l aC x1 hl hl1=>?_
 walk_at"ex"
 rw[mV (x1 _ _ hn) (by simp),gU rfl]
 have nl:l≠n:=fun z=>by rw[z,hn]at hl;cases hl
 walk_at"st"
 rw[Sq]
 intro d hd
 have dn:d≠n:=fun z=>by rw[z,aQ]at hd;cases hd
 have dl:d≠l:=fun z=>by rw[z,aM nl,hl1]at hd;cases hd
 walk_at"ex"
 rw[Q6 aQ (uE m) rfl (by decide)]
 rw[mV (fs:=[(W "met", .ref l)]) (by rw[aM dn.symm,aM dn.symm,aQ]) (by simp),gU (by simp only[bN];rw[if_neg (by decide +kernel)])]
 simp only[aO]
 have hd0:st d=none:=by
  cases hz:st d with
  |none=>rfl
  |some o=>rw[aM dn,x1 _ _ hz]at hd;cases hd
 refine hQ _ l d hl hd0 (fun a o na e=>?_) ⟨by rw[aQ];rfl,by rw[aM dn,aQ];rfl,by rw[aM nl,aM dl.symm,aM dl.symm,aM nl];exact hl1⟩
 have an:a≠n:=by simpa using na
 have ad:a≠d:=fun z=>by rw[z,hd0]at e;cases e
 rw[aM an,aM ad,aM ad,aM an]
 exact x1 _ _ e
theorem Bt (h:G.fns i=some BY){n l d:Nat}{m:List Bool}{met:List (List Bool)}(N:mX st n l d met)(hlen:met.length<=1000)(hQ:∀ aA,bL [l,d] st aA->mX aA n l d (jM met m)->Q (.int ((jM met m).idxOf m:Nat)) aA):aI G (k+1) i [.ref n,bC m] st Q E:=by
 have hL:bH=16777216:=rfl
 have nl:n≠l:=fun z=>by have:=N.ins;rw[z,N.met]at this;cases this
 have nd:n≠d:=fun z=>by have:=N.ins;rw[z,N.dic]at this;cases this
 have ld:l≠d:=fun z=>by have:=N.met;rw[z,N.dic]at this;cases this
 rw[bA h]
 simp only[BY,start]
 refine⟨rfl,?_⟩
 have fin:∀ aC,bL [l,d] st aC->mX aC n l d (jM met m)->cY (aI G k) G.sub [.ret (.dix (.fld (W "Numbering") (W "numbers_met") (.v 0)) (.v 1))] ⟨fun _ aA=>Q .non aA,Q,fun _ _=>False,fun _ _=>False,fun c _ aA=>E c aA⟩ [some (.ref n),some (bC m)] aC:=fun aC k1 N1=>by
  walk_at"st"
  rw[cL N1.ins FI]
  walk_at"ex"
  rw[zJ N1.dic (uE m) (LR (xO met m) (OM _) (RS (jm (xO met m))))]
  exact hQ aC k1 N1
 walk_at"st"
 rw[cL N.ins FI,VB N.dic (uE m),M4]
 cases hc:met.contains m with
 |true =>
  walk_at"ex"
  (try simp only[if_true,fq,aq,if_false,aO])
  have e:jM met m=met:=by unfold jM;rw[hc];rfl
  exact fin st .refl (by rw[e];exact N)
 |false =>
  walk_at"ex"
  (try simp only[kj,if_true])
  walk_at"st"
  rw[cL N.ins BN]
  walk_at"ex"
  rw[fF N.met,cL N.ins FI]
  walk_at"ex"
  rw[Q6 N.dic (uE m) (by rw[M4];exact hc) (by simp only[ab];omega)]
  walk_at"st"
  have m1:(put st d (.tab (met.map bC++[bC m]) (uQ met.length++[.int ((met.map bC).length:Nat)]))) l=some (.lst (met.map bC)):=by rw[aM ld];exact N.met
  rw[cL (by rw[aM nd];exact N.ins) BN,wX,aE m1]
  refine⟨True.intro,?_⟩
  walk_at"ex"
  rw[aE m1]
  refine⟨by simp only[ab];omega,?_⟩
  simp only[aO]
  have e:jM met m=met++[m]:=by unfold jM;rw[hc];rfl
  refine fin _ (fun a o na e=>?_) ⟨by rw[aM nl,aM nd];exact N.ins,by rw[aM ld.symm,aQ,e];simp [uQ,j1],by rw[aQ,e];simp⟩
  simp only[cy,bw,or_false,not_or]at na
  rw[aM na.1,aM na.2];exact e
end
noncomputable def E1 (kA ifk eV:Nat):Fn:=⟨3,4,[.asg (.nm 3) (.ix (.call kA [(.ix (.v 0) (.c (.int 1)))]) (.c (.int 0))),.ret (.comp 1 [1,2,3] [0] true none [(.call kA [(.ix (.v 0) (.c (.int 0)))])] [(.mcl (W "Rules") (W "foe_keeps") ifk (.v 1) [(.mcl (W "Table") (W "held_at") eV (.fld (W "Rules") (W "table") (.v 1)) [(.v 2),(.bin .add (.v 0) (.v 3))])])] (.v 0))]⟩
noncomputable def MS (kA eV imk ino ima ilo:Nat):Fn:=⟨5,9,[.asg (.nm 5) (.lst []),.mB (.nm 6) none [(.call kA [(.ix (.v 0) (.c (.int 1)))])] [.asg (.nm 7) (.mcl (W "Table") (W "held_at") eV (.fld (W "Rules") (W "table") (.v 1)) [(.v 3),(.bin .add (.v 4) (.v 6))]),.iff (.mcl (W "Rules") (W "friend_keeps") imk (.v 1) [(.v 7)]) [.asg (.nm 8) (.mcl (W "Numbering") (W "number_of") ino (.v 2) [(.mcl (W "Table") (W "memory_after") ima (.fld (W "Rules") (W "table") (.v 1)) [(.v 7)])]),.ex (.cT .append (.v 5) [(.tup [(.v 6),(.mcl (W "Rules") (W "loss_at") ilo (.v 1) [(.v 7)]),(.v 8)])])] []],.ret (.bi .tuple [(.v 5)])]⟩
noncomputable def Bk.aK (b:Bk):List Sy:=cF b.says []
noncomputable def Bk.vm (b:Bk)(m set:List Bool):Sy->Bool:=L3.vm b.names b.aK m set
noncomputable def Bk.sF (b:Bk)(m set:List Bool):List Bool:=b.aK.map fun s=>b.vm m set (nS s)
noncomputable abbrev lM:=List Bool×Int×Nat
noncomputable def rJ (a:lM):D:=.tup [bC a.1,.int a.2.1,.int (a.2.2:Nat)]
noncomputable def cB (b:Bk)(m bB:List Bool)(x:List lM×List (List Bool))(fr:List Bool):List lM×List (List Bool) :=
 if bS b.ms (b.vm m (bB++fr))=true then(x.1++[(fr,fU b.ws (b.vm m (bB++fr)),(jM x.2 (b.sF m (bB++fr))).idxOf (b.sF m (bB++fr)))],jM x.2 (b.sF m (bB++fr)))else x
noncomputable def iI (b:Bk)(m bB:List Bool)(met:List (List Bool)):List lM×List (List Bool):=(dI b.gs.length).foldl (cB b m bB) ([],met)
noncomputable def mY (b:Bk)(m:List Bool):List (List Bool):=(dI b.fs.length).filter fun bB=>bS b.ps (b.vm m (bB++ak b.gs.length false))
structure mE (n:Nat)(met:List (List Bool)):Prop where
 nd:met.Nodup
 len:∀ m∈met,m.length=n
theorem mE.O4 {n:Nat}{met:List (List Bool)}(h:mE n met)(hn:n<=4):met.length<=16:=by
 have h1:=U4 met (dI n) h.nd fun m hm=>LW n m (h.len m hm)
 rw[nK]at h1
 have:2 ^ n<=2 ^ 4:=fk (by decide) hn
 omega
theorem mE.add {n:Nat}{met:List (List Bool)}(h:mE n met){m:List Bool}(hm:m.length=n):mE n (jM met m):=by
 unfold jM
 cases hc:met.contains m with
 |true=>exact h
 |false =>
 have hn:m∉met:=by simpa using hc
 refine⟨?_,fun x hx=>?_⟩
 ·show(met++[m]).Nodup
  rw[ow]
  exact⟨h.nd,by simp,fun a ha c hc'=>by simp only[aj]at hc';subst hc';exact fun z=>hn (z▸ha)⟩
 ·rcases List.mem_append.mp (show x∈met++[m]from hx)with hx|hx
  ·exact h.len x hx
  ·simp only[aj]at hx;subst hx;exact hm
theorem ZK (b:Bk)(m set:List Bool):(b.sF m set).length=b.aK.length:=by simp [Bk.sF]
theorem NN {b:Bk}{m bB fr:List Bool}{x:List lM×List (List Bool)}(h:mE b.aK.length x.2):mE b.aK.length (cB b m bB x fr).2:=by
 unfold cB;split
 ·exact h.add (ZK b m _)
 ·exact h
theorem uY {b:Bk}{m bB:List Bool}:∀(l:List (List Bool)){x:List lM×List (List Bool)},mE b.aK.length x.2->mE b.aK.length (l.foldl (cB b m bB) x).2
 |[],_,h=>h
 |fr::l,_,h=>uY l (NN h)
section
variable {G:Prog}{k i kA ifk eV imk ino ima ilo iph inh:Nat}{st:aB}{Q:VK}{E:XK}{b:Bk}{r p l1 l2 l3:Nat}{R:List Sy}
theorem LX (hha:G.fns eV=some (mW iph inh))(hn:G.fns inh=some pH)(hpa:G.fns iph=some mF)(T:iG st r p l1 l2 l3 b R){m set:List Bool}(hm:m.length=b.aK.length)(hs:set.length=b.names.length)
  (hQ:∀ aA q,st q=none->Ext st aA->aA q=some (.lst (R.map fun s=>.bl (b.vm m set s)))->Q (.ref q) aA):aI G (k+2) eV [.ref p,bC m,bC set] st Q E:=by
 obtain⟨lp,lr,ld,lm,js,T1,hlm,hjl,hjs,hpast⟩:=T.tab.h
 refine GW hha hn hpa T1 (mem:=m) (set:=set) (b.vm m set) (fun n hn'=>?_) (fun s gR hps=>⟨(m[b.aK.idxOf s]?).getD false,?_,OI hps⟩) (fun s h1 h2=>VE h1 h2) hQ
 ·have cO:b.names.idxOf n<set.length:=by rw[hs];exact List.idxOf_lt_length_iff.mpr hn'
  simp only[Bk.vm,vm]
  rw[ah cO];rfl
 ·have cO:b.aK.idxOf s<m.length:=by rw[hm];exact List.idxOf_lt_length_iff.mpr gR
  show m[b.aK.idxOf s]? = _
  rw[ah cO];rfl
theorem Bq (hma:G.fns ima=some sQ)(T:iG st r p l1 l2 l3 b R)(fK:b.aK.length<=4){m set:List Bool}{q:Nat}(hq:st q=some (.lst (R.map fun s=>.bl (b.vm m set s))))(hQ:∀ aA,Ext st aA->Q (bC (b.sF m set)) aA):aI G (k+1) ima [.ref p,.ref q] st Q E:=by
 obtain⟨lp,lr,ld,lm,js,T1,hlm,hjl,hjs,hpast⟩:=T.tab.h
 refine LK (aK:=b.aK) hma T1.ins (lm:=lm) (by rw[fE (by decide +kernel) (by decide +kernel) (by decide +kernel) (by decide +kernel)];simp only[wK,bN];rw[if_neg (by decide +kernel),if_pos bz]) hlm hq hjl (by omega) hjs fun aA x=>?_
 have e:(b.aK.map fun s=>D.bl (b.vm m set (nS s)))=(b.sF m set).map .bl:=by simp [Bk.sF]
 rw[e]
 exact hQ aA x
theorem LB {T:List Nat}{lp lr ld lm:Nat}{names:List (List Nat)}{aK:List Sy}(h1:W "names" ≠ T)(h2:W "pieces" ≠ T)(h3:W "rows" ≠ T)(h4:W "row_of" ≠ T)(h5:W "first_memory" ≠ T)(h6:W "remembered_rows" ≠ T):bN (qO names lp lr ld++wK aK lm) T=none:=by
 rw[fE h1 h2 h3 h4];simp only[wK,bN];rw[if_neg h5,if_neg h6]
theorem Ab (h:G.fns i=some (E1 kA ifk eV))(hse:G.fns kA=some xH)(hfk:G.fns ifk=some BE)(hha:G.fns eV=some (mW iph inh))(hn:G.fns inh=some pH)(hpa:G.fns iph=some mF)(T:iG st r p l1 l2 l3 b R)(B:b.Ok){m:List Bool}(hm:m.length=b.aK.length)
  (hQ:∀ q aA,st q=none->Ext st aA->aA q=some (.lst ((mY b m).map bC))->Q (.ref q) aA):aI G (k+3) i [b.d,.ref r,bC m] st Q E:=by
 have hL:bH=16777216:=rfl
 have f2:=B.f2
 have g2:=B.g2
 have jO:b.names.length=b.fs.length+b.gs.length:=by simp [Bk.names]
 rw[bA h]
 simp only[E1,start,Bk.d]
 refine⟨rfl,?_⟩
 walk_at"st"
 refine GL (k:=k+1) hse (by simp only[ab];omega) fun u aC hu x1 hu1=>?_
 rw[ab]at hu1
 obtain⟨rr,er⟩:=HU b.gs.length
 walk_at"ex"
 rw[eO hu1,er,ay,GY,bF]
 walk_at"ex"
 walk_at"st"
 refine GL (k:=k+1) hse (by simp only[ab];omega) fun u2 aF hu2 x2 hu22=>?_
 rw[ab]at hu22
 walk_at"ex"
 rw[aE hu22]
 have T2:=T.keep (x1.trans x2)
 have lE:(dI b.fs.length).length<=16:=by rw[nK];exact fk (n:=2) (by decide) (by omega:b.fs.length<=4)
 obtain⟨lp,lr,ld,lm,js,T2',_⟩:=T2.tab.h
 refine sC bC (fun bB=>if bS b.ps (b.vm m (bB++ak b.gs.length false))=true then some (bC bB)else none) (dI b.fs.length) [] aF (fun aZ y a ha=>?_) (fun bB hf aZ K y1 hK=>?_) (by simp only[be];omega) fun aX y3=>?_
 ·simp only[aj]at ha
  subst ha
  rw[hu22,y _ _ hu22]
 ·have T3:=T2.keep y1
  have hfl:=pQ _ _ hf
  walk_at"ex"
  rw[fW T3.ins (wC (by decide +kernel) (by decide +kernel) (by decide +kernel) (by decide +kernel))]
  refine⟨True.intro,?_⟩
  rw[cL T3.ins nQ]
  rw[fW (T2'.keep y1).ins (LB (by decide +kernel) (by decide +kernel) (by decide +kernel) (by decide +kernel) (by decide +kernel) (by decide +kernel))]
  refine⟨True.intro,?_⟩
  have ea:iM .add (bC bB) (bC (ak b.gs.length false))=fun st Q=>(bB.map D.bl).length+((ak b.gs.length false).map D.bl).length<=bH/\Q (bC (bB++ak b.gs.length false)) st:=by
   funext st Q
   simp only[bC,GB,dg]
  rw[ea]
  refine⟨by simp only[ab,ll];omega,?_⟩
  refine LX hha hn hpa T3 hm (by simp [hfl,jO]) fun cN q _ y4 hq=>?_
  refine OG (k:=k+1) hfk (T3.keep y4) B hq fun dF y5=>?_
  walk_at"ex"
  have:=hK dF (y4.trans y5)
  cases hv:bS b.ps (b.vm m (bB++ak b.gs.length false))with
  |true=>simpa [hv]using this
  |false=>simpa [hv]using this
 rw[a9]
 have ef:((dI b.fs.length).filterMap fun bB=>if bS b.ps (b.vm m (bB++ak b.gs.length false))=true then some (bC bB)else none)=(mY b m).map bC:=by
  unfold mY
  generalize dI b.fs.length=l
  induction l with
  |nil=>rfl
  |cons a l ih =>
   by_cases hv:bS b.ps (b.vm m (a++ak b.gs.length false))=true
   ·simp only[f6,md,hv,if_true,ay,ih]
   ·simp only[f6,md,hv,ih];simp [hv]
 rw[ef]
 refine cG (by simp only[ab];have:=lq (fun bB=>bS b.ps (b.vm m (bB++ak b.gs.length false))) (dI b.fs.length);unfold mY;omega) fun q cN y4 hq hq4=>?_
 refine hQ q cN ?_ (((x1.trans x2).trans y3).trans y4) hq4
 cases hz:st q with
 |none=>rfl
 |some o=>rw[((x1.trans x2).trans y3) _ _ hz]at hq;cases hq
end
noncomputable def J2 (ich iri ini ifs ian:Nat):Fn:=⟨1,7,[.ex (.call ich [(.v 0)]),.asg (.nm 1) (.mk (W "Rules") iri [(.v 0)]),.asg (.nm 2) (.mk (W "Numbering") ini [(.fld (W "Table") (W "first_memory") (.fld (W "Rules") (W "table") (.v 1)))]),.asg (.nm 3) (.lst []),.whl (.cmp .lt (.bi .len [(.v 3)]) (.bi .len [(.fld (W "Numbering") (W "met") (.v 2))])) [.asg (.nm 4) (.ix (.fld (W "Numbering") (W "met") (.v 2)) (.bi .len [(.v 3)])),.asg (.nm 5) (.lst []),.mB (.nm 6) none [(.call ifs [(.v 0),(.v 1),(.v 4)])] [.ex (.cT .append (.v 5) [(.tup [(.v 6),(.call ian [(.v 0),(.v 1),(.v 2),(.v 4),(.v 6)])])])],.ex (.cT .append (.v 3) [(.tup [(.v 4),(.bi .tuple [(.v 5)])])])],.ret (.v 3)]⟩
theorem mX.keep {st aA:aB}{n l d:Nat}{met:List (List Bool)}(N:mX st n l d met)(h:Ext st aA):mX aA n l d met:=⟨h _ _ N.ins,h _ _ N.dic,h _ _ N.met⟩
theorem CZ {tS st aA:aB}{as:List Nat}(x:Ext tS st)(k:bL as st aA)(h:∀ a∈as,tS a=none):Ext tS aA:=fun a o e=>k a o (fun z=>by rw[h a z]at e;cases e) (x a o e)
theorem sA {st aA:aB}{a:Nat}(x:Ext st aA)(h:aA a=none):st a=none:=by
 cases hz:st a with
 |none=>rfl
 |some o=>rw[x _ _ hz]at h;cases h
theorem NG {st:aB}{Q:VK}(a c:List Bool):iM .add (bC a) (bC c) st Q=((a.length+c.length<=bH)/\Q (bC (a++c)) st):=by
 simp only[bC,GB,dg,ab]
section
variable {G:Prog}{k i kA ifk eV imk ino ima ilo iph inh:Nat}{st tS:aB}{Q:VK}{E:XK}{b:Bk}{r p l1 l2 l3 n l dd:Nat}{R:List Sy}
theorem Fm (h:G.fns i=some (MS kA eV imk ino ima ilo))(hse:G.fns kA=some xH)(hha:G.fns eV=some (mW iph inh))(hn:G.fns inh=some pH)(hpa:G.fns iph=some mF)(hmk:G.fns imk=some BP)(hno:G.fns ino=some BY)(hma:G.fns ima=some sQ)(hlo:G.fns ilo=some xU)
    (T0:iG tS r p l1 l2 l3 b R)(x0:Ext tS st)(hl0:tS l=none)(hd0:tS dd=none)(B:b.Ok)(fK:b.aK.length<=4){m bB:List Bool}{met:List (List Bool)}(N:mX st n l dd met)(hM:mE b.aK.length met)(hm:m.length=b.aK.length)(hf:bB.length=b.fs.length)
    (hQ:∀ aA,bL [l,dd] st aA->mX aA n l dd (iI b m bB met).2->Q (.tup ((iI b m bB met).1.map rJ)) aA):aI G (k+3) i [b.d,.ref r,.ref n,bC m,bC bB] st Q E:=by
  have hL:bH=16777216:=rfl
  have f2:=B.f2
  have g2:=B.g2
  have jO:b.names.length=b.fs.length+b.gs.length:=by simp [Bk.names]
  have hd:b.d=.tup [.tup (b.fs.map .str),.tup (b.gs.map .str),.tup (b.ps.map toD),.tup (b.ms.map toD),.tup (b.ws.map fun w=>.tup [.int w.1,toD w.2])]:=rfl
  rw[bA h]
  simp only[MS,start]
  refine⟨rfl,?_⟩
  walk_at"st"
  refine cG (by simp) fun u aC x1 hu hu1=>?_
  rw[hd]
  walk_at"st"
  refine GL (k:=k+1) hse (by simp only[ab];omega) fun s aF hs x2 hs2=>?_
  rw[ab]at hs2
  walk_at"ex"
  rw[aE hs2,<-hd]
  have lE:(dI b.gs.length).length<=16:=by rw[nK];exact fk (n:=2) (by decide) (by omega:b.gs.length<=4)
  have ul:u≠l:=fun z=>by rw[z,N.met]at hu;cases hu
  have ud:u≠dd:=fun z=>by rw[z,N.dic]at hu;cases hu
  have un:u≠n:=fun z=>by rw[z,N.ins]at hu;cases hu
  have sl:s≠l:=fun z=>by rw[z,x1 _ _ N.met]at hs;cases hs
  have sd:s≠dd:=fun z=>by rw[z,x1 _ _ N.dic]at hs;cases hs
  have su:s≠u:=fun z=>by rw[z,hu1]at hs;cases hs
  have nl:n≠l:=fun z=>by have:=N.ins;rw[z,N.met]at this;cases this
  have N2:=N.keep (x1.trans x2)
  have u0:tS u=none:=sA x0 hu
  refine lD bC (I:=fun rest σ aA=>∃ dn o6 o7 o8,dI b.gs.length=dn++rest/\σ=[some b.d,some (.ref r),some (.ref n),some (bC m),some (bC bB),some (.ref u),o6,o7,o8]/\bL [l,dd,u] aF aA/\mX aA n l dd (dn.foldl (cB b m bB) ([],met)).2/\aA u=some (.lst ((dn.foldl (cB b m bB) ([],met)).1.map rJ))/\(dn.foldl (cB b m bB) ([],met)).1.length<=dn.length) (fun rest σ aA ⟨dn,o6,o7,o8,e1,e2,k1,N',e5,e6⟩=>?_) (fun fr rest σ aA M ⟨dn,o6,o7,o8,e1,e2,k1,N',e5,e6⟩ hM'=>?_) (fun σ aA ⟨dn,o6,o7,o8,e1,e2,k1,N',e5,e6⟩=>?_) _ _ _ ⟨[],none,none,none,rfl,rfl,.refl,N2,x2 _ _ hu1,by simp⟩
  · intro a ha
    simp only[aj]at ha
    subst ha
    rw[hs2,k1 _ _ (by simp [sl,sd,su]) hs2]
  · subst e2
    have hfr:fr.length=b.gs.length:=pQ _ _ (by rw[e1];simp)
    have hdn : dn.length ≤ 16 := by have:dn.length≤(dI b.gs.length).length:=by rw[e1];simp
                                    omega
    have hMx:=uY (b:=b) (m:=m) (bB:=bB) dn (x:=([],met)) hM
    have xx:Ext tS aA:=CZ (x0.trans (x1.trans x2)) k1 (fun a ha=>by
      simp only[cy,bw,or_false]at ha
      rcases ha with ha|ha|ha
      ·rw[ha];exact hl0
      ·rw[ha];exact hd0
      ·rw[ha];exact u0)
    have T':=T0.keep xx
    obtain⟨lp,lr,ld,lm,js,TT,_⟩:=T'.tab.h
    generalize hX:dn.foldl (cB b m bB) ([],met)=X at N' e5 e6 hMx
    have hXs:(dn++[fr]).foldl (cB b m bB) ([],met)=cB b m bB X fr:=by rw[zh,hX];rfl
    walk_at"st"
    rw[cL T'.ins nQ,fW TT.ins (LB (by decide +kernel) (by decide +kernel) (by decide +kernel) (by decide +kernel) (by decide +kernel) (by decide +kernel))]
    refine⟨True.intro,?_⟩
    rw[NG]
    refine⟨by omega,?_⟩
    refine LX hha hn hpa T' hm (by simp [hf,hfr,jO]) fun aX q hq0 y3 hq=>?_
    walk_at"ex"
    have T3:=T'.keep y3
    walk_at"st"
    rw[fW T3.ins (wC (by decide +kernel) (by decide +kernel) (by decide +kernel) (by decide +kernel))]
    refine⟨True.intro,?_⟩
    refine O2 (k:=k+1) hmk T3 B hq fun cN y4=>?_
    walk_at"ex"
    have T4:=T3.keep y4
    have y34:=y3.trans y4
    cases hv:bS b.ms (b.vm m (bB++fr))with
    |false =>
      simp only[aq,if_false,aO]
      have eX:cB b m bB X fr=X:=by unfold cB;rw[hv];rfl
      refine hM' _ cN ⟨dn++[fr],_,_,_,by simp [e1],rfl,k1.trans y34.keep,by rw[hXs,eX];exact N'.keep y34,by rw[hXs,eX];exact y34 _ _ e5,by rw[hXs,eX];simp;omega⟩
    |true =>
      simp only[if_true]
      have eX:cB b m bB X fr=(X.1++[(fr,fU b.ws (b.vm m (bB++fr)),(jM X.2 (b.sF m (bB++fr))).idxOf (b.sF m (bB++fr)))],jM X.2 (b.sF m (bB++fr))):=by unfold cB;rw[hv];rfl
      have N4:=N'.keep y34
      walk_at"st"
      rw[fW N4.ins (Eu (by decide +kernel) (by decide +kernel))]
      refine⟨True.intro,?_⟩
      rw[cL T4.ins nQ,fW (TT.keep y34).ins (LB (by decide +kernel) (by decide +kernel) (by decide +kernel) (by decide +kernel) (by decide +kernel) (by decide +kernel))]
      refine⟨True.intro,?_⟩
      refine Bq (k:=k+1) hma T4 fK (y4 _ _ hq) fun dF y5=>?_
      have N5:=N4.keep y5
      have hX2:=hMx.O4 fK
      refine Bt (k:=k+1) hno N5 (by omega) fun gS k6 N6=>?_
      walk_at"ex"
      have x6:Ext tS gS:=CZ (xx.trans (y34.trans y5)) k6 (fun a ha=>by
        simp only[cy,bw,or_false]at ha
        rcases ha with ha|ha
        ·rw[ha];exact hl0
        ·rw[ha];exact hd0)
      have T6:=T0.keep x6
      have u6:gS u=some (.lst (X.1.map rJ)):=k6 u _ (by simp [ul,ud]) (y5 _ _ (y34 _ _ e5))
      have ql:q≠l:=fun z=>by rw[z,N'.met]at hq0;cases hq0
      have qd:q≠dd:=fun z=>by rw[z,N'.dic]at hq0;cases hq0
      have q6:gS q=some (.lst (R.map fun s=>.bl (b.vm m (bB++fr) s))):=k6 q _ (by simp [ql,qd]) (y5 _ _ (y4 _ _ hq))
      walk_at"st"
      rw[aE u6]
      refine⟨True.intro,?_⟩
      rw[fW T6.ins (wC (by decide +kernel) (by decide +kernel) (by decide +kernel) (by decide +kernel))]
      refine⟨True.intro,?_⟩
      refine O6 (k:=k+1) hlo T6 B q6 fun lF y7=>?_
      walk_at"ex"
      rw[aE (y7 _ _ u6)]
      refine⟨by simp only[ab];omega,?_⟩
      simp only[aO]
      refine hM' _ _ ⟨dn++[fr],_,_,_,by simp [e1],rfl,?_,?_,?_,?_⟩
      · intro a o na e
        simp only[cy,bw,or_false,not_or]at na
        rw[aM na.2.2]
        exact y7 _ _ (k6 a o (by simp [na]) (y5 _ _ (y34 _ _ (k1 a o (by simp [na]) e))))
      · rw[hXs,eX]
        exact⟨by rw[aM (ey un)];exact y7 _ _ N6.ins,by rw[aM (ey ud)];exact y7 _ _ N6.dic,by rw[aM (ey ul)];exact y7 _ _ N6.met⟩
      ·rw[aQ,hXs,eX];simp [rJ]
      ·rw[hXs,eX];simp;omega
  · subst e2
    rw[eh]at e1
    have eA:iI b m bB met=dn.foldl (cB b m bB) ([],met):=by unfold iI;rw[e1]
    walk_at"st"
    rw[aE e5]
    have hdn:dn.length<=16:=by rw[<-e1];exact lE
    refine⟨by simp only[ab];omega,?_⟩
    rw[<-eA]
    refine hQ aA (fun a o na e=>?_) (by rw[eA];exact N')
    have au:a≠u:=fun z=>by rw[z,hu]at e;cases e
    simp only[cy,bw,or_false,not_or]at na
    exact k1 a o (by simp [na,au]) (x2 _ _ (x1 _ _ e))
noncomputable abbrev Node:=List Bool×List (List Bool×List lM)
noncomputable def lN (x:List Bool×List lM):D:=.tup [bC x.1,.tup (x.2.map rJ)]
noncomputable def oG (x:Node):D:=.tup [bC x.1,.tup (x.2.map lN)]
noncomputable def cM (b:Bk)(m:List Bool)(x:List (List Bool×List lM)×List (List Bool))(bB:List Bool):List (List Bool×List lM)×List (List Bool) :=
 (x.1++[(bB,(iI b m bB x.2).1)],(iI b m bB x.2).2)
noncomputable def jV (b:Bk)(m:List Bool)(met:List (List Bool)):List (List Bool×List lM)×List (List Bool):=(mY b m).foldl (cM b m) ([],met)
noncomputable abbrev GS:=List (List Bool)×List Node
noncomputable def pT (b:Bk)(x:GS):GS:=if x.2.length<x.1.length then((jV b ((x.1[x.2.length]?).getD []) x.1).2,x.2++[((x.1[x.2.length]?).getD [],(jV b ((x.1[x.2.length]?).getD []) x.1).1)])else x
noncomputable def aW (b:Bk):Nat->GS
 |0=>([b.aK.map dU],[])
 |j+1=>pT b (aW b j)
noncomputable def oK (b:Bk):List Node:=(aW b 17).2
theorem JP (met:List (List Bool))(m:List Bool):met.length<=(jM met m).length:=by unfold jM;split<;>simp
theorem C5 {b:Bk}{m bB:List Bool}:∀(l:List (List Bool))(x:List lM×List (List Bool)),x.2.length<=(l.foldl (cB b m bB) x).2.length
 |[],_=>az _
 |fr::l,x=>by
  refine c7 ?_ (C5 l (cB b m bB x fr))
  unfold cB;split
  ·exact JP _ _
  ·exact az _
theorem NB {b:Bk}{m:List Bool}:∀(l:List (List Bool))(x:List (List Bool×List lM)×List (List Bool)),x.2.length<=(l.foldl (cM b m) x).2.length
 |[],_=>az _
 |fr::l,x=>c7 (C5 _ ([],x.2)) (NB l (cM b m x fr))
theorem D5 {b:Bk}{m:List Bool}(met:List (List Bool)):met.length<=(jV b m met).2.length:=NB _ ([],met)
theorem HJ {b:Bk}{m bB:List Bool}(h:bB∈mY b m):bB.length=b.fs.length:=pQ _ _ (List.mem_filter.mp h).1
theorem AU {b:Bk}{m:List Bool}:∀(l:List (List Bool)){x:List (List Bool×List lM)×List (List Bool)},mE b.aK.length x.2->mE b.aK.length (l.foldl (cM b m) x).2
 |[],_,h=>h
 |bB::l,_,h=>AU l (by simp only[cM];exact uY _ h)
theorem uR (b:Bk):∀ j,mE b.aK.length (aW b j).1
 |0=>⟨by simp [aW],by simp [aW]⟩
 |j+1=>by
  have h:=uR b j
  simp only[aW,pT]
  split
  ·exact AU _ h
  ·exact h
set_option tactic.hygienic true in
theorem qR (b:Bk)(fK:b.aK.length<=4):∀ j,(aW b j).2.length<=(aW b j).1.length
 |0=>by simp [aW]
 |j+1=>by
  have h:=qR b fK j
  simp only[aW,pT]
  split
  ·rename_i hl
   have:(aW b j).1.length<=(jV b (((aW b j).1[(aW b j).2.length]?).getD []) (aW b j).1).2.length:=D5 _
   simp only[bp,bf,be];omega
  ·exact h
end
theorem uW (b:Bk)(fK:b.aK.length<=4):∀ j,(aW b j).2.length=j∨((aW b j).2.length=(aW b j).1.length)
 |0=>.inl rfl
 |j+1=>by
  rcases uW b fK j with h|h
  ·simp only[aW,pT]
   by_cases q:(aW b j).2.length<(aW b j).1.length
   ·rw[if_pos q];left;simp only[bp,bf,be];omega
   ·rw[if_neg q];right;have:=qR b fK j;omega
  ·simp only[aW,pT]
   rw[if_neg (by omega)];exact .inr h
theorem E8 (b:Bk){j:Nat}(h:¬(aW b j).2.length<(aW b j).1.length):∀ n,aW b (j+n)=aW b j
 |0=>rfl
 |n+1=>by
  show pT b (aW b (j+n))=_
  rw[E8 b h n]
  unfold pT
  rw[if_neg h]
section
variable {G:Prog}{k i ich icp iri ini ifs ian ibk iti io iz ie irr iw ipo kA ifk eV imk ino ima ilo iph inh:Nat}{st:aB}{Q:VK}{E:XK}{b:Bk}
theorem Br (h:G.fns i=some (J2 ich iri ini ifs ian))(hch:G.fns ich=some (kI ibk))(hb:xX G ibk 13 b)(hri:G.fns iri=some (oS iti io))(ht:G.fns iti=some (jJ iz ie irr))(hz:G.fns iz=some (gM iw))(he:G.fns ie=some (lT ie iw ipo))(hw:G.fns iw=some fQ)(hpo:G.fns ipo=some kY)(hrr:G.fns irr=some sP)(hio:G.fns io=some mM)
  (hni:G.fns ini=some EN)(hfs:G.fns ifs=some (E1 kA ifk eV))(han:G.fns ian=some (MS kA eV imk ino ima ilo))(hse:G.fns kA=some xH)(hfk:G.fns ifk=some BE)(hha:G.fns eV=some (mW iph inh))(hn:G.fns inh=some pH)(hpa:G.fns iph=some mF)(hmk:G.fns imk=some BP)(hno:G.fns ino=some BY)(hma:G.fns ima=some sQ)(hlo:G.fns ilo=some xU)
  (B:b.Ok)(hs:fN b.says<=5000)(fK:b.aK.length<=4)(hQ:∀ p aA,st p=none->Ext st aA->aA p=some (.lst ((oK b).map oG))->Q (.ref p) aA):aI G (k+15) i [b.d] st Q E:=by
 have hL:bH=16777216:=rfl
 have f2:=B.f2
 rw[bA h]
 simp only[J2,start]
 refine⟨rfl,?_⟩
 walk_at"st"
 refine yI (k:=k) hch hb fun aC x1=>?_
 walk_at"st"
 intro r hr
 refine DF (k:=k+1) hri ht hz he hw hpo hrr hio B hs (by show b.aK.length<=5000;omega) aQ fun aF p l1 l2 l3 R k2 T2=>⟨rfl,?_⟩
 have x2:Ext aC aF:=fun a o e=>k2 a o (by intro z;simp only[aj]at z;rw[z,hr]at e;cases e) (pP hr e)
 walk_at"ex"
 walk_at"st"
 rw[cL T2.ins nQ]
 obtain⟨lp,lr,ld,lm,js,TT,_⟩:=T2.tab.h
 rw[cL TT.ins (x:=.tup (b.aK.map fun s=>.bl (dU s))) (by rw[fE (by decide +kernel) (by decide +kernel) (by decide +kernel) (by decide +kernel)];simp only[wK,bN];rw[if_pos bz];rfl)]
 intro n hn0
 have ei:D.tup (b.aK.map fun s=>.bl (dU s))=bC (b.aK.map dU):=by simp [bC]
 rw[ei]
 refine ZJ (k:=k+13) hni aQ fun aX l dd hl3 hd3 k3 N3=>⟨rfl,?_⟩
 have x3:Ext aF aX:=fun a o e=>k3 a o (by intro z;simp only[aj]at z;rw[z,hn0]at e;cases e) (pP hn0 e)
 have hl2:aF l=none:=by
  have hnl:l≠n:=fun z=>by rw[z,aQ]at hl3;cases hl3
  rwa [aM hnl]at hl3
 have hd2:aF dd=none:=by
  have hnl:dd≠n:=fun z=>by rw[z,aQ]at hd3;cases hd3
  rwa [aM hnl]at hd3
 walk_at"ex"
 walk_at"st"
 refine cG (by simp) fun nd cN x4 hnd nd4=>?_
 walk_at"ex"
 have x24:=x3.trans x4
 have ndl:nd≠l:=fun z=>by rw[z,N3.met]at hnd;cases hnd
 have ndd:nd≠dd:=fun z=>by rw[z,N3.dic]at hnd;cases hnd
 have ndn:nd≠n:=fun z=>by rw[z,N3.ins]at hnd;cases hnd
 have nd2:aF nd=none:=sA x3 hnd
 refine gL ?_
 refine EC (kC G (az _)) (I:=fun mm σ aA=>∃ j o4 o5 o6,mm+(aW b j).2.length=17/\j<=17/\(aW b j).2.length=j/\σ=[some b.d,some (.ref r),some (.ref n),some (.ref nd),o4,o5,o6]/\Ext aF aA/\mX aA n l dd (aW b j).1/\aA nd=some (.lst ((aW b j).2.map oG))) ?_ (m:=17) ⟨0,none,none,none,rfl,by omega,rfl,rfl,x24,N3.keep x4,nd4⟩
 rintro mm σ aA ⟨j,o4,o5,o6,e0,e0',ej,e2,x5,N5,nd5⟩
 subst e2
 have YC:=uR b j
 have vG:=YC.O4 fK
 have hlen:=qR b fK j
 walk_at"ex"
 rw[fF nd5,cL N5.ins BN,GA,fF N5.met]
 walk_at"ex"
 by_cases cO:(aW b j).2.length<(aW b j).1.length
 ·have hc:(((aW b j).2.map oG).length:Int)<((aW b j).1.map bC).length:=by simp only[ab];omega
  rw[if_pos (by simpa using hc)]
  have hjm:j<(aW b j).1.length:=by omega
  generalize hm:(aW b j).1[j]=m
  have hmg:(aW b j).1[j]? = some m:=by rw[ah hjm,hm]
  have hml:m.length=b.aK.length:=YC.len m (bg hmg)
  walk_at"st"
  rw[cL N5.ins BN,fF nd5,eO N5.met,ab,ej,eJ (by simpa using hjm),bc,hmg,j4,bF]
  walk_at"ex"
  walk_at"st"
  refine cG (by simp) fun mv gS x6 hmv mv6=>?_
  walk_at"ex"
  have T6:=T2.keep (x5.trans x6)
  walk_at"st"
  refine Ab (k:=k+11) hfs hse hfk hha hn hpa T6 B hml fun fl lF hfl x7 hfl7=>?_
  walk_at"ex"
  rw[aE hfl7]
  have N7:=N5.keep (x6.trans x7)
  have nd7:=x7 _ _ (x6 _ _ nd5)
  have mv7:=x7 _ _ mv6
  have mvl:mv≠l:=fun z=>by rw[z,N5.met]at hmv;cases hmv
  have mvd:mv≠dd:=fun z=>by rw[z,N5.dic]at hmv;cases hmv
  have mvn:mv≠n:=fun z=>by rw[z,N5.ins]at hmv;cases hmv
  have mvnd:mv≠nd:=fun z=>by rw[z,nd5]at hmv;cases hmv
  have flmv:fl≠mv:=fun z=>by rw[z,mv6]at hfl;cases hfl
  have fll:fl≠l:=fun z=>by rw[z,x6 _ _ N5.met]at hfl;cases hfl
  have fld:fl≠dd:=fun z=>by rw[z,x6 _ _ N5.dic]at hfl;cases hfl
  have mv2:aF mv=none:=sA x5 hmv
  have hfsz:(mY b m).length<=16:=by
   have h1:=lq (fun bB=>bS b.ps (b.vm m (bB++ak b.gs.length false))) (dI b.fs.length)
   have h2:(dI b.fs.length).length<=16:=by rw[nK];exact fk (n:=2) (by decide) (by omega:b.fs.length<=4)
   unfold mY;omega
  refine lD bC (I:=fun rest σ eI=>∃ dn o6,mY b m=dn++rest/\σ=[some b.d,some (.ref r),some (.ref n),some (.ref nd),some (bC m),some (.ref mv),o6]/\bL [l,dd,mv] lF eI/\mX eI n l dd (dn.foldl (cM b m) ([],(aW b j).1)).2/\eI mv=some (.lst ((dn.foldl (cM b m) ([],(aW b j).1)).1.map lN))/\(dn.foldl (cM b m) ([],(aW b j).1)).1.length=dn.length) (fun rest σ eI hI=>?_) (fun bB rest σ eI M hI hM'=>?_) (fun σ eI hI=>?_) _ _ _ ⟨[],o6,rfl,rfl,.refl,N7,mv7,rfl⟩
  ·obtain⟨dn,o6,g1,g2,g3,g4,g5,g6⟩:=hI
   intro a ha
   simp only[aj]at ha
   subst ha
   rw[hfl7,g3 _ _ (by simp [fll,fld,flmv]) hfl7]
  ·obtain⟨dn,o6,g1,g2,g3,g4,g5,g6⟩:=hI
   subst g2
   have hfo:bB.length=b.fs.length:=HJ (m:=m) (by rw[g1];simp)
   have hdn:dn.length<=16:=by rw[g1]at hfsz;simp at hfsz;omega
   have x8:Ext aF eI:=CZ (x5.trans (x6.trans x7)) g3 (fun a ha=>by
    simp only[cy,bw,or_false]at ha
    rcases ha with ha|ha|ha
    ·rw[ha];exact hl2
    ·rw[ha];exact hd2
    ·rw[ha];exact mv2)
   have hMx:=AU (b:=b) (m:=m) dn (x:=([],(aW b j).1)) YC
   generalize hX:dn.foldl (cM b m) ([],(aW b j).1)=X at g4 g5 g6 hMx
   have hXs:(dn++[bB]).foldl (cM b m) ([],(aW b j).1)=cM b m X bB:=by rw[zh,hX];rfl
   walk_at"st"
   rw[aE g5]
   refine⟨True.intro,?_⟩
   refine Fm (k:=k+11) han hse hha hn hpa hmk hno hma hlo T2 x8 hl2 hd2 B fK g4 hMx hml hfo fun tR k9 N9=>?_
   have mv9:=k9 mv _ (by simp [mvl,mvd]) g5
   walk_at"ex"
   rw[aE mv9]
   refine⟨by simp only[ab];omega,?_⟩
   simp only[aO]
   refine hM' _ _ ⟨dn++[bB],_,by simp [g1],rfl,?_,?_,?_,?_⟩
   ·intro a o na e
    simp only[cy,bw,or_false,not_or]at na
    rw[aM na.2.2]
    exact k9 a o (by simp [na]) (g3 a o (by simp [na]) e)
   ·rw[hXs]
    exact⟨by rw[aM (ey mvn)];exact N9.ins,by rw[aM (ey mvd)];exact N9.dic,by rw[aM (ey mvl)];exact N9.met⟩
   ·rw[aQ,hXs];simp [cM,lN]
   ·rw[hXs];simp [cM,g6]
  ·obtain⟨dn,o6,g1,g2,g3,g4,g5,g6⟩:=hI
   subst g2
   rw[eh]at g1
   have eM:jV b m (aW b j).1=dn.foldl (cM b m) ([],(aW b j).1):=by unfold jV;rw[g1]
   have hdn:dn.length<=16:=by rw[<-g1];exact hfsz
   have eG:aW b (j+1)=((jV b m (aW b j).1).2,(aW b j).2++[(m,(jV b m (aW b j).1).1)]):=by
    simp only[aW,pT]
    rw[if_pos cO,ej,hmg];rfl
   have nd8:eI nd=some (.lst ((aW b j).2.map oG)):=g3 nd _ (by simp [ndl,ndd,ey mvnd]) nd7
   walk_at"st"
   rw[aE nd8]
   refine⟨True.intro,?_⟩
   rw[aE g5]
   refine⟨by simp only[ab];omega,?_⟩
   rw[aE nd8]
   refine⟨by simp only[ab];omega,?_⟩
   simp only[aO]
   refine⟨mm-1,by omega,j+1,_,_,_,by rw[eG];simp;omega,by omega,by rw[eG];simp [ej],rfl,?_,?_,?_⟩
   ·intro a o e
    have and':a≠nd:=fun z=>by rw[z,nd2]at e;cases e
    have al:a≠l:=fun z=>by rw[z,hl2]at e;cases e
    have ad:a≠dd:=fun z=>by rw[z,hd2]at e;cases e
    have am:a≠mv:=fun z=>by rw[z,mv2]at e;cases e
    rw[aM and']
    exact g3 a o (by simp [al,ad,am]) (x7 _ _ (x6 _ _ (x5 _ _ e)))
   ·rw[eG,eM]
    exact⟨by rw[aM (ey ndn)];exact g4.ins,by rw[aM (ey ndd)];exact g4.dic,by rw[aM (ey ndl)];exact g4.met⟩
   ·rw[aQ,eG,eM];simp [oG]
 ·have hc:¬(((aW b j).2.map oG).length:Int)<((aW b j).1.map bC).length:=by simp only[ab];omega
  rw[if_neg (by simpa using hc)]
  walk_at"st"
  have hfin:oK b=(aW b j).2:=by
   unfold oK
   have:=E8 b cO (17-j)
   rw[show j+(17-j)=17 by omega]at this
   rw[this]
  refine hQ nd aA ?_ ((x1.trans x2).trans x5) (by rw[hfin];exact nd5)
  exact sA (x1.trans x2) nd2
end
section
variable {names:List (List Nat)}{pl:List (List Bool)}{x:List Bool}
theorem II {f g f' g':Nat->Bool}:∀ t,(∀ k,k<=t->f k=f' k/\g k=g' k)->rY f g t=rY f' g' t
 |0,h=>(h 0 (az _)).2
 |t+1,h=>by
  simp only[rY]
  rw[(h (t+1) (az _)).1,(h (t+1) (az _)).2,II t fun k hk=>h k (by omega)]
theorem Ao {f g:Nat->Bool}(n:Nat)(h:∀ k,k<n->f k=g k):(bb n).any f=(bb n).any g:=by
 induction n with
 |zero=>rfl
 |succ n ih=>rw[FR,FR,ih fun k hk=>h k (by omega),h n (by omega)]
theorem ZQ {f g:Nat->Bool}(n:Nat)(h:∀ k,k<n->f k=g k):(bb n).all f=(bb n).all g:=by
 induction n with
 |zero=>rfl
 |succ n ih=>rw[GU,GU,ih fun k hk=>h k (by omega),h n (by omega)]
theorem gN:∀(s:Sy)(t:Nat),t<pl.length->hv names (pl++[x]) s t=hv names pl s t
 |.yes,_,_=>rfl
 |.no,_,_=>rfl
 |.cQ n,t,h=>by simp only[hv,EY];rw[bq h]
 |.one .not s,t,h=>by simp only[hv];rw[gN s t h]
 |.one .before s,t,h=>by simp only[hv];rw[gN s (t-1) (by omega)]
 |.one .once s,t,h=>by simp only[hv];exact Ao _ fun k hk=>gN s k (by omega)
 |.one .sofar s,t,h=>by simp only[hv];exact ZQ _ fun k hk=>gN s k (by omega)
 |.two .and s u,t,h=>by simp only[hv];rw[gN s t h,gN u t h]
 |.two .or s u,t,h=>by simp only[hv];rw[gN s t h,gN u t h]
 |.two .bD s u,t,h=>by simp only[hv];rw[gN s t h,gN u t h]
 |.two .same s u,t,h=>by simp only[hv];rw[gN s t h,gN u t h]
 |.two .since s u,t,h=>by simp only[hv];exact II t fun k hk=>⟨gN s k (by omega),gN u k (by omega)⟩
theorem Ay (s:Sy):eZ names (pl++[x]) pl.length s=eZ names pl pl.length s:=by
 unfold eZ
 split
 ·rfl
 ·exact gN _ _ (by omega)
theorem Kg {aK:List Sy}{m:List Bool}(hm:m=aK.map (eZ names pl pl.length)):∀ s:Sy,lV aK s->vm names aK m x s=hv names (pl++[x]) s pl.length:=by
 have step:∀ s:Sy,(bR s=true->s∈aK)->(∀ t∈subs s,vm names aK m x t=hv names (pl++[x]) t pl.length)->vm names aK m x s=hv names (pl++[x]) s pl.length:=fun s hp hs=>by
  have hsub:(subs s).map (vm names aK m x)=(subs s).map fun u=>hv names (pl++[x]) u pl.length:=mn hs
  cases h:bR s with
  |true =>
   rw[OI h,GP h,hsub,Ay]
   have cO:=List.idxOf_lt_length_iff.mpr (hp h)
   have:(m[aK.idxOf s]?).getD false=eZ names pl pl.length s:=by
    rw[hm,bc,ah cO];simp
   rw[this]
  |false =>
   cases hl:fY s with
   |false=>rw[VE h hl,LF h hl,hsub]
   |true =>
    cases s with
    |cQ n=>simp [vm,hv,EY]
    |_=>cases hl
 intro s
 induction s with
 |yes=>intro _;rfl
 |no=>intro _;rfl
 |cQ n=>intro _;exact step _ (fun z=>by cases z) (fun t ht=>by cases ht)
 |one w a ih=>intro h;exact step _ h.1 fun t ht=>by simp only[subs,aj]at ht;subst ht;exact ih h.2
 |two w a b eV ihb =>
  intro h
  refine step _ h.1 fun t ht=>?_
  simp only[subs,cy,bw,or_false]at ht
  rcases ht with rfl|rfl
  ·exact eV h.2.1
  ·exact ihb h.2.2
end
theorem KQ {P f:List Sy}{s:Sy}(hf:∀ x∈f,lV P x)(hs:lV P s):∀ x∈eY f s,lV P x:=by
 unfold eY;split
 ·intro x hx
  rcases List.mem_append.mp hx with hx|hx
  ·exact hf x hx
  ·simp only[aj]at hx;subst hx;exact hs
 ·exact hf
theorem BU {P:List Sy}:∀(s:Sy){f:List Sy},(∀ x∈f,lV P x)->lV P s->∀ x∈aK s f,lV P x
 |.yes,_,hf,_=>hf
 |.no,_,hf,_=>hf
 |.cQ _,_,hf,_=>hf
 |.one w s,_,hf,hs=>BU s (KQ hf hs) hs.2
 |.two w s t,_,hf,hs=>BU t (BU s (KQ hf hs) hs.2.1) hs.2.2
theorem LN {P:List Sy}:∀(l:List Sy){f:List Sy},(∀ x∈f,lV P x)->(∀ s∈l,lV P s)->∀ x∈cF l f,lV P x
 |[],_,hf,_=>hf
 |s::l,_,hf,hl=>LN l (BU s hf (hl s (by simp))) fun x hx=>hl x (by simp [hx])
theorem By {P:List Sy}{s:Sy}(h:lV P s):lV P (nS s):=by
 cases s with
 |one w a =>
  cases w with
  |before=>exact h.2
  |_=>exact h
 |_=>exact h
noncomputable def Bk.mem (b:Bk)(pl:List (List Bool)):List Bool:=b.aK.map (eZ b.names pl pl.length)
theorem DJ (b:Bk):∀ s∈b.says,lV b.aK s:=fun s hs=>G2 b.says [] s hs
theorem Ba (b:Bk):∀ s∈b.aK,lV b.aK s:=LN b.says (by simp) (DJ b)
theorem KZ (b:Bk)(pl:List (List Bool))(x:List Bool){s:Sy}(h:lV b.aK s):b.vm (b.mem pl) x s=hv b.names (pl++[x]) s pl.length:=Kg rfl s h
theorem Z0 (b:Bk)(pl:List (List Bool))(x:List Bool):b.sF (b.mem pl) x=b.mem (pl++[x]):=by
 unfold Bk.sF Bk.mem
 refine mn fun s hs=>?_
 have h:=KZ b pl x (By (Ba b s hs))
 show b.vm (b.mem pl) x (nS s)=_
 rw[h]
 simp [eZ]
section
variable {G:Prog}{k i ih ise ik ilo:Nat}{st:aB}{Q:VK}{E:XK}{b:Bk}{l:Nat}{pl:List (List Bool)}
theorem UY (b:Bk){ss:List Sy}(hss:∀ s∈ss,s∈b.says)(pl:List (List Bool))(x:List Bool):(ss.all fun s=>hv b.names (pl++[x]) s ((pl++[x]).length-1))=bS ss (b.vm (b.mem pl) x):=by
 unfold bS
 have e:(pl++[x]).length-1=pl.length:=by simp
 rw[e]
 induction ss with
 |nil=>rfl
 |cons a l ih =>
 simp only[mq]
 rw[ih fun s hs=>hss s (by simp [hs]),KZ b pl x (DJ b a (hss a (by simp)))]
theorem Bl (b:Bk)(pl:List (List Bool))(x:List Bool):fU b.ws (fun s=>hv b.names (pl++[x]) s ((pl++[x]).length-1))=fU b.ws (b.vm (b.mem pl) x):=by
 unfold fU
 have e:(pl++[x]).length-1=pl.length:=by simp
 rw[e]
 congr 2
 refine List.filter_congr fun w hw=>?_
 rw[KZ b pl x (DJ b w.2 (by simp only[Bk.says,ng,qw];exact .inr ⟨w,hw,rfl⟩))]
end
theorem qA {α:Type}(f:α->D){n:Nat}(h:∀ x,bK (f x)=true/\cS (f x)<=n):∀ l:List α,bY (l.map f)=true/\cW (l.map f)<=n
 |[]=>⟨rfl,dm _⟩
 |a::l=>by
  have h1:=h a
  have h2:=qA f h l
  simp only[ay,bY,h1.1,h2.1,eu,cW,true_and]
  omega
theorem LU (a:lM):bK (rJ a)=true/\cS (rJ a)<=2:=by
 have h:=BK a.1
 simp only[rJ,bK,bY,pG,eu,cS,cW,true_and];omega
theorem VC (x:List Bool×List lM):bK (lN x)=true/\cS (lN x)<=4:=by
 have h:=BK x.1
 have h2:=qA rJ LU x.2
 simp only[lN,bK,bY,pG,h2.1,eu,cS,cW,true_and];omega
noncomputable abbrev Rk:=List (Option Nat)
noncomputable abbrev Mv:=List Bool×List lM
def CT (n:Nat)(m:Mv):Prop:=m.2.length<=1000/\∀ a∈m.2,a.2.2<n
structure Fh (gm:List Node):Prop where
 O4:gm.length<=1000
 mv:∀ n∈gm,n.2.length<=1000
 an:∀ n∈gm,∀ m∈n.2,CT gm.length m
noncomputable def kS (gm:List Node)(k:Nat):Node:=(gm[k]?).getD ([],[])
theorem GV {gm:List Node}{k:Nat}(h:k<gm.length):gm[k]? = some (kS gm k):=by simp [kS,h]
theorem yA {gm:List Node}{k:Nat}(h:k<gm.length):kS gm k∈gm:=bg (GV h)
theorem Y9 {st:aB}{p:Nat}{gm:List Node}{Q:VK}(hp:st p=some (.lst (gm.map oG))){j:Nat}(hj:j<gm.length):nU (.ref p) (.int (j:Nat)) st Q=Q (oG (kS gm j)) st:=by
 rw[eO hp,eJ (by simpa using hj),bc,GV hj];rfl
theorem uL {st:aB}{p n:Nat}{ds:List D}(h:st p=some (.lst ds))(hp:bY ds=true/\cW ds<=n)(hn:n<=jY):plainS st (.ref p):=by
 refine⟨?_,dm _⟩
 simp only[hJ,h,YI,hp.1,ke,decide_eq_true_eq]
 exact c7 hp.2 hn
theorem eq_empty {st:aB}{p u:Nat}{ds:List D}(h:st p=some (.lst ds))(hu:st u=some (.lst [])):bV st (.ref p) (.ref u)=ds.isEmpty:=by
 simp only[bV,h,hu,DT]
 cases ds<;>rfl
theorem CT.more {n n':Nat}{m:Mv}(h:CT n m)(hn:n<=n'):CT n' m:=⟨h.1,fun a ha=>br (h.2 a ha) hn⟩
theorem SN {b:Bk}{m bB:List Bool}:∀(l:List (List Bool))(x:List lM×List (List Bool)),(∀ a∈x.1,a.2.2<x.2.length)->∀ a∈(l.foldl (cB b m bB) x).1,a.2.2<(l.foldl (cB b m bB) x).2.length
 |[],_,h=>h
 |fr::l,x,h=>by
  refine SN l (cB b m bB x fr) ?_
  unfold cB
  split
  ·intro a ha
   rcases List.mem_append.mp ha with ha|ha
   ·exact br (h a ha) (JP _ _)
   ·simp only[aj]at ha
    subst ha
    exact jm (xO _ _)
  ·exact h
theorem OQ {b:Bk}{m bB:List Bool}:∀(l:List (List Bool))(x:List lM×List (List Bool)),(l.foldl (cB b m bB) x).1.length<=x.1.length+l.length
 |[],_=>az _
 |fr::l,x=>by
  have ih:=OQ (b:=b) (m:=m) (bB:=bB) l (cB b m bB x fr)
  have h1:(cB b m bB x fr).1.length<=x.1.length+1:=by
   unfold cB;split
   ·simp
   ·exact we _
  simp only[lb,bf];omega
theorem PD {b:Bk}{m:List Bool}:∀(l:List (List Bool))(x:List Mv×List (List Bool)),(l.foldl (cM b m) x).1.length<=x.1.length+l.length
 |[],_=>az _
 |fr::l,x=>by
  have ih:=PD (b:=b) (m:=m) l (cM b m x fr)
  have h1:(cM b m x fr).1.length=x.1.length+1:=by simp [cM]
  simp only[lb,bf];omega
theorem S1 {b:Bk}(g2:b.gs.length<=2){m:List Bool}:∀(l:List (List Bool))(x:List Mv×List (List Bool)),(∀ v∈x.1,CT x.2.length v)->∀ v∈(l.foldl (cM b m) x).1,CT (l.foldl (cM b m) x).2.length v
 |[],_,h=>h
 |bB::l,x,h=>by
  refine S1 g2 l (cM b m x bB) fun v hv=>?_
  simp only[cM]at hv ⊢
  rcases List.mem_append.mp hv with hv|hv
  ·exact(h v hv).more (C5 _ ([],x.2))
  ·simp only[aj]at hv
   subst hv
   refine⟨?_,SN _ _ (by simp)⟩
   have h1:=OQ (b:=b) (m:=m) (bB:=bB) (dI b.gs.length) ([],x.2)
   have h2:=G4 (t:=b.gs.length) (by omega)
   simp only[be]at h1
   show(iI b m bB x.2).1.length<=1000
   unfold iI;omega
theorem IJ {b:Bk}(B:b.Ok):∀ j,∀ n∈(aW b j).2,n.2.length<=1000/\∀ v∈n.2,CT (aW b j).1.length v
 |0=>by intro n hn;cases hn
 |j+1=>by
  have ih:=IJ B j
  simp only[aW,pT]
  split
  ·intro n hn
   rcases List.mem_append.mp hn with hn|hn
   ·exact⟨(ih n hn).1,fun v hv=>((ih n hn).2 v hv).more (D5 _)⟩
   ·simp only[aj]at hn
    subst hn
    refine⟨?_,S1 B.g2 _ _ (by simp)⟩
    generalize ((aW b j).1[(aW b j).2.length]?).getD []=m
    have h1:=PD (b:=b) (m:=m) (mY b m) ([],(aW b j).1)
    have h2:=lq (fun bB=>bS b.ps (b.vm m (bB++ak b.gs.length false))) (dI b.fs.length)
    have h3:=G4 (t:=b.fs.length) (by have:=B.f2;omega)
    simp only[be]at h1
    show(jV b m (aW b j).1).1.length<=1000
    unfold jV
    have h4:(mY b m).length<=(dI b.fs.length).length:=h2
    omega
  ·exact ih
theorem Cm {b:Bk}(B:b.Ok)(fK:b.aK.length<=4):Fh (oK b):=by
 have h1:=(uR b 17).O4 fK
 have h2:=qR b fK 17
 have h3:=uW b fK 17
 have h4:=IJ B 17
 have e:(aW b 17).2.length=(aW b 17).1.length:=by omega
 refine⟨by unfold oK;omega,fun n hn=>(h4 n hn).1,fun n hn v hv=>?_⟩
 have:=(h4 n hn).2 v hv
 rw[<-e]at this
 exact this
noncomputable def BB (eV ima:Nat):Fn:=⟨3,7,[.asg (.nm 3) (.lst []),.asg (.nm 4) (.fld (W "Table") (W "first_memory") (.v 0)),.mB (.nm 5) none [(.v 1)] [.asg (.nm 6) (.mcl (W "Table") (W "held_at") eV (.v 0) [(.v 4),(.v 5)]),.ex (.cT .append (.v 3) [(.cv 2 [(.v 6)])]),.asg (.nm 4) (.mcl (W "Table") (W "memory_after") ima (.v 0) [(.v 6)])],.ret (.v 3)]⟩
theorem VR {st aA:aB}{a:Nat}(x:Ext st aA):Ext (del st a) (del aA a):=fun b o e=>by
 by_cases z:b=a
 ·rw[z]at e;unfold del at e;rw[if_pos rfl]at e;cases e
 ·rw[vJ z]at e ⊢;exact x _ _ e
theorem Cw {st aA:aB}{a:Nat}{o:MO}(h:st a=some o)(x:Ext (del st a) aA):Ext st (put aA a o):=fun b o' e=>by
 by_cases z:b=a
 ·subst z;rw[h]at e;cases e;exact aQ
 ·rw[aM z];exact x _ _ (by rw[vJ z];exact e)
theorem MC {st aA:aB}{a:Nat}{o:MO}(h:st a=none)(x:Ext (del (put st a o) a) aA):Ext st aA:=fun b o' e=>by
 have ne:b≠a:=fun z=>by rw[z,h]at e;cases e
 exact x _ _ (by rw[vJ ne,aM ne];exact e)
section
variable {G:Prog}{k i ima eV iph inh p l f:Nat}{st:aB}{Q:VK}{E:XK}{names:List (List Nat)}{aK R:List Sy}{aN:List (List Bool)}{cs:List D}{cl:Nat}
theorem PH (h:G.fns i=some (BB eV ima))(hma:G.fns ima=some sQ)(hha:G.fns eV=some (mW iph inh))(hn:G.fns inh=some pH)(hpa:G.fns iph=some mF)(T0:Table st p names aK R)(fK:aK.length<=5000)(hl:st l=some (.lst (aN.map bC)))(hp:∀ bs∈aN,bs.length=names.length)(dA:aN.length<=1000)(hc:st cl=some (.fn f cs))(F:Nat->D)
  (hf:∀(t q:Nat)(aA:aB)(K:VK)(E':XK),t<aN.length->Ext (del st cl) aA->aA q=some (.lst (R.map fun s=>.bl (hv names aN s t)))->(∀ aZ,Ext aA aZ->K (F t) aZ)->aI G (k+2) f (cs++[.ref q]) aA K E')
  (hQ:∀ u aA,st u=none->Ext st aA->aA u=some (.lst ((bb aN.length).map F))->Q (.ref u) aA):aI G (k+3) i [.ref p,.ref l,.ref cl] st Q E:=by
 have hL:bH=16777216:=rfl
 obtain⟨lp,lr,ld,lm,js,T,hlm,hjl,hjs,hpast⟩:=T0.h
 rw[bA h]
 simp only[BB,start]
 refine⟨rfl,?_⟩
 walk_at"st"
 refine cG (by simp) fun u aC x1 hu hu1=>?_
 walk_at"ex"
 walk_at"st"
 rw[cL (T.keep x1).ins (x:=.tup (aK.map fun s=>.bl (dU s))) (by rw[fE (by decide +kernel) (by decide +kernel) (by decide +kernel) (by decide +kernel)];simp only[wK,bN];rw[if_pos bz])]
 walk_at"ex"
 have l1:=x1 _ _ hl
 walk_at"st"
 rw[aE l1]
 have lu:l≠u:=fun z=>by rw[<-z,hl]at hu;cases hu
 refine lD bC (I:=fun rest σ aA=>∃ t o5 o6,t<=aN.length/\rest=aN.drop t/\σ=[some (.ref p),some (.ref l),some (.ref cl),some (.ref u),some (.tup (aK.map fun s=>.bl (eZ names aN t s))),o5,o6]/\Ext st aA/\aA u=some (.lst ((bb t).map F))) (fun rest σ aA h=>?_) (fun x rest σ aA M h hM=>?_) (fun σ aA h=>?_) _ _ _ ⟨0,none,none,dm _,rfl,by simp [eZ],x1,hu1⟩
 ·obtain⟨t,o5,o6,e0,e1,e2,x4,u4⟩:=h
  intro a ha
  simp only[aj]at ha
  subst ha
  rw[l1,x4 _ _ hl]
 ·obtain⟨t,o5,o6,e0,e1,e2,x4,u4⟩:=h
  subst e2
  have ht':t<aN.length:=by
   by_cases z:t<aN.length
   ·exact z
   ·rw[fx (by omega)]at e1;cases e1
  rw[b9 ht']at e1
  injection e1 with e3 e4
  have hx:aN[t]? = some x:=by rw[ah ht',e3]
  have hxl:x.length=names.length:=hp x (bg hx)
  have T4:=T.keep x4
  walk_at"st"
  rw[fW T4.ins (by rw[fE (by decide +kernel) (by decide +kernel) (by decide +kernel) (by decide +kernel)];simp only[wK,bN];rw[if_neg (by decide +kernel),if_neg (by decide +kernel)])]
  refine⟨True.intro,?_⟩
  have em:(aK.map fun s=>D.bl (eZ names aN t s))=(aK.map fun s=>eZ names aN t s).map .bl:=by rw[l9];rfl
  rw[em]
  refine GW (k:=k) hha hn hpa T4 (set:=x) (fun s=>hv names aN s t) (fun n hn'=>?_) (fun s gR hps=>⟨eZ names aN t s,?_,GP hps t⟩) (fun s h1 h2=>LF h1 h2 t) fun dF q hq0 x5 hq=>?_
  ·have cO:names.idxOf n<x.length:=by rw[hxl];exact List.idxOf_lt_length_iff.mpr hn'
   simp only[hv,EY,hx,jo]
   rw[ah cO];rfl
  ·have cO:=List.idxOf_lt_length_iff.mpr gR
   rw[bc,ah cO];simp
  walk_at"ex"
  have u5:=x5 _ _ u4
  walk_at"st"
  rw[aE u5]
  refine⟨True.intro,?_⟩
  rw[YZ (x5 _ _ (x4 _ _ hc)),YZ (x5 _ _ (x4 _ _ hc))]
  refine⟨True.intro,?_⟩
  have x45:=x4.trans x5
  have qc:q≠cl:=fun z=>by rw[z,x4 _ _ hc]at hq0;cases hq0
  refine hf t q _ _ _ ht' (VR x45) (by rw[vJ qc];exact hq) fun st6' x6'=>?_
  have x6:=Cw (x45 _ _ hc) x6'
  generalize put st6' cl (.fn f cs)=gS at x6
  walk_at"ex"
  have u6:=x6 _ _ u5
  rw[aE u6]
  refine⟨by simp only[ab,dw];omega,?_⟩
  have qu:q≠u:=fun z=>by rw[z,u4]at hq0;cases hq0
  generalize hst7:put gS u (.lst ((bb t).map F++[F t]))=lF
  have x7:Ext st lF:=fun a o e=>by
   have au:a≠u:=fun z=>by rw[z,hu]at e;cases e
   rw[<-hst7,aM au];exact x6 _ _ (x5 _ _ (x4 _ _ e))
  have u7:lF u=some (.lst ((bb t).map F++[F t])):=by rw[<-hst7,aQ]
  have q7:lF q=some (.lst (R.map fun s=>.bl (hv names aN s t))):=by rw[<-hst7,aM qu];exact x6 _ _ hq
  have T7:=T.keep x7
  walk_at"st"
  rw[fW T7.ins (by rw[fE (by decide +kernel) (by decide +kernel) (by decide +kernel) (by decide +kernel)];simp only[wK,bN];rw[if_neg (by decide +kernel),if_neg (by decide +kernel)])]
  refine⟨True.intro,?_⟩
  refine LK (k:=k+1) (aK:=aK) hma T7.ins (lm:=lm) (by rw[fE (by decide +kernel) (by decide +kernel) (by decide +kernel) (by decide +kernel)];simp only[wK,bN];rw[if_neg (by decide +kernel),if_pos bz]) (x7 _ _ hlm) q7 hjl fK hjs fun eI x8=>?_
  walk_at"ex"
  simp only[aO]
  refine hM _ eI ⟨t+1,some (bC x),some (.ref q),ht',e4,?_,x7.trans x8,?_⟩
  ·simp [eZ]
  ·rw[x8 _ _ u7,j1,dg];rfl
 ·obtain⟨t,o5,o6,e0,e1,e2,x4,u4⟩:=h
  subst e2
  have hj:aN.length<=t:=by
   by_cases z:t<aN.length
   ·rw[b9 z]at e1;cases e1
   ·omega
  have et:t=aN.length:=by omega
  subst et
  walk_at"st"
  exact hQ u _ hu x4 u4
end
theorem PC {st aF:aB}{a:Nat}{o:MO}(ha:st a=none)(x:Ext (put st a o) aF):Ext st (del aF a):=fun b o' e=>by
 have ne:b≠a:=fun z=>by rw[z,ha]at e;cases e
 rw[vJ ne];exact x _ _ (pP ha e)
theorem O1 {st aF:aB}{a u:Nat}{o o':MO}(hu:put st a o u=none)(h:aF u=some o'):del aF a u=some o':=by
 have ne:u≠a:=fun z=>by rw[z,aQ]at hu;cases hu
 rw[vJ ne];exact h
theorem WQ {st:aB}{a u:Nat}{o:MO}(hu:put st a o u=none):st u=none:=by
 have ne:u≠a:=fun z=>by rw[z,aQ]at hu;cases hu
 rwa [aM ne]at hu
noncomputable def EL (ilo:Nat):Fn:=⟨2,2,[.ret (.mcl (W "Rules") (W "loss_at") ilo (.v 0) [(.v 1)])]⟩
noncomputable def J7 (ifk imk:Nat):Fn:=⟨2,2,[.ret (.tup [(.mcl (W "Rules") (W "foe_keeps") ifk (.v 0) [(.v 1)]),(.mcl (W "Rules") (W "friend_keeps") imk (.v 0) [(.v 1)])])]⟩
noncomputable def FO (ich icp iri itd ill:Nat)(κ:CK):Fn:=⟨2,3,[.ex (.call ich [(.v 0)]),.ex (.call icp [(.v 0),(.v 1)]),.asg (.nm 2) (.mk (W "Rules") iri [(.v 0)]),.ret (.callL itd [(.fld (W "Rules") (W "table") (.v 2)),(.v 1)] ill [2] κ)]⟩
noncomputable def zF:Fn:=⟨1,1,[.iff (.cmp .in_ (.c (.bl false)) (.v 0)) [.ret (.cT .index (.v 0) [(.c (.bl false))])] [],.ret (.c .non)]⟩
noncomputable def G0 (ich icp iri itd ibl ift:Nat)(κ:CK):Fn:=⟨2,4,[.ex (.call ich [(.v 0)]),.ex (.call icp [(.v 0),(.v 1)]),.asg (.nm 2) (.mk (W "Rules") iri [(.v 0)]),.asg (.nm 3) (.callL itd [(.fld (W "Rules") (W "table") (.v 2)),(.v 1)] ibl [2] κ),.ret (.tup [(.call ift [(.comp 1 [] [0] true none [(.v 3)] [] (.ix (.v 0) (.c (.int 0))))]),(.call ift [(.comp 1 [] [0] true none [(.v 3)] [] (.ix (.v 0) (.c (.int 1))))])])]⟩
noncomputable def qJ (bs:List Bool):D:=if bs.contains false then .int (bs.idxOf false:Nat)else .non
theorem OW {st:aB}(a b:Bool):bV st (.bl a) (.bl b)=(a==b):=by simp only[bV]
theorem any_false {st:aB}:∀ bs:List Bool,((bs.map D.bl).any fun d=>bV st d (.bl false))=bs.contains false
 |[]=>rfl
 |a::l=>by
  rw[ay,kf,any_false l,OW,nj]
  cases a<;>rfl
theorem EA {st:aB}:∀ bs:List Bool,bs.contains false=true->findD st (.bl false) (bs.map D.bl)=some (bs.idxOf false)
 |[],h=>by cases h
 |a::l,h=>by
  simp only[ay,findD,OW]
  cases a with
  |false=>rfl
  |true =>
   rw[if_neg (by decide),EA l (by simpa using h),j3];rfl
theorem IY {st:aB}(bs:List Bool):dR st (bs.map D.bl):=by
 have h:=pG bs
 have h2:=BK bs
 simp only[bC,bK]at h
 simp only[bC,cS]at h2
 exact⟨qF _ h,by have:jY=80:=rfl;omega⟩
section
variable {G:Prog}{k i ich icp iri itd ill ibl ift ibk ist iti iz ie irr iw ipo io ima eV iph inh ilo ifk imk:Nat}{st:aB}{Q:VK}{E:XK}{b:Bk}{κ:CK}
theorem M8 (h:G.fns i=some zF){l:Nat}{bs:List Bool}(hl:st l=some (.lst (bs.map .bl)))(hQ:Q (qJ bs) st):aI G (k+1) i [.ref l] st Q E:=by
 rw[bA h]
 simp only[zF,start]
 refine⟨rfl,?_⟩
 walk_at"st"
 show dX st l _ _
 rw[fF hl]
 refine⟨AD,IY bs,?_⟩
 rw[any_false]
 unfold qJ at hQ
 cases hc:bs.contains false with
 |false =>
 rw[hc]at hQ
 walk_at"ex"
 simp only[aq,if_false,aO]
 walk_at"st"
 simpa using hQ
 |true =>
 rw[hc]at hQ
 walk_at"ex"
 (try simp only[if_true])
 walk_at"st"
 show dY (.ref l) st (fun _ _=>True)/\_
 refine⟨by rw[wQ,aE hl];trivial,?_⟩
 show dY (.ref l) st (fun _ ds=>plainS st (.bl false)/\dR st ds/\dG (findD st (.bl false) ds) fun i=>Q (.int (i:Nat)) st)
 rw[wQ,aE hl]
 refine⟨AD,IY bs,?_⟩
 rw[EA bs hc,bF]
 simpa using hQ
theorem EB (hch:G.fns ich=some (kI ibk))(hb:xX G ibk 13 b)(hcp:G.fns icp=some (nM ist))(dN:G.fns ist=some kM)(hri:G.fns iri=some (oS iti io))(ht:G.fns iti=some (jJ iz ie irr))(hz:G.fns iz=some (gM iw))(he:G.fns ie=some (lT ie iw ipo))(hw:G.fns iw=some fQ)(hpo:G.fns ipo=some kY)(hrr:G.fns irr=some sP)(hio:G.fns io=some mM)
 (B:b.Ok)(hs:fN b.says<=5000)(fK:(cF b.says []).length<=5000){l:Nat}{aN:List (List Bool)}(hl:st l=some (.lst (aN.map bC)))(hp:∀ bs∈aN,bs.length=b.names.length)(dA:aN.length<=1000){ss:List Sx}{P:gZ}{os:St}
 (hN:∀ r aA p l1 l2 l3 R,Ext st aA->iG aA r p l1 l2 l3 b R->cY (aI G (k+14)) G.sub ss P (some b.d::some (.ref l)::some (.ref r)::os) aA):
 cY (aI G (k+14)) G.sub (.ex (.call ich [.v 0])::.ex (.call icp [.v 0,.v 1])::.asg (.nm 2) (.mk (W "Rules") iri [.v 0])::ss) P (some b.d::some (.ref l)::none::os) st:=by
 walk_at"st"
 refine yI (k:=k) hch hb fun aC x1=>?_
 walk_at"st"
 refine DV (k:=k+12) hcp dN B (x1 _ _ hl) hp dA fun aF x2=>?_
 walk_at"st"
 intro r hr
 refine DF (k:=k+1) hri ht hz he hw hpo hrr hio B hs fK aQ fun aX p l1 l2 l3 R k3 T3=>⟨rfl,?_⟩
 have x3:Ext aF aX:=fun a o e=>k3 a o (by intro z;simp only[aj]at z;rw[z,hr]at e;cases e) (pP hr e)
 exact hN r aX p l1 l2 l3 R (x1.trans (x2.trans x3)) T3
theorem U0 (h:G.fns i=some (FO ich icp iri itd ill κ))(hcod:∃ P,st P=some (.cod κ))(hch:G.fns ich=some (kI ibk))(hb:xX G ibk 13 b)(hcp:G.fns icp=some (nM ist))(dN:G.fns ist=some kM)(hri:G.fns iri=some (oS iti io))(ht:G.fns iti=some (jJ iz ie irr))(hz:G.fns iz=some (gM iw))(he:G.fns ie=some (lT ie iw ipo))(hw:G.fns iw=some fQ)(hpo:G.fns ipo=some kY)(hrr:G.fns irr=some sP)(hio:G.fns io=some mM)
  (hma:G.fns ima=some sQ)(hha:G.fns eV=some (mW iph inh))(hn:G.fns inh=some pH)(hpa:G.fns iph=some mF)(htd:G.fns itd=some (BB eV ima))(hll:G.fns ill=some (EL ilo))(hlo:G.fns ilo=some xU)
  (B:b.Ok)(hs:fN b.says<=5000)(fK:(cF b.says []).length<=5000){l:Nat}{aN:List (List Bool)}(hl:st l=some (.lst (aN.map bC)))(hp:∀ bs∈aN,bs.length=b.names.length)(dA:aN.length<=1000)
  (hQ:∀ u aA,st u=none->Ext st aA->aA u=some (.lst ((bb aN.length).map fun t=>D.int (fU b.ws fun s=>hv b.names aN s t)))->Q (.ref u) aA):aI G (k+15) i [b.d,.ref l] st Q E:=by
 rw[bA h]
 simp only[FO,start]
 refine⟨rfl,?_⟩
 refine EB hch hb hcp dN hri ht hz he hw hpo hrr hio B hs fK hl hp dA fun r aX p l1 l2 l3 R x3 T3=>?_
 walk_at"st"
 rw[cL T3.ins nQ]
 refine⟨hcod.imp fun P e=>x3 _ _ e,?_⟩
 intro ca hca
 have xn:=Ext.new (o:=.fn ill [.ref r]) hca
 refine PH (k:=k+11) htd hma hha hn hpa (T3.tab.keep xn) fK (xn _ _ (x3 _ _ hl)) hp dA aQ (fun t=>D.int (fU b.ws fun s=>hv b.names aN s t)) (fun t q aA K E' ht' x4 hq hK=>?_) fun u cN hu x4 hu4=>?_
 ·rw[bA hll]
  simp only[EL,start]
  refine⟨rfl,?_⟩
  have T4:=T3.keep (MC hca x4)
  simp only[b7,a9,ay,fe]
  walk_at"st"
  rw[fW T4.ins (wC (by decide +kernel) (by decide +kernel) (by decide +kernel) (by decide +kernel))]
  refine⟨True.intro,?_⟩
  exact O6 (k:=k+11) hlo T4 B hq hK
 ·exact hQ u _ (sA x3 (WQ hu)) (x3.trans (PC hca x4)) (O1 hu hu4)
theorem VJ (h:G.fns i=some (G0 ich icp iri itd ibl ift κ))(hcod:∃ P,st P=some (.cod κ))(hch:G.fns ich=some (kI ibk))(hb:xX G ibk 13 b)(hcp:G.fns icp=some (nM ist))(dN:G.fns ist=some kM)(hri:G.fns iri=some (oS iti io))(ht:G.fns iti=some (jJ iz ie irr))(hz:G.fns iz=some (gM iw))(he:G.fns ie=some (lT ie iw ipo))(hw:G.fns iw=some fQ)(hpo:G.fns ipo=some kY)(hrr:G.fns irr=some sP)(hio:G.fns io=some mM)
  (hma:G.fns ima=some sQ)(hha:G.fns eV=some (mW iph inh))(hn:G.fns inh=some pH)(hpa:G.fns iph=some mF)(htd:G.fns itd=some (BB eV ima))(hbl:G.fns ibl=some (J7 ifk imk))(hfk:G.fns ifk=some BE)(hmk:G.fns imk=some BP)(hft:G.fns ift=some zF)
  (B:b.Ok)(hs:fN b.says<=5000)(fK:(cF b.says []).length<=5000){l:Nat}{aN:List (List Bool)}(hl:st l=some (.lst (aN.map bC)))(hp:∀ bs∈aN,bs.length=b.names.length)(dA:aN.length<=1000)
  (hQ:∀ aA,Ext st aA->Q (.tup [qJ ((bb aN.length).map fun t=>bS b.ps fun s=>hv b.names aN s t),qJ ((bb aN.length).map fun t=>bS b.ms fun s=>hv b.names aN s t)]) aA):aI G (k+15) i [b.d,.ref l] st Q E:=by
 have hL:bH=16777216:=rfl
 rw[bA h]
 simp only[G0,start]
 refine⟨rfl,?_⟩
 refine EB hch hb hcp dN hri ht hz he hw hpo hrr hio B hs fK hl hp dA fun r aX p l1 l2 l3 R x3 T3=>?_
 walk_at"st"
 rw[cL T3.ins nQ]
 refine⟨hcod.imp fun P e=>x3 _ _ e,?_⟩
 intro ca hca
 have xn:=Ext.new (o:=.fn ibl [.ref r]) hca
 refine PH (k:=k+11) htd hma hha hn hpa (T3.tab.keep xn) fK (xn _ _ (x3 _ _ hl)) hp dA aQ (fun t=>D.tup [.bl (bS b.ps fun s=>hv b.names aN s t),.bl (bS b.ms fun s=>hv b.names aN s t)]) (fun t q aA K E' ht' x4 hq hK=>?_) fun u st4' hu x4' hu4'=>?_
 ·rw[bA hbl]
  simp only[J7,start]
  refine⟨rfl,?_⟩
  have T4:=T3.keep (MC hca x4)
  simp only[b7,a9,ay,fe]
  walk_at"st"
  rw[fW T4.ins (wC (by decide +kernel) (by decide +kernel) (by decide +kernel) (by decide +kernel))]
  refine⟨True.intro,?_⟩
  refine OG (k:=k+11) hfk T4 B hq fun dF x5=>?_
  have T5:=T4.keep x5
  walk_at"ex"
  rw[fW T5.ins (wC (by decide +kernel) (by decide +kernel) (by decide +kernel) (by decide +kernel))]
  refine⟨True.intro,?_⟩
  refine O2 (k:=k+11) hmk T5 B (x5 _ _ hq) fun gS x6=>?_
  exact hK gS (x5.trans x6)
 ·have hu4:=O1 hu hu4'
  have x4:=PC hca x4'
  generalize del st4' ca=cN at hu4 x4
  walk_at"ex"
  walk_at"st"
  rw[aE hu4]
  have hlr:((bb aN.length).map fun t=>D.tup [.bl (bS b.ps fun s=>hv b.names aN s t),.bl (bS b.ms fun s=>hv b.names aN s t)]).length<=1000:=by simp only[ab,dw];exact dA
  refine fB (fun t:Nat=>D.tup [.bl (bS b.ps fun s=>hv b.names aN s t),.bl (bS b.ms fun s=>hv b.names aN s t)]) (fun t=>D.bl (bS b.ps fun s=>hv b.names aN s t)) (bb aN.length) [] cN (fun aZ y a ha=>?_) (fun t ht' dF K y5 hK=>?_) (by simp only[be,dw];omega) fun dF x5=>?_
  ·simp only[aj]at ha
   subst ha
   rw[hu4,y _ _ hu4]
  ·walk_at"ex"
   exact hK dF .refl
  rw[a9]
  refine cG (by simp only[ab,dw];omega) fun v gS x6 hv0 hv6=>?_
  refine M8 (k:=k+13) hft (bs:=(bb aN.length).map fun t=>bS b.ps fun s=>hv b.names aN s t) (by rw[hv6,l9];rfl) ?_
  walk_at"ex"
  have u6:=x6 _ _ (x5 _ _ hu4)
  rw[aE u6]
  refine fB (fun t:Nat=>D.tup [.bl (bS b.ps fun s=>hv b.names aN s t),.bl (bS b.ms fun s=>hv b.names aN s t)]) (fun t=>D.bl (bS b.ms fun s=>hv b.names aN s t)) (bb aN.length) [] gS (fun aZ y a ha=>?_) (fun t ht' dF K y5 hK=>?_) (by simp only[be,dw];omega) fun lF x7=>?_
  ·simp only[aj]at ha
   subst ha
   rw[u6,y _ _ u6]
  ·walk_at"ex"
   exact hK dF .refl
  rw[a9]
  refine cG (by simp only[ab,dw];omega) fun w eI x8 hw hw8=>?_
  refine M8 (k:=k+13) hft (bs:=(bb aN.length).map fun t=>bS b.ms fun s=>hv b.names aN s t) (by rw[hw8,l9];rfl) ?_
  exact hQ eI (x3.trans (x4.trans (x5.trans (x6.trans (x7.trans x8)))))
end
theorem PX {ws:List (Int×Sy)}{V V':Sy->Bool}(h:∀ s,V s=V' s):fU ws V=fU ws V':=by
 have:V=V':=funext h
 rw[this]
structure xJ (b:Bk)(m bB:List Bool)(met:List (List Bool))(a:lM):Prop where
 len:a.1.length=b.gs.length
 kp:bS b.ms (b.vm m (bB++a.1))=true
 lo:a.2.1=fU b.ws (b.vm m (bB++a.1))
 to:met[a.2.2]? = some (b.sF m (bB++a.1))
theorem DY {α:Type}{l l':List α}(h:l <+: l'){i:Nat}{x:α}(e:l[i]? = some x):l'[i]? = some x:=by
 obtain⟨r,rfl⟩:=h
 have hi:i<l.length:=by
  refine uw fun z=>?_
  rw[cx z]at e;cases e
 rw[bq hi,e]
theorem xJ.more {b:Bk}{m bB:List Bool}{met met':List (List Bool)}{a:lM}(h:xJ b m bB met a)(p:met <+: met'):xJ b m bB met' a:=⟨h.len,h.kp,h.lo,DY p h.to⟩
theorem PR (met:List (List Bool))(m:List Bool):met <+: jM met m:=by
 unfold jM;split
 ·exact pf _
 ·exact List.prefix_append _ _
theorem ZO (met:List (List Bool))(m:List Bool):(jM met m)[(jM met m).idxOf m]? = some m:=by
 have h:=jm (xO met m)
 rw[ah h,List.getElem_idxOf h]
set_option tactic.hygienic true in
theorem UU {b:Bk}{m bB fr:List Bool}(hf:fr.length=b.gs.length){x:List lM×List (List Bool)}(h:∀ a∈x.1,xJ b m bB x.2 a):(∀ a∈(cB b m bB x fr).1,xJ b m bB (cB b m bB x fr).2 a)/\x.2 <+: (cB b m bB x fr).2:=by
 unfold cB
 split
 ·rename_i hk
  refine⟨fun a ha=>?_,PR _ _⟩
  rcases List.mem_append.mp ha with ha|ha
  ·exact(h a ha).more (PR _ _)
  ·simp only[aj]at ha
   subst ha
   exact⟨hf,hk,rfl,ZO _ _⟩
 ·exact⟨h,pf _⟩
theorem LL {b:Bk}{m bB:List Bool}:∀(l:List (List Bool))(x:List lM×List (List Bool)),(∀ fr∈l,fr.length=b.gs.length)->(∀ a∈x.1,xJ b m bB x.2 a)->(∀ a∈(l.foldl (cB b m bB) x).1,xJ b m bB (l.foldl (cB b m bB) x).2 a)/\x.2 <+: (l.foldl (cB b m bB) x).2
 |[],_,_,h=>⟨h,pf _⟩
 |fr::l,x,hl,h=>by
  have h1:=UU (hl fr (by simp)) h
  have h2:=LL l (cB b m bB x fr) (fun y hy=>hl y (by simp [hy])) h1.1
  exact⟨h2.1,h1.2.trans h2.2⟩
structure HR (b:Bk)(m:List Bool)(met:List (List Bool))(v:Mv):Prop where
 len:v.1.length=b.fs.length
 kp:bS b.ps (b.vm m (v.1++ak b.gs.length false))=true
 an:∀ a∈v.2,xJ b m v.1 met a
theorem HR.more {b:Bk}{m:List Bool}{met met':List (List Bool)}{v:Mv}(h:HR b m met v)(p:met <+: met'):HR b m met' v:=⟨h.len,h.kp,fun a ha=>(h.an a ha).more p⟩
theorem TV {b:Bk}{m bB:List Bool}(met:List (List Bool)):(∀ a∈(iI b m bB met).1,xJ b m bB (iI b m bB met).2 a)/\met <+: (iI b m bB met).2 :=
 LL (dI b.gs.length) ([],met) (fun fr h=>pQ _ _ h) (by simp)
theorem K6 {b:Bk}{m:List Bool}:∀(l:List (List Bool))(x:List Mv×List (List Bool)),(∀ bB∈l,bB∈mY b m)->(∀ v∈x.1,HR b m x.2 v)->(∀ v∈(l.foldl (cM b m) x).1,HR b m (l.foldl (cM b m) x).2 v)/\x.2 <+: (l.foldl (cM b m) x).2
 |[],_,_,h=>⟨h,pf _⟩
 |bB::l,x,hl,h=>by
  have hf:=hl bB (by simp)
  have ha:=TV (b:=b) (m:=m) (bB:=bB) x.2
  have h1:∀ v∈(cM b m x bB).1,HR b m (cM b m x bB).2 v:=fun v hv=>by
   simp only[cM]at hv ⊢
   rcases List.mem_append.mp hv with hv|hv
   ·exact(h v hv).more ha.2
   ·simp only[aj]at hv
    subst hv
    exact⟨HJ hf,(List.mem_filter.mp hf).2,ha.1⟩
  have h2:=K6 l (cM b m x bB) (fun y hy=>hl y (by simp [hy])) h1
  exact⟨h2.1,ha.2.trans h2.2⟩
theorem Bn {b:Bk}{m:List Bool}(met:List (List Bool)):(∀ v∈(jV b m met).1,HR b m (jV b m met).2 v)/\met <+: (jV b m met).2:=K6 _ ([],met) (fun _ h=>h) (by simp)
set_option tactic.hygienic true in
theorem OE (b:Bk):∀ j,(∀(k:Nat)(n:Node),(aW b j).2[k]? = some n->(aW b j).1[k]? = some n.1)/\(∀ n∈(aW b j).2,∀ v∈n.2,HR b n.1 (aW b j).1 v)/\(aW b j).1[0]? = some (b.mem [])
 |0=>⟨fun k n h=>by simp [aW]at h,fun n h=>by simp [aW]at h,by
  show[b.aK.map dU][0]? = _
  simp only[jc,zi]
  unfold Bk.mem
  refine mn fun s _=>?_
  simp [eZ]⟩
 |j+1=>by
  obtain⟨h1,h2,h3⟩:=OE b j
  simp only[aW,pT]
  split
  ·rename_i cO
   have hm:=Bn (b:=b) (m:=((aW b j).1[(aW b j).2.length]?).getD []) (aW b j).1
   refine⟨fun k n hk=>?_,fun n hn v hv=>?_,DY hm.2 h3⟩
   ·rcases Nat.lt_trichotomy k (aW b j).2.length with hk'|hk'|hk'
    ·rw[bq hk']at hk
     exact DY hm.2 (h1 k n hk)
    ·subst hk'
     rw[cp (az _),Nat.sub_self]at hk
     simp only[jc,zi]at hk
     subst hk
     refine DY hm.2 ?_
     simp [ah cO]
    ·rw[cx (by simp;omega)]at hk;cases hk
   ·rcases List.mem_append.mp hn with hn|hn
    ·exact(h2 n hn v hv).more hm.2
    ·simp only[aj]at hn
     subst hn
     exact hm.1 v hv
  ·exact⟨h1,h2,h3⟩
structure Fx (b:Bk)(gm:List Node):Prop where
 ok:Fh gm
 pos:0<gm.length
 z:(kS gm 0).1=b.mem []
 mv:∀ k,k<gm.length->∀ v∈(kS gm k).2,v.1.length=b.fs.length/\bS b.ps (b.vm (kS gm k).1 (v.1++ak b.gs.length false))=true
 an:∀ k,k<gm.length->∀ v∈(kS gm k).2,∀ a∈v.2,a.1.length=b.gs.length/\bS b.ms (b.vm (kS gm k).1 (v.1++a.1))=true/\a.2.1=fU b.ws (b.vm (kS gm k).1 (v.1++a.1))/\a.2.2<gm.length/\(kS gm a.2.2).1=b.sF (kS gm k).1 (v.1++a.1)
theorem Hr {b:Bk}(B:b.Ok)(fK:b.aK.length<=4):Fx b (oK b):=by
 have h1:=(uR b 17).O4 fK
 have h2:=qR b fK 17
 have h3:=uW b fK 17
 obtain⟨p1,p2,p3⟩:=OE b 17
 have e:(aW b 17).2.length=(aW b 17).1.length:=by omega
 have bT:=Cm B fK
 have at1:∀ k,k<(oK b).length->(aW b 17).1[k]? = some (kS (oK b) k).1:=fun k hk=>p1 k _ (GV hk)
 have hpos:0<(oK b).length:=by
  show 0<(aW b 17).2.length
  rw[e]
  refine uw fun z=>?_
  rw[cx z]at p3;cases p3
 refine⟨bT,hpos,?_,fun k hk v hv=>?_,fun k hk v hv a ha=>?_⟩
 ·have:=at1 0 hpos
  rw[p3]at this
  exact(cw this).symm
 ·have:=p2 _ (yA hk) v hv
  exact⟨this.len,this.kp⟩
 ·have q:=(p2 _ (yA hk) v hv).an a ha
  have cO:=(bT.an _ (yA hk) v hv).2 a ha
  refine⟨q.len,q.kp,q.lo,cO,?_⟩
  have:=at1 _ cO
  rw[q.to]at this
  exact(cw this).symm
theorem rW {names:List (List Nat)}{gs:List (List Nat)}{aK:List Sy}{m x y:List Bool}(h:∀ n,n∈names->n∉gs->x[names.idxOf n]? = y[names.idxOf n]?):∀ s:Sy,over names s->dW gs s=false->vm names aK m x s=vm names aK m y s
 |.yes,_,_=>rfl
 |.no,_,_=>rfl
 |.cQ n,ho,hb=>by
  simp only[vm]
  rw[h n ho]
  intro hn
  simp only[dW]at hb
  rw[og]at hb
  exact hb n hn (by simp)
 |.one w s,ho,hb=>by
  cases w with
  |before=>simp only[vm,p1,if_true,fV]
  |not=>simp only[dW]at hb;simp only[vm,rW h s ho hb]
  |once=>simp only[dW]at hb;simp only[vm,rW h s ho hb]
  |sofar=>simp only[dW]at hb;simp only[vm,rW h s ho hb]
 |.two w s t,ho,hb=>by
  simp only[dW,Bool.or_eq_false_iff]at hb
  simp only[vm,rW h s ho.1 hb.1,rW h t ho.2 hb.2]
theorem Q5 {b:Bk}(B:b.Ok){m bB fr fr':List Bool}(hf:bB.length=b.fs.length):bS b.ps (b.vm m (bB++fr))=bS b.ps (b.vm m (bB++fr')):=by
 unfold bS
 have e:∀ s∈b.ps,b.vm m (bB++fr) s=b.vm m (bB++fr') s:=fun s hs=>by
  refine rW (gs:=b.gs) (fun n hn hng=>?_) s (B.p2 s hs).1 (B.p3 s hs)
  have hnf:n∈b.fs:=by
   rcases List.mem_append.mp hn with z|z
   ·exact z
   ·exact absurd z hng
  have hi:b.names.idxOf n<bB.length:=by
   rw[hf]
   have e1:b.names.idxOf n=b.fs.idxOf n:=by unfold Bk.names;rw[List.idxOf_append,if_pos hnf]
   rw[e1];exact jm hnf
  rw[bq hi,bq hi]
 rw[Uk,km,km]
 exact⟨fun h s hs=>by rw[<-e s hs];exact h s hs,fun h s hs=>by rw[e s hs];exact h s hs⟩
structure Wk (b:Bk)(gm:List Node)(pl:List (List Bool))(nd:Nat):Prop where
 lt:nd<gm.length
 mem:(kS gm nd).1=b.mem pl
 len:∀ bs∈pl,bs.length=b.names.length
 ps:∀ t,t<pl.length->bS b.ps (fun s=>hv b.names pl s t)=true
 ms:∀ t,t<pl.length->bS b.ms (fun s=>hv b.names pl s t)=true
theorem IZ {b:Bk}{ss:List Sy}{pl:List (List Bool)}{x:List Bool}{t:Nat}(h:t<pl.length):bS ss (fun s=>hv b.names (pl++[x]) s t)=bS ss (fun s=>hv b.names pl s t):=by
 have:(fun s=>hv b.names (pl++[x]) s t)=fun s=>hv b.names pl s t:=funext fun s=>gN s t h
 rw[this]
theorem W4 {b:Bk}{pl:List (List Bool)}{x:List Bool}{t:Nat}(h:t<pl.length):fU b.ws (fun s=>hv b.names (pl++[x]) s t)=fU b.ws (fun s=>hv b.names pl s t):=PX fun s=>gN s t h
theorem Wk.zero {b:Bk}{gm:List Node}(W:Fx b gm):Wk b gm [] 0:=⟨W.pos,W.z,by simp,fun t h=>by simp at h,fun t h=>by simp at h⟩
theorem Wk.step {b:Bk}(B:b.Ok){gm:List Node}(W:Fx b gm){pl:List (List Bool)}{nd:Nat}(k:Wk b gm pl nd){v:Mv}(hv':v∈(kS gm nd).2){a:lM}(ha:a∈v.2):
  Wk b gm (pl++[v.1++a.1]) a.2.2/\a.2.1=fU b.ws (fun s=>hv b.names (pl++[v.1++a.1]) s pl.length):=by
 obtain⟨m1,m2⟩:=W.mv nd k.lt v hv'
 obtain⟨a1,a2,a3,a4,a5⟩:=W.an nd k.lt v hv' a ha
 rw[k.mem]at m2 a2 a3 a5
 have e1:(pl++[v.1++a.1]).length-1=pl.length:=by simp
 have hps:∀ s∈b.ps,s∈b.says:=fun s hs=>by simp [Bk.says,hs]
 have hms:∀ s∈b.ms,s∈b.says:=fun s hs=>by simp [Bk.says,hs]
 refine⟨⟨a4,by rw[a5,Z0],fun bs hbs=>?_,fun t ht=>?_,fun t ht=>?_⟩,?_⟩
 ·rcases List.mem_append.mp hbs with z|z
  ·exact k.len bs z
  ·simp only[aj]at z
   subst z
   simp [Bk.names,m1,a1]
 ·by_cases z:t<pl.length
  ·rw[IZ z];exact k.ps t z
  ·have:t=pl.length:=by simp at ht;omega
   subst this
   have h:=UY b hps pl (v.1++a.1)
   rw[e1]at h
   show(b.ps.all fun s=>hv b.names (pl++[v.1++a.1]) s pl.length)=true
   rw[h,Q5 B m1 (fr':=ak b.gs.length false)]
   exact m2
 ·by_cases z:t<pl.length
  ·rw[IZ z];exact k.ms t z
  ·have:t=pl.length:=by simp at ht;omega
   subst this
   have h:=UY b hms pl (v.1++a.1)
   rw[e1]at h
   show(b.ms.all fun s=>hv b.names (pl++[v.1++a.1]) s pl.length)=true
   rw[h]
   exact a2
 ·have h:=Bl b pl (v.1++a.1)
  rw[e1]at h
  rw[a3,h]
theorem FD {b:Bk}{ss:List Sy}{pl:List (List Bool)}(h:∀ t,t<pl.length->bS ss (fun s=>hv b.names pl s t)=true):qJ ((bb pl.length).map fun t=>bS ss fun s=>hv b.names pl s t)=.non:=by
 unfold qJ
 rw[if_neg]
 intro z
 have z:false∈(bb pl.length).map fun t=>bS ss fun s=>hv b.names pl s t:=by simpa using z
 obtain⟨t,ht,e⟩:=List.mem_map.mp z
 rw[h t (by simpa using ht)]at e;cases e
noncomputable def NF (ibo iga im imb ils ibr:Nat):Fn:=⟨1,15,[.asg (.nm 1) (.call ibo [(.v 0),(.c (.int 1)),(.c (.int 3)),(.c (.int 2))]),.asg (.nm 2) (.call iga [(.v 1)]),.asg (.nm 3) (.call im [(.v 0),(.c (.int 0)),(.bin .pow (.c (.int 10)) (.c (.int 9)))]),.asg (.nm 4) (.c (.int 0)),.asg (.nm 5) (.lst []),.asg (.nm 6) (.lst []),.mB (.nm 7) (some .range) [(.c (.int 12))] [.asg (.nm 8) (.comp 1 [] [0] true none [(.ix (.ix (.v 2) (.v 4)) (.c (.int 1)))] [(.cmp .ne (.ix (.v 0) (.c (.int 1))) (.tup []))] (.v 0)),.iff (.cmp .ne (.v 8) (.lst [])) [.asg (.nm 9) (.bin .mod (.bin .mul (.bin .add (.bin .add (.v 3) (.bin .mul (.bin .mul (.c (.int 104729)) (.v 7)) (.v 7))) (.bin .mul (.c (.int 7919)) (.v 7))) (.c (.int 48271))) (.c (.int 2147483647))),.asg (.tp [10,11]) (.ix (.v 8) (.bin .mod (.bin .fdiv (.v 9) (.c (.int 7))) (.bi .len [(.v 8)]))),.asg (.tp [12,13,14]) (.ix (.v 11) (.bin .mod (.bin .fdiv (.v 9) (.c (.int 61))) (.bi .len [(.v 11)]))),.ex (.cT .append (.v 5) [(.bin .add (.v 10) (.v 12))]),.ex (.cT .append (.v 6) [(.v 13)]),.asg (.nm 4) (.v 14),.iff (.cmp .ne (.ix (.ix (.v 2) (.v 4)) (.c (.int 0))) (.call imb [(.v 1),(.v 5)])) [.ret (.c (.bl false))] []] []],.ret (.and_ (.cmp .eq (.call ils [(.v 1),(.v 5)]) (.v 6)) (.cmp .eq (.call ibr [(.v 1),(.v 5)]) (.tup [(.c .non),(.c .non)])))]⟩
theorem XJ (l:List Mv):(l.filterMap fun v=>if(!v.2.isEmpty)=true then some (lN v)else none)=(l.filter fun v=>!v.2.isEmpty).map lN:=by
 induction l with
 |nil=>rfl
 |cons a l ih=>rw[f6,md,ih];cases a.2.isEmpty<;>rfl
theorem mod_lt {d:Int}{n:Nat}(h:0<n):∃ j:Nat,d % (n:Int)=(j:Int)/\j<n:=by
 refine⟨(d % (n:Int)).toNat,?_,?_⟩
 ·have:=mz d (b:=(n:Int)) (by omega);omega
 ·have h1:=nq d (b:=(n:Int)) (by omega)
  have h2:=mz d (b:=(n:Int)) (by omega)
  omega
theorem Kd {o0 o1 o2 o3 o4 o5 o6 o7 o8 o9 pF qW JR VN:Option D}{d:D}{r:St}{R:D->Prop}:eF (o0::o1::o2::o3::o4::o5::o6::o7::o8::o9::pF::qW::JR::VN::some d::r) 14 R=R d:=rfl
section
variable {G:Prog}{k il ibo iga im imb ils ibr inm ic dM is ipr ibk ich icp ist ie iw ipo iz irr iti io iri ima eV iph inh ilo ifk imk itd ilx ibl ift ini ifs ian kA ino:Nat}{st:aB}{E:XK}{ns:List Int}
theorem Mr {κ1 κ2:CK}(hc1:∃ P,st P=some (.cod κ1))(hc2:∃ P,st P=some (.cod κ2))(h:G.fns il=some (NF ibo iga im imb ils ibr))(hbo:G.fns ibo=some (A7 inm dM is ipr))(jO:G.fns inm=some (ES dM))(hpr:G.fns ipr=some (BO is dM))(hs:G.fns is=some (pO dM is))(hn:G.fns dM=some (uI im))(hm:G.fns im=some (nY ic))(hc:G.fns ic=some pU)
  (hga:G.fns iga=some (J2 ich iri ini ifs ian))(hb:∀ b:Bk,b.Ok->fN b.says<bH->(∀ x∈b.says,aR x<=60)->(cF b.says []).length<=4->xX G ibk 13 b)(hch:G.fns ich=some (kI ibk))(hcp:G.fns icp=some (nM ist))(dN:G.fns ist=some kM)(hri:G.fns iri=some (oS iti io))(ht:G.fns iti=some (jJ iz ie irr))(hz:G.fns iz=some (gM iw))(he:G.fns ie=some (lT ie iw ipo))(hw:G.fns iw=some fQ)(hpo:G.fns ipo=some kY)(hrr:G.fns irr=some sP)(hio:G.fns io=some mM)
  (hni:G.fns ini=some EN)(hfs:G.fns ifs=some (E1 kA ifk eV))(han:G.fns ian=some (MS kA eV imk ino ima ilo))(hset:G.fns kA=some xH)(hno:G.fns ino=some BY)
  (hma:G.fns ima=some sQ)(hha:G.fns eV=some (mW iph inh))(hnh:G.fns inh=some pH)(hph:G.fns iph=some mF)(htd:G.fns itd=some (BB eV ima))(hls:G.fns ils=some (FO ich icp iri itd ilx κ1))(hlx:G.fns ilx=some (EL ilo))(hlo:G.fns ilo=some xU)(hbr:G.fns ibr=some (G0 ich icp iri itd ibl ift κ2))(hbl:G.fns ibl=some (J7 ifk imk))(hfk:G.fns ifk=some BE)(hmk:G.fns imk=some BP)(hft:G.fns ift=some zF)
  (hmb:G.fns imb=some (rS ich icp iri ima eV)):aI G (k+16) il [.bO (ns.map .int)] st (fun d _=>d=.bl true) E:=by
 have hL:bH=16777216:=rfl
 rw[bA h]
 simp only[NF,start]
 refine⟨rfl,?_⟩
 walk_at"st"
 refine Ai (k:=k+8) hbo jO hpr hs hn hm hc (by decide) (by decide) (by decide) (by decide) fun b aC DR x1=>?_
 obtain⟨F1,F2,F3,F4⟩:=UD DR (by decide)
 have hB:=hb b DR.ok (by omega) F2 F3
 have WW:=Hr DR.ok F3
 have G1:∀{k:Nat}{st:aB}{Q:VK}{E:XK},(∀ p aA,st p=none->Ext st aA->aA p=some (.lst ((oK b).map oG))->Q (.ref p) aA)->aI G (k+15) iga [b.d] st Q E:=fun hQ=>Br hga hch hB hri ht hz he hw hpo hrr hio hni hfs han hset hfk hha hnh hph hmk hno hma hlo DR.ok (by omega) F3 hQ
 generalize oK b=gm at WW G1
 have g1:=WW.ok.O4
 have LS:∀{st:aB}{Q:VK}{E:XK}{l:Nat}{aN:List (List Bool)},(∃ P,st P=some (.cod κ1))->st l=some (.lst (aN.map bC))->(∀ bs∈aN,bs.length=b.names.length)->aN.length<=1000->(∀ u aA,st u=none->Ext st aA->aA u=some (.lst ((bb aN.length).map fun t=>D.int (fU b.ws fun s=>hv b.names aN s t)))->Q (.ref u) aA)->aI G (k+15) ils [b.d,.ref l] st Q E:=fun h0 h1 h2 h3 hQ=>U0 (k:=k) hls h0 hch hB hcp dN hri ht hz he hw hpo hrr hio hma hha hnh hph htd hlx hlo DR.ok (by omega) (by omega) h1 h2 h3 hQ
 have BR:∀{st:aB}{Q:VK}{E:XK}{l:Nat}{aN:List (List Bool)},(∃ P,st P=some (.cod κ2))->st l=some (.lst (aN.map bC))->(∀ bs∈aN,bs.length=b.names.length)->aN.length<=1000->(∀ aA,Ext st aA->Q (.tup [qJ ((bb aN.length).map fun t=>bS b.ps fun s=>hv b.names aN s t),qJ ((bb aN.length).map fun t=>bS b.ms fun s=>hv b.names aN s t)]) aA)->aI G (k+15) ibr [b.d,.ref l] st Q E:=fun h0 h1 h2 h3 hQ=>VJ (k:=k) hbr h0 hch hB hcp dN hri ht hz he hw hpo hrr hio hma hha hnh hph htd hbl hfk hmk hft DR.ok (by omega) (by omega) h1 h2 h3 hQ
 have MB:∀{st:aB}{Q:VK}{E:XK}{l:Nat}{aN:List (List Bool)},st l=some (.lst (aN.map bC))->(∀ bs∈aN,bs.length=b.names.length)->aN.length<=1000->(∀ aA,Ext st aA->Q (bC (b.mem aN)) aA)->aI G (k+15) imb [b.d,.ref l] st Q E:=fun{st Q E l aN} h1 h2 h3 hQ=>JV (k:=k) hmb hch hB hcp dN hri ht hz he hw hpo hrr hio hma hha hnh hph DR.ok (by omega) (by omega) h1 h2 h3 fun aA x=>by
  have e:D.tup ((cF b.says []).map fun s=>.bl (eZ b.names aN aN.length s))=bC (b.mem aN):=by simp [bC,Bk.mem,Bk.aK]
  rw[e];exact hQ aA x
 have B0:=DR.ok
 clear DR hB
 generalize hbd:b.d=bd at G1 LS BR MB ⊢
 walk_at"ex"
 walk_at"st"
 refine G1 (k:=k) fun p aF hp x2 mC=>?_
 walk_at"ex"
 walk_at"st"
 refine⟨by decide,?_⟩
 refine LY (k:=k+13) hm hc (by decide) (by decide) fun aX x3=>?_
 generalize lG ns 0 (10 ^ Int.toNat 9)=seed
 walk_at"ex"
 walk_at"st"
 walk_at"st"
 refine cG (by simp) fun q cN x4 hq hq4=>?_
 walk_at"ex"
 walk_at"st"
 refine cG (by simp) fun u dF x5 hu hu5=>?_
 walk_at"ex"
 have p5:=x5 _ _ (x4 _ _ (x3 _ _ mC))
 have q5:=x5 _ _ hq4
 have pq:p≠q:=fun z=>by rw[<-z,x3 _ _ mC]at hq;cases hq
 have pu:p≠u:=fun z=>by rw[<-z,x4 _ _ (x3 _ _ mC)]at hu;cases hu
 have qu:q≠u:=fun z=>by rw[<-z,hq4]at hu;cases hu
 walk_at"st"
 refine⟨by unfold iF;omega,?_⟩
 rw[show(12:Int).toNat=12 from rfl,AX]
 refine lD (fun j:Nat=>D.int (j:Nat)) (I:=fun rest σ aA=>∃ t pl nd os,rest=sv t (12-t)/\t<=12/\pl.length<=t/\os.length=8/\σ=[some (.bO (ns.map .int)),some bd,some (.ref p),some (.int seed),some (.int (nd:Nat)),some (.ref q),some (.ref u)]++os/\bL [q,u] dF aA/\Wk b gm pl nd/\aA q=some (.lst (pl.map bC))/\aA u=some (.lst ((bb pl.length).map fun t=>D.int (fU b.ws fun s=>hv b.names pl s t)))) (fun rest σ aA h=>fun a ha=>by cases ha) (fun x rest σ aA M h hM=>?_) (fun σ aA h=>?_) _ _ _ ⟨0,[],0,[none,none,none,none,none,none,none,none],by rw[List.range_eq_range'],dm _,az _,rfl,rfl,.refl,Wk.zero WW,q5,hu5⟩
 ·obtain⟨t,pl,nd,os,e1,e2,e3,e4,e5,k6,wk,q6,u6⟩:=h
  have htl:t<12:=by
   refine uw fun z=>?_
   rw[show 12-t=0 by omega]at e1;cases e1
  rw[show 12-t=(12-(t+1))+1 by omega,zy]at e1
  injection e1 with e1 e1'
  subst e1
  match os,e4 with
  |[o7,o8,o9,pF,qW,JR,VN,Ug],_ =>
  subst e5
  have p6:=k6 _ _ (by simp [pq,pu]) p5
  simp only[b7,a9]
  walk_at"st"
  rw[Y9 p6 wk.lt]
  simp only[oG]
  walk_at"ex"
  have hmn:=WW.ok.mv _ (yA wk.lt)
  refine sC lN (fun v=>if(!v.2.isEmpty)=true then some (lN v)else none) (kS gm nd).2 [] aA (fun _ _ _ ha=>by cases ha) (fun v hv' lF K y7 hK=>?_) (by simp only[be];omega) fun lF x7=>?_
  ·have hK':=hK lF .refl
   simp only[lN]at hK' ⊢
   walk_at"ex"
   have pa:=qA rJ LU v.2
   refine⟨⟨sE _ (by simp only[bK];exact pa.1),by simp only[cS];have:jY=80:=rfl;omega⟩,⟨rfl,by show 1<=jY;decide⟩,?_⟩
   have ee:bV lF (.tup (v.2.map rJ)) (.tup [])=v.2.isEmpty:=by
    rw[cX]
    cases v.2 with
    |nil=>rfl
    |cons a l=>rfl
   rw[ee]
   walk_at"ex"
   cases hvv:v.2.isEmpty with
   |true=>rw[hvv]at hK';simpa using hK'
   |false=>rw[hvv]at hK';simpa using hK'
  rw[a9,XJ]
  have hfl:=lq (fun v:Mv=>!v.2.isEmpty) (kS gm nd).2
  generalize hmf:((kS gm nd).2.filter fun v=>!v.2.isEmpty)=mf at hfl
  refine cG (by simp only[ab];omega) fun f eI x8 hf hf8=>?_
  walk_at"ex"
  walk_at"st"
  refine cG (by simp) fun z tR x9 hz9 hz99=>?_
  have f9:=x9 _ _ hf8
  have pm:=qA lN VC mf
  refine⟨uL f9 pm (by decide),uL hz99 (n:=0) ⟨rfl,az _⟩ (by decide),?_⟩
  rw[eq_empty f9 hz99]
  walk_at"ex"
  have x69:=x7.trans (x8.trans x9)
  have q9:=x69 _ _ q6
  have u9:=x69 _ _ u6
  cases hm0:mf with
  |nil =>
   simp only[fe,uq,fq,aq,if_false,aO]
   exact hM _ _ ⟨x+1,pl,nd,_,e1',by omega,by omega,rfl,rfl,k6.trans x69.keep,wk,q9,u9⟩
  |cons v0 vr =>
   rw[<-hm0]
   have hmpos:0<mf.length:=by rw[hm0];simp
   have hie:(mf.map lN).isEmpty=false:=by rw[hm0];rfl
   rw[hie]
   simp only[kj,if_true]
   walk_at"st"
   refine⟨.inl (by unfold qN;omega),.inr (by unfold qN;omega),.inl (by unfold qN;omega),.inr (by unfold qN;omega),by decide,?_⟩
   generalize (seed+104729*(x:Int)*(x:Int)+7919*(x:Int))*48271 % 2147483647=dr
   walk_at"st"
   refine⟨by decide,?_⟩
   rw[fF f9]
   simp only[ab]
   refine⟨by omega,?_⟩
   obtain⟨j,ej,hj⟩:=mod_lt (d:=dr / 7) hmpos
   rw[ej,eO f9,eJ (by simpa using hj),bc,ah hj,j4,bF]
   generalize hvj:mf[j]=v
   have hvm:v∈mf:=by rw[<-hvj];exact ur hj
   have hvm2:v∈(kS gm nd).2/\(!v.2.isEmpty)=true:=by rw[<-hmf]at hvm;exact List.mem_filter.mp hvm
   have hvpos:0<v.2.length:=by
    cases hv2:v.2 with
    |nil=>rw[hv2]at hvm2;cases hvm2.2
    |cons _ _=>simp
   simp only[lN]
   walk_at"ex"
   walk_at"st"
   refine⟨by decide,?_⟩
   rw[ab]
   refine⟨by omega,?_⟩
   obtain⟨j2,ej2,hj2⟩:=mod_lt (d:=dr / 61) hvpos
   rw[ej2,eJ (by simpa using hj2),bc,ah hj2,j4,bF]
   generalize haj:v.2[j2]=a
   have ham:a∈v.2:=by rw[<-haj];exact ur hj2
   simp only[rJ]
   walk_at"ex"
   obtain⟨wk',el⟩:=wk.step B0 WW hvm2.1 ham
   walk_at"st"
   rw[aE q9]
   refine⟨True.intro,?_⟩
   have hvl:=(WW.mv nd wk.lt v hvm2.1).1
   have hal:=(WW.an nd wk.lt v hvm2.1 a ham).1
   have f2:=B0.f2
   have g2:=B0.g2
   rw[NG]
   refine⟨by omega,?_⟩
   rw[aE q9]
   refine⟨by simp only[ab];omega,?_⟩
   generalize hst10:put tR q (.lst (pl.map bC++[bC (v.1++a.1)]))=yK
   have q10:yK q=some (.lst ((pl++[v.1++a.1]).map bC)):=by rw[<-hst10,aQ];simp
   have k10:bL [q,u] dF yK:=(k6.trans x69.keep).trans (by rw[<-hst10];exact bL.put (by simp))
   have u10:yK u=some (.lst ((bb pl.length).map fun t=>D.int (fU b.ws fun s=>hv b.names pl s t))):=by rw[<-hst10,aM (ey qu)];exact u9
   walk_at"st"
   rw[aE u10]
   refine⟨True.intro,?_⟩
   rw[aE u10]
   refine⟨by simp only[ab,dw];omega,?_⟩
   generalize hst11:put yK u (.lst _)=yL
   have u11:yL u=some (.lst ((bb (pl++[v.1++a.1]).length).map fun t=>D.int (fU b.ws fun s=>hv b.names (pl++[v.1++a.1]) s t))):=by
    rw[<-hst11,aQ]
    simp only[bp,bf,be,j1,dg,ay,fe]
    rw[<-el]
    have:((bb pl.length).map fun t=>D.int (fU b.ws fun s=>hv b.names pl s t))=(bb pl.length).map fun t=>D.int (fU b.ws fun s=>hv b.names (pl++[v.1++a.1]) s t):=mn fun t ht=>by rw[W4 (by simpa using ht)]
    rw[this]
   have q11:yL q=some (.lst ((pl++[v.1++a.1]).map bC)):=by rw[<-hst11,aM qu];exact q10
   have k11:bL [q,u] dF yL:=k10.trans (by rw[<-hst11];exact bL.put (by simp))
   have hpl1:(pl++[v.1++a.1]).length<=x+1:=by simp;omega
   generalize pl++[v.1++a.1]=pl' at wk' q11 u11 hpl1
   have p11:=k11 _ _ (by simp [pq,pu]) p5
   walk_at"st"
   rw[Kd]
   walk_at"ex"
   walk_at"st"
   rw[Y9 p11 wk'.lt]
   simp only[oG]
   walk_at"ex"
   refine MB q11 wk'.len (by omega) fun YB x12=>?_
   rw[wk'.mem]
   refine⟨HY _,HY _,?_⟩
   rw[ON,decide_eq_true rfl]
   walk_at"ex"
   simp only[fq,aq,if_false,aO]
   exact hM _ _ ⟨x+1,pl',a.2.2,_,e1',by omega,hpl1,rfl,rfl,k11.trans x12.keep,wk',x12 _ _ q11,x12 _ _ u11⟩
 ·obtain⟨t,pl,nd,os,e1,e2,e3,e4,e5,k6,wk,q6,u6⟩:=h
  match os,e4 with
  |[o7,o8,o9,pF,qW,JR,VN,Ug],_ =>
  subst e5
  simp only[b7,a9]
  walk_at"st"
  have cod5:∀{κ:CK},(∃ P,st P=some (.cod κ))->∃ P,aA P=some (.cod κ):=fun h=>h.imp fun P e=>by
   have e5:=x5 _ _ (x4 _ _ (x3 _ _ (x2 _ _ (x1 _ _ e))))
   refine k6 _ _ (fun z=>?_) e5
   simp only[cy,bw,or_false]at z
   rcases z with z|z
   ·rw[z,q5]at e5;cases e5
   ·rw[z,hu5]at e5;cases e5
  refine LS (cod5 hc1) q6 wk.len (by omega) fun v lF hv0 x7 hv7=>?_
  have u7:=x7 _ _ u6
  have pI:=qA (fun t:Nat=>D.int (fU b.ws fun s=>hv b.names pl s t)) (n:=0) (fun _=>⟨rfl,az _⟩) (bb pl.length)
  walk_at"ex"
  refine⟨uL hv7 pI (by decide),uL u7 pI (by decide),?_⟩
  simp only[bV,u7,hv7,DT]
  rw[DI _ pI.1]
  walk_at"ex"
  refine BR ((cod5 hc2).imp fun P e=>x7 _ _ e) (x7 _ _ q6) wk.len (by omega) fun eI x8=>?_
  rw[FD wk.ps,FD wk.ms]
  walk_at"ex"
  refine⟨⟨rfl,by show 1<=jY;decide⟩,⟨rfl,by show 1<=jY;decide⟩,?_⟩
  rfl
end
end L3
end
end
namespace L3
open PySem PySem.Spec PyProof.Rows L2
noncomputable def g_LETTERS:D:=(.str (W "abcdefghijklmnopqrstuvwxyz"))
noncomputable def g_LONGEST_NAME:D:=(.int 8)
noncomputable def g_NO_NAMES:D:=(.tup [(.str (W "yes")),(.str (W "no")),(.str (W "not")),(.str (W "and")),(.str (W "or")),(.str (W "then")),(.str (W "same")),(.str (W "before")),(.str (W "once")),(.str (W "sofar")),(.str (W "since")),(.str (W "foe")),(.str (W "friend")),(.str (W "promise")),(.str (W "must")),(.str (W "wish"))])
noncomputable def g_DEEPEST:D:=(.int 8)
noncomputable def g_SAYINGS_WITHIN:D:=(.dE [(.str (W "yes")),(.str (W "no")),(.str (W "not")),(.str (W "before")),(.str (W "once")),(.str (W "sofar")),(.str (W "and")),(.str (W "or")),(.str (W "then")),(.str (W "same")),(.str (W "since"))] [(.int 0),(.int 0),(.int 1),(.int 1),(.int 1),(.int 1),(.int 2),(.int 2),(.int 2),(.int 2),(.int 2)])
noncomputable def g_PAST_WORDS:D:=(.tup [(.str (W "before")),(.str (W "once")),(.str (W "sofar")),(.str (W "since"))])
noncomputable def g_MOST_LAMPS:D:=(.int 2)
noncomputable def g_MOST_PROMISES:D:=(.int 3)
noncomputable def g_MOST_MUSTS:D:=(.int 3)
noncomputable def g_MOST_WISHES:D:=(.int 5)
noncomputable def g_HIGHEST_PRICE:D:=(.int 99)
noncomputable def g_MOST_PIECES:D:=(.int 4)
noncomputable abbrev AO:Nat:=0
noncomputable abbrev uZ:Nat:=1
noncomputable abbrev lP:Nat:=2
noncomputable abbrev iQ:Nat:=3
noncomputable abbrev pV:Nat:=4
noncomputable abbrev nB:Nat:=5
noncomputable abbrev CS:Nat:=6
noncomputable abbrev qX:Nat:=7
noncomputable abbrev rB:Nat:=8
noncomputable abbrev wV:Nat:=9
noncomputable abbrev E6:Nat:=10
noncomputable abbrev IW:Nat:=11
noncomputable abbrev zT:Nat:=12
noncomputable abbrev oH:Nat:=13
noncomputable abbrev AI:Nat:=14
noncomputable abbrev qD:Nat:=15
noncomputable abbrev CF:Nat:=16
noncomputable abbrev AL:Nat:=17
noncomputable abbrev sW:Nat:=18
noncomputable abbrev rL:Nat:=19
noncomputable abbrev sX:Nat:=20
noncomputable abbrev mO:Nat:=21
noncomputable abbrev jD:Nat:=22
noncomputable abbrev hZ:Nat:=23
noncomputable abbrev iN:Nat:=24
noncomputable abbrev jP:Nat:=25
noncomputable abbrev gY:Nat:=26
noncomputable abbrev lJ:Nat:=27
noncomputable abbrev zL:Nat:=28
noncomputable abbrev mI:Nat:=29
noncomputable abbrev pM:Nat:=30
noncomputable abbrev kT:Nat:=31
noncomputable abbrev vR:Nat:=32
noncomputable abbrev LQ:Nat:=33
noncomputable abbrev uA:Nat:=34
noncomputable abbrev rF:Nat:=35
noncomputable abbrev oQ:Nat:=36
noncomputable abbrev nF:Nat:=37
noncomputable abbrev wD:Nat:=38
noncomputable abbrev AA:Nat:=39
noncomputable abbrev R4:Nat:=40
noncomputable abbrev wO:Nat:=41
noncomputable abbrev tD:Nat:=42
noncomputable abbrev gH:Nat:=43
noncomputable abbrev zS:Nat:=44
noncomputable abbrev gT:Nat:=45
noncomputable abbrev vN:Nat:=46
noncomputable abbrev CA:Nat:=47
noncomputable abbrev YQ:Nat:=48
noncomputable abbrev sG:Nat:=50
noncomputable abbrev mP:Nat:=49
noncomputable def iH:CK:=⟨281,202,43,W "losses.<locals>.<lambda>"⟩
noncomputable def eQ:CK:=⟨274,196,43,W "first_breaks.<locals>.<lambda>"⟩
noncomputable def IC:Fn:=⟨1,1,[.iff (.or_ (.not_ (.isi (.v 0) [.str])) (.cmp .in_ (.v 0) (.c g_NO_NAMES))) [.ret (.c (.bl false))] [],.ret (.and_ (.chain .le .le (.c (.int 1)) (.bi .len [(.v 0)]) (.c g_LONGEST_NAME)) (.bi .all [(.comp 1 [] [0] true none [(.v 0)] [] (.cmp .in_ (.v 0) (.c g_LETTERS)))]))]⟩
noncomputable def B6:Fn:=⟨2,2,[.ret (.call lP [(.v 0),(.v 1),(.c g_DEEPEST)])]⟩
noncomputable def qB:Fn:=⟨3,3,[.iff (.or_ (.cmp .lt (.v 2) (.c (.int 1))) (.or_ (.not_ (.isi (.v 1) [.tuple])) (.or_ (.cmp .lt (.bi .len [(.v 1)]) (.c (.int 1))) (.not_ (.isi (.ix (.v 1) (.c (.int 0))) [.str]))))) [.ret (.c (.bl false))] [],.iff (.cmp .eq (.ix (.v 1) (.c (.int 0))) (.c (.str (W "lamp")))) [.ret (.and_ (.cmp .eq (.bi .len [(.v 1)]) (.c (.int 2))) (.and_ (.call AO [(.ix (.v 1) (.c (.int 1)))]) (.cmp .in_ (.ix (.v 1) (.c (.int 1))) (.v 0))))] [],.iff (.or_ (.cmp .kX (.ix (.v 1) (.c (.int 0))) (.c g_SAYINGS_WITHIN)) (.cmp .ne (.bi .len [(.v 1)]) (.bin .add (.c (.int 1)) (.ix (.c g_SAYINGS_WITHIN) (.ix (.v 1) (.c (.int 0))))))) [.ret (.c (.bl false))] [],.ret (.bi .all [(.comp 1 [0,2] [0] true none [(.sl (.v 1) [(.c (.int 1))] [])] [] (.call lP [(.v 1),(.v 0),(.bin .sub (.v 2) (.c (.int 1)))]))])]⟩
noncomputable def tH:Fn:=⟨1,1,[.iff (.cmp .eq (.ix (.v 0) (.c (.int 0))) (.c (.str (W "lamp")))) [.ret (.tup [])] [],.ret (.sl (.v 0) [(.c (.int 1))] [])]⟩
noncomputable def CO:Fn:=⟨1,4,[.asg (.nm 1) (.lst []),.asg (.nm 2) (.bit .list .rev [(.v 0)]),.whl (.v 2) [.asg (.nm 3) (.cT .pop (.v 2) []),.iff (.and_ (.cmp .in_ (.ix (.v 3) (.c (.int 0))) (.c g_PAST_WORDS)) (.cmp .kX (.v 3) (.v 1))) [.ex (.cT .append (.v 1) [(.v 3)])] [],.ex (.cT .extend (.v 2) [(.bit .list .rev [(.call iQ [(.v 3)])])])],.ret (.v 1)]⟩
noncomputable def L4:Fn:=⟨3,3,[.ret (.and_ (.isi (.v 0) [.tuple]) (.chain .le .le (.v 1) (.bi .len [(.v 0)]) (.v 2)))]⟩
noncomputable def B9:Fn:=⟨2,3,[.iff (.or_ (.not_ (.call nB [(.v 0),(.c (.int 1)),(.c g_MOST_LAMPS)])) (.not_ (.call nB [(.v 1),(.c (.int 1)),(.c g_MOST_LAMPS)]))) [.ret (.c (.bl false))] [],.asg (.nm 2) (.bin .add (.v 0) (.v 1)),.ret (.and_ (.bi .all [(.comp 1 [] [0] true none [(.v 2)] [] (.call AO [(.v 0)]))]) (.cmp .eq (.bi .tQ [(.v 2)]) (.bi .len [(.v 2)])))]⟩
noncomputable def yP:Fn:=⟨3,3,[.ret (.and_ (.call nB [(.v 1),(.c (.int 0)),(.v 2)]) (.bi .all [(.comp 1 [0] [0] true none [(.v 1)] [] (.call uZ [(.v 1),(.v 0)]))]))]⟩
noncomputable def yM:Fn:=⟨2,2,[.iff (.cmp .eq (.ix (.v 1) (.c (.int 0))) (.c (.str (W "before")))) [.ret (.c (.bl false))] [],.iff (.cmp .eq (.ix (.v 1) (.c (.int 0))) (.c (.str (W "lamp")))) [.ret (.cmp .in_ (.ix (.v 1) (.c (.int 1))) (.v 0))] [],.ret (.bi .any [(.comp 1 [0] [0] true none [(.call iQ [(.v 1)])] [] (.call rB [(.v 1),(.v 0)]))])]⟩
noncomputable def wJ:Fn:=⟨3,3,[.ret (.and_ (.call qX [(.v 0),(.v 2),(.c g_MOST_PROMISES)]) (.not_ (.bi .any [(.comp 1 [1] [0] true none [(.v 2)] [] (.call rB [(.v 1),(.v 0)]))])))]⟩
noncomputable def DO:Fn:=⟨1,1,[.ret (.and_ (.isi (.v 0) [.int]) (.and_ (.not_ (.isi (.v 0) [.bool])) (.chain .le .le (.c (.int 1)) (.v 0) (.c g_HIGHEST_PRICE))))]⟩
noncomputable def G9:Fn:=⟨2,2,[.ret (.and_ (.call nB [(.v 1),(.c (.int 2)),(.c (.int 2))]) (.and_ (.call E6 [(.ix (.v 1) (.c (.int 0)))]) (.call uZ [(.v 0),(.ix (.v 1) (.c (.int 1)))])))]⟩
noncomputable def AG:Fn:=⟨2,2,[.ret (.and_ (.call nB [(.v 1),(.c (.int 1)),(.c g_MOST_WISHES)]) (.bi .all [(.comp 1 [0] [0] true none [(.v 1)] [] (.call IW [(.v 1),(.v 0)]))]))]⟩
noncomputable def zI:Fn:=⟨3,3,[.ret (.bin .add (.bin .add (.bi .list [(.v 0)]) (.bi .list [(.v 1)])) (.comp 1 [] [0] true none [(.v 2)] [] (.ix (.v 0) (.c (.int 1)))))]⟩
noncomputable def IM:Fn:=⟨1,6,[.iff (.or_ (.not_ (.call nB [(.v 0),(.c (.int 5)),(.c (.int 5))])) (.not_ (.call CS [(.ix (.v 0) (.c (.int 0))),(.ix (.v 0) (.c (.int 1)))]))) [.ret (.c (.bl false))] [],.asg (.nm 1) (.ix (.v 0) (.c (.int 1))),.asg (.nm 2) (.bin .add (.ix (.v 0) (.c (.int 0))) (.v 1)),.asg (.nm 3) (.ix (.v 0) (.c (.int 2))),.asg (.nm 4) (.ix (.v 0) (.c (.int 3))),.asg (.nm 5) (.ix (.v 0) (.c (.int 4))),.iff (.or_ (.not_ (.call wV [(.v 2),(.v 1),(.v 3)])) (.not_ (.call qX [(.v 2),(.v 4),(.c g_MOST_MUSTS)]))) [.ret (.c (.bl false))] [],.ret (.and_ (.call zT [(.v 2),(.v 5)]) (.cmp .le (.bi .len [(.call pV [(.call oH [(.v 3),(.v 4),(.v 5)])])]) (.c g_MOST_PIECES)))]⟩
noncomputable def HA:Fn:=kI AI
noncomputable def B7:Fn:=pH
noncomputable def AH:Fn:=mF
noncomputable def tI:Fn:=jJ pV rL mO
noncomputable def yZ:Fn:=lT rL iQ sX
noncomputable def sY:Fn:=kY
noncomputable def mT:Fn:=sP
noncomputable def tX:Fn:=mW AL CF
noncomputable def nV:Fn:=sQ
noncomputable def sV:Fn:=oS sW oH
noncomputable def rO:Fn:=BE
noncomputable def oB:Fn:=BP
noncomputable def tU:Fn:=xU
noncomputable def AB:Fn:=kM
noncomputable def vZ:Fn:=nM zL
noncomputable def vT:Fn:=BB jD hZ
noncomputable def oU:Fn:=zF
noncomputable def wR:Fn:=⟨2,4,[.ex (.call qD [(.v 0)]),.ex (.call mI [(.v 0),(.v 1)]),.asg (.nm 2) (.mk (W "Rules") iN [(.v 0)]),.asg (.nm 3) (.callL pM [(.fld (W "Rules") (W "table") (.v 2)),(.v 1)] mP [2] eQ),.ret (.tup [(.call kT [(.comp 1 [] [0] true none [(.v 3)] [] (.ix (.v 0) (.c (.int 0))))]),(.call kT [(.comp 1 [] [0] true none [(.v 3)] [] (.ix (.v 0) (.c (.int 1))))])])]⟩
noncomputable def MG:Fn:=⟨2,3,[.ex (.call qD [(.v 0)]),.ex (.call mI [(.v 0),(.v 1)]),.asg (.nm 2) (.mk (W "Rules") iN [(.v 0)]),.ret (.callL pM [(.fld (W "Rules") (W "table") (.v 2)),(.v 1)] sG [2] iH)]⟩
noncomputable def tY:Fn:=rS qD mI iN hZ jD
noncomputable def yQ:Fn:=xH
noncomputable def oF:Fn:=EN
noncomputable def nO:Fn:=BY
noncomputable def vS:Fn:=E1 rF jP jD
noncomputable def zU:Fn:=MS rF jD gY nF hZ lJ
noncomputable def U8:Fn:=J2 qD iN oQ wD AA
noncomputable def vL:Fn:=⟨2,2,[.iff (.cmp .lt (.v 1) (.bi .len [(.v 0)])) [.ret (.ix (.v 0) (.v 1))] [],.iff (.cmp .eq (.v 0) (.lst [])) [.ret (.c (.int 0))] [],.ret (.bin .add (.bin .mul (.ix (.v 0) (.bin .mod (.v 1) (.bi .len [(.v 0)]))) (.c (.int 31))) (.v 1))]⟩
noncomputable def AK:Fn:=⟨3,4,[.asg (.nm 3) (.bin .mod (.bin .mul (.bin .add (.bin .add (.call wO [(.v 0),(.v 1)]) (.bin .mul (.c (.int 7919)) (.v 1))) (.c (.int 1))) (.c (.int 48271))) (.c (.int 2147483647))),.ret (.bin .mod (.bin .mod (.bin .add (.bin .add (.bin .mul (.v 3) (.v 3)) (.bin .mul (.c (.int 7)) (.v 3))) (.v 1)) (.c (.int 2147483629))) (.v 2))]⟩
noncomputable def CM:Fn:=⟨3,3,[.asg (.ix (.v 1) (.c (.int 0))) (.bin .add (.ix (.v 1) (.c (.int 0))) (.c (.int 1))),.ret (.call tD [(.v 0),(.ix (.v 1) (.c (.int 0))),(.v 2)])]⟩
noncomputable def AE:Fn:=⟨2,7,[.asg (.nm 2) (.lst [(.c (.str (W "a"))),(.c (.str (W "b"))),(.c (.str (W "x"))),(.c (.str (W "y"))),(.c (.str (W "lamp"))),(.c (.str (W "far"))),(.c (.str (W "yesno"))),(.c (.str (W "abcdefgh")))]),.asg (.nm 3) (.call gH [(.v 0),(.v 1),(.c (.int 8))]),.asg (.nm 4) (.bin .add (.sl (.v 2) [(.v 3)] []) (.sl (.v 2) [] [(.v 3)])),.asg (.nm 5) (.bin .add (.c (.int 1)) (.call gH [(.v 0),(.v 1),(.c (.int 2))])),.asg (.nm 6) (.bin .add (.c (.int 1)) (.call gH [(.v 0),(.v 1),(.c (.int 2))])),.ret (.tup [(.bi .tuple [(.sl (.v 4) [] [(.v 5)])]),(.bi .tuple [(.sl (.v 4) [(.v 5)] [(.bin .add (.v 5) (.v 6))])])])]⟩
noncomputable def yO:Fn:=⟨5,7,[.asg (.nm 5) (.call gH [(.v 0),(.v 1),(.c (.int 13))]),.iff (.or_ (.cmp .eq (.v 3) (.c (.int 0))) (.cmp .lt (.v 5) (.c (.int 3)))) [.ret (.tup [(.c (.str (W "lamp"))),(.ix (.v 2) (.call gH [(.v 0),(.v 1),(.bi .len [(.v 2)])]))])] [],.iff (.cmp .eq (.v 5) (.c (.int 3))) [.ret (.tup [(.ix (.lst [(.c (.str (W "yes"))),(.c (.str (W "no")))]) (.call gH [(.v 0),(.v 1),(.c (.int 2))]))])] [],.iff (.and_ (.cmp .gt (.v 5) (.c (.int 8))) (.cmp .gt (.ix (.v 4) (.c (.int 0))) (.c (.int 0)))) [.asg (.ix (.v 4) (.c (.int 0))) (.bin .sub (.ix (.v 4) (.c (.int 0))) (.c (.int 1))),.asg (.nm 6) (.call gT [(.v 0),(.v 1),(.v 2),(.bin .sub (.v 3) (.c (.int 1))),(.v 4)]),.iff (.cmp .eq (.v 5) (.c (.int 12))) [.ret (.tup [(.c (.str (W "since"))),(.v 6),(.call gT [(.v 0),(.v 1),(.v 2),(.bin .sub (.v 3) (.c (.int 1))),(.v 4)])])] [],.ret (.tup [(.ix (.lst [(.c (.str (W "before"))),(.c (.str (W "once"))),(.c (.str (W "sofar")))]) (.bin .sub (.v 5) (.c (.int 9)))),(.v 6)])] [],.asg (.nm 6) (.call gT [(.v 0),(.v 1),(.v 2),(.bin .sub (.v 3) (.c (.int 1))),(.v 4)]),.iff (.or_ (.cmp .eq (.v 5) (.c (.int 4))) (.cmp .gt (.v 5) (.c (.int 8)))) [.ret (.tup [(.c (.str (W "not"))),(.v 6)])] [],.ret (.tup [(.ix (.lst [(.c (.str (W "and"))),(.c (.str (W "or"))),(.c (.str (W "then"))),(.c (.str (W "same")))]) (.bin .sub (.v 5) (.c (.int 5)))),(.v 6),(.call gT [(.v 0),(.v 1),(.v 2),(.bin .sub (.v 3) (.c (.int 1))),(.v 4)])])]⟩
noncomputable def vW:Fn:=BO gT gH
noncomputable def CJ:Fn:=A7 zS gH gT vN
noncomputable def YT:Fn:=NF CA R4 tD uA LQ vR
noncomputable def vA:Fn:=J7 jP gY
noncomputable def C3:Fn:=EL lJ
noncomputable def Qo:Nat->Option Fn
 |0=>some IC
 |1=>some B6
 |2=>some qB
 |3=>some tH
 |4=>some CO
 |5=>some L4
 |6=>some B9
 |7=>some yP
 |8=>some yM
 |9=>some wJ
 |10=>some DO
 |11=>some G9
 |12=>some AG
 |13=>some zI
 |14=>some IM
 |15=>some HA
 |16=>some B7
 |17=>some AH
 |18=>some tI
 |19=>some yZ
 |20=>some sY
 |21=>some mT
 |22=>some tX
 |23=>some nV
 |24=>some sV
 |25=>some rO
 |26=>some oB
 |27=>some tU
 |28=>some AB
 |29=>some vZ
 |30=>some vT
 |31=>some oU
 |32=>some wR
 |33=>some MG
 |34=>some tY
 |35=>some yQ
 |36=>some oF
 |37=>some nO
 |38=>some vS
 |39=>some zU
 |40=>some U8
 |41=>some vL
 |42=>some AK
 |43=>some CM
 |44=>some AE
 |45=>some yO
 |46=>some vW
 |47=>some CJ
 |48=>some YT
 |49=>some vA
 |50=>some C3
 |_=>none
noncomputable def Sf:Nat->Nat->Bool
 |0,0=>true
 |1,1=>true
 |1,0=>true
 |2,2=>true
 |2,1=>true
 |2,0=>true
 |3,3=>true
 |3,1=>true
 |3,0=>true
 |_,_=>false
noncomputable def G:Prog:=⟨Qo,Sf⟩
noncomputable def cK:Nat->Stmt
 |0=>bd 11
 |1=>bd 12
 |2=>bd 13
 |3=>bd 14
 |4=>bd 15
 |5=>bd 23
 |6=>bd 24
 |7=>bd 25
 |8=>bd 26
 |9=>bd 27
 |10=>bd 28
 |11=>bd 29
 |12=>bd 30
 |13=>bd 31
 |14=>bd 32
 |15=>bd 33
 |16=>bd 35
 |17=>bd 36
 |18=>lA (bd 37) 0
 |19=>lA (bd 37) 1
 |20=>lA (bd 37) 2
 |21=>lA (bd 37) 3
 |22=>lA (bd 37) 4
 |23=>lA (bd 37) 5
 |24=>lA (bd 38) 0
 |25=>lA (bd 38) 1
 |26=>lA (bd 38) 2
 |27=>lA (bd 38) 3
 |28=>bd 39
 |29=>bd 40
 |30=>bd 41
 |31=>bd 42
 |32=>bd 43
 |33=>bd 44
 |34=>bd 46
 |35=>bd 47
 |36=>lA (bd 48) 0
 |37=>lA (bd 48) 1
 |38=>bd 49
 |39=>bd 50
 |40=>bd 51
 |41=>bd 53
 |42=>bd 54
 |43=>bd 55
 |44=>bd 56
 |45=>bd 57
 |46=>bd 58
 |47=>bd 59
 |48=>bd 60
 |_=>.Pass ⟨0,0,0,0⟩
def rP:Nat->Str
 |0 =>"is_name"
 |1 =>"is_saying"
 |2 =>"is_saying_within"
 |3 =>"sayings_within"
 |4 =>"pieces_in"
 |5 =>"is_row"
 |6 =>"are_lamps"
 |7 =>"are_sayings"
 |8 =>"stands_bare"
 |9 =>"are_promises"
 |10 =>"is_price"
 |11 =>"is_wish"
 |12 =>"are_wishes"
 |13 =>"sayings_of"
 |14 =>"is_book"
 |15 =>"checked"
 |16 =>"now_holds"
 |17 =>"past_holds"
 |18 =>"__init__"
 |19 =>"enter"
 |20 =>"place_of"
 |21 =>"remembered_row"
 |22 =>"held_at"
 |23 =>"memory_after"
 |24 =>"__init__"
 |25 =>"foe_keeps"
 |26 =>"friend_keeps"
 |27 =>"loss_at"
 |28 =>"is_setting"
 |29 =>"checked_play"
 |30 =>"told_by_turn"
 |31 =>"first_turn_without"
 |32 =>"first_breaks"
 |33 =>"losses"
 |34 =>"memory_behind"
 |35 =>"settings_of"
 |36 =>"__init__"
 |37 =>"number_of"
 |38 =>"foe_settings"
 |39 =>"answers_to"
 |40 =>"game"
 |41 =>"_law_cell_at"
 |42 =>"_law_mixed"
 |43 =>"_law_next"
 |44 =>"_law_names"
 |45 =>"_law_saying"
 |46 =>"_law_promise"
 |47 =>"_law_book"
 |48 =>"law"
 |_ =>""
def gG:Nat->Str
 |0 =>"is_name"
 |1 =>"is_saying"
 |2 =>"is_saying_within"
 |3 =>"sayings_within"
 |4 =>"pieces_in"
 |5 =>"is_row"
 |6 =>"are_lamps"
 |7 =>"are_sayings"
 |8 =>"stands_bare"
 |9 =>"are_promises"
 |10 =>"is_price"
 |11 =>"is_wish"
 |12 =>"are_wishes"
 |13 =>"sayings_of"
 |14 =>"is_book"
 |15 =>"checked"
 |16 =>"now_holds"
 |17 =>"past_holds"
 |18 =>"Table.__init__"
 |19 =>"Table.enter"
 |20 =>"Table.place_of"
 |21 =>"Table.remembered_row"
 |22 =>"Table.held_at"
 |23 =>"Table.memory_after"
 |24 =>"Rules.__init__"
 |25 =>"Rules.foe_keeps"
 |26 =>"Rules.friend_keeps"
 |27 =>"Rules.loss_at"
 |28 =>"is_setting"
 |29 =>"checked_play"
 |30 =>"told_by_turn"
 |31 =>"first_turn_without"
 |32 =>"first_breaks"
 |33 =>"losses"
 |34 =>"memory_behind"
 |35 =>"settings_of"
 |36 =>"Numbering.__init__"
 |37 =>"Numbering.number_of"
 |38 =>"foe_settings"
 |39 =>"answers_to"
 |40 =>"game"
 |41 =>"_law_cell_at"
 |42 =>"_law_mixed"
 |43 =>"_law_next"
 |44 =>"_law_names"
 |45 =>"_law_saying"
 |46 =>"_law_promise"
 |47 =>"_law_book"
 |48 =>"law"
 |_ =>""
def oV:Nat->At
 |0=>.top
 |1=>.top
 |2=>.top
 |3=>.top
 |4=>.top
 |5=>.top
 |6=>.top
 |7=>.top
 |8=>.top
 |9=>.top
 |10=>.top
 |11=>.top
 |12=>.top
 |13=>.top
 |14=>.top
 |15=>.top
 |16=>.top
 |17=>.top
 |18=>(.init (W "Table"))
 |19=>(.cT (W "Table"))
 |20=>(.cT (W "Table"))
 |21=>(.cT (W "Table"))
 |22=>(.cT (W "Table"))
 |23=>(.cT (W "Table"))
 |24=>(.init (W "Rules"))
 |25=>(.cT (W "Rules"))
 |26=>(.cT (W "Rules"))
 |27=>(.cT (W "Rules"))
 |28=>.top
 |29=>.top
 |30=>.top
 |31=>.top
 |32=>.top
 |33=>.top
 |34=>.top
 |35=>.top
 |36=>(.init (W "Numbering"))
 |37=>(.cT (W "Numbering"))
 |38=>.top
 |39=>.top
 |40=>.top
 |41=>.top
 |42=>.top
 |43=>.top
 |44=>.top
 |45=>.top
 |46=>.top
 |47=>.top
 |48=>.top
 |_=>.top
def nX:Nat->List Str
 |0=>["thing"]
 |1=>["names","thing"]
 |2=>["names","thing","deepest"]
 |3=>["saying"]
 |4=>["sayings"]
 |5=>["thing","fewest","most"]
 |6=>["foe","friend"]
 |7=>["names","things","most"]
 |8=>["names","saying"]
 |9=>["names","friend","things"]
 |10=>["thing"]
 |11=>["names","thing"]
 |12=>["names","things"]
 |13=>["promises","musts","wishes"]
 |14=>["thing"]
 |15=>["book"]
 |16=>["word","parts"]
 |17=>["word","remembered","parts"]
 |18=>["self","names","sayings"]
 |19=>["self","saying"]
 |20=>["self","saying"]
 |21=>["self","piece"]
 |22=>["self","memory","setting"]
 |23=>["self","held"]
 |24=>["self","book"]
 |25=>["self","held"]
 |26=>["self","held"]
 |27=>["self","held"]
 |28=>["thing","lamps"]
 |29=>["book","play"]
 |30=>["table","play","tell"]
 |31=>["kept"]
 |32=>["book","play"]
 |33=>["book","play"]
 |34=>["book","play"]
 |35=>["lamps"]
 |36=>["self","first"]
 |37=>["self","thing"]
 |38=>["book","rules","memory"]
 |39=>["book","rules","numbering","memory","foe"]
 |40=>["book"]
 |41=>["_law_script","_law_k"]
 |42=>["_law_script","_law_k","_law_many"]
 |43=>["_law_script","_law_m","_law_many"]
 |44=>["_law_script","_law_m"]
 |45=>["_law_script","_law_m","_law_names_here","_law_deep","_law_left"]
 |46=>["_law_script","_law_m","_law_foe","_law_names_here","_law_left"]
 |47=>["_law_script","_law_at","_law_pieces","_law_musts"]
 |48=>["_law_script"]
 |_=>[]
noncomputable def OU:Nat->Option Addr
 |32=>some 274
 |33=>some 281
 |_=>none
structure Zt (K:aa)(mg:Str->Option ae):Prop where
 b_isinstance:mg "isinstance" = none
 b_str:mg "str" = none
 b_len:mg "len" = none
 b_all:mg "all" = none
 b_tuple:mg "tuple" = none
 b_list:mg "list" = none
 b_reversed:mg "reversed" = none
 b_set:mg "set" = none
 b_any:mg "any" = none
 b_int:mg "int" = none
 b_bool:mg "bool" = none
 b_sum:mg "sum" = none
 b_range:mg "range" = none
 g_NO_NAMES:GC K mg "NO_NAMES" g_NO_NAMES
 g_LONGEST_NAME:GC K mg "LONGEST_NAME" g_LONGEST_NAME
 g_LETTERS:GC K mg "LETTERS" g_LETTERS
 g_DEEPEST:GC K mg "DEEPEST" g_DEEPEST
 g_SAYINGS_WITHIN:GC K mg "SAYINGS_WITHIN" g_SAYINGS_WITHIN
 g_PAST_WORDS:GC K mg "PAST_WORDS" g_PAST_WORDS
 g_MOST_LAMPS:GC K mg "MOST_LAMPS" g_MOST_LAMPS
 g_MOST_PROMISES:GC K mg "MOST_PROMISES" g_MOST_PROMISES
 g_HIGHEST_PRICE:GC K mg "HIGHEST_PRICE" g_HIGHEST_PRICE
 g_MOST_WISHES:GC K mg "MOST_WISHES" g_MOST_WISHES
 g_MOST_MUSTS:GC K mg "MOST_MUSTS" g_MOST_MUSTS
 g_MOST_PIECES:GC K mg "MOST_PIECES" g_MOST_PIECES
 c_Table:uJ K (W "Table")
 c_Rules:uJ K (W "Rules")
 c_Numbering:uJ K (W "Numbering")
 a_Table_names:qU K (W "Table") (W "names")
 a_Table_pieces:qU K (W "Table") (W "pieces")
 a_Table_rows:qU K (W "Table") (W "rows")
 a_Table_row_of:qU K (W "Table") (W "row_of")
 a_Table_first_memory:qU K (W "Table") (W "first_memory")
 a_Table_remembered_rows:qU K (W "Table") (W "remembered_rows")
 a_Rules_table:qU K (W "Rules") (W "table")
 a_Rules_promise_rows:qU K (W "Rules") (W "promise_rows")
 a_Rules_must_rows:qU K (W "Rules") (W "must_rows")
 a_Rules_priced_rows:qU K (W "Rules") (W "priced_rows")
 a_Numbering_met:qU K (W "Numbering") (W "met")
 a_Numbering_numbers_met:qU K (W "Numbering") (W "numbers_met")
section
variable {P:bu}{w:de}{K:aa}{mg:Str->Option ae}{base:Heap}
theorem vO {k:Nat}(T:FH K mg 49 rP gG nX cK oV)(IH:∀ i,i<49->fS P w K mg base dP (2*k) (T.a i) (T.fd i) (nX i) (gA K (aI G k) i)){X:Cx}(e1:X.prog=P)(e2:X.w=w)(e3:X.K=K)(e4:X.mg=mg)(e5:X.base=base)(hr:dC (2*k+1) X.A)(i:Nat)(h:l4 i 49=true)(ha:oV i=.top):oA X (aI G k) (rP i) i:=by
 subst e1 e2 e3 e4 e5
 have h:i<49:=Nat.ble_eq.mp h
 have q:=T.mg i h
 rw[ha]at q
 exact⟨2*k,T.a i,T.fd i,nX i,IH i h,hr.mono (by omega),q,(T.fn i h).kp,T.bi i h⟩
theorem wB {k:Nat}(T:FH K mg 49 rP gG nX cK oV)(IH:∀ i,i<49->fS P w K mg base dP (2*k) (T.a i) (T.fd i) (nX i) (gA K (aI G k) i)){X:Cx}(e1:X.prog=P)(e2:X.w=w)(e3:X.K=K)(e4:X.mg=mg)(e5:X.base=base)(hr:dC (2*k+1) X.A)(i:Nat)(c:List Nat)(h:l4 i 49=true)(ha:oV i=.cT c):qS X (aI G k) c (rP i) i:=by
 subst e1 e2 e3 e4 e5
 have h:i<49:=Nat.ble_eq.mp h
 have q:=T.mg i h
 rw[ha]at q
 obtain⟨C0,q1,q2,q3⟩:=q
 exact⟨2*k,T.a i,T.fd i,nX i,C0,IH i h,hr.mono (by omega),T.bi i h,q1,q2,q3⟩
theorem G3 {k:Nat}(T:FH K mg 49 rP gG nX cK oV)(IH:∀ i,i<49->fS P w K mg base dP (2*k) (T.a i) (T.fd i) (nX i) (gA K (aI G k) i)){X:Cx}(e1:X.prog=P)(e2:X.w=w)(e3:X.K=K)(e4:X.mg=mg)(e5:X.base=base)(hr:dC (2*k+1) X.A)(i:Nat)(c:List Nat)(h:l4 i 49=true)(ha:oV i=.init c){n:Str}(hn:n=⟨c.toArray⟩:=by kernel_rfl):zM X (aI G k) c n i:=by
 subst e1 e2 e3 e4 e5
 have h:i<49:=Nat.ble_eq.mp h
 have q:=T.mg i h
 rw[ha]at q
 obtain⟨C0,q1,q2,q3⟩:=q
 exact⟨2*k,T.a i,T.fd i,nX i,C0,IH i h,hr,T.bi i h,q1,by rw[hn];exact q2,q3⟩
noncomputable abbrev TT (K:aa)(mg:Str->Option ae):=FH K mg 49 rP gG nX cK oV
abbrev IT (P:bu)(w:de)(base:Heap)(T:TT K mg)(k:Nat):Prop:=∀ i,i<49->fS P w K mg base dP (2*k) (T.a i) (T.fd i) (nX i) (gA K (aI G k) i)
abbrev OT (P:bu)(w:de)(base:Heap)(T:TT K mg)(k i:Nat):Prop:=fS P w K mg base dP (2*k+1+1) (T.a i) (T.fd i) (nX i) (gA K (aI G (k+1)) i)
theorem dS (i:Nat){k:Nat}{fn:Fn}{N:List Str}(T:TT K mg)(IH:IT P w base T k)(hi:l4 i 49=true)(S:nN N (nX i) (aH (cK i)))(hG:G.fns i=some fn)(hp:fn.np=(nX i).length)(hl:fn.nl=N.length)
 (hb:∀(bG:ae)(A:cb)(outer:List Env)(s:ag)(H:Hp)(E:L2.XK)(hr:dC (2*k+1) (A.deeper (mi (gG i) (aH (cK i)) s.heap.objs.size (T.a i) bG)))(m:bZ (aI G k) (aI G k))(u:(A.deeper (mi (gG i) (aH (cK i)) s.heap.objs.size (T.a i) bG)).units+180<wy)
 (c:∀ j,l4 j 49=true->oV j=.top->oA (fI dP P w K mg base N (gG i) (aH (cK i)) (T.a i) bG A outer s H E).jG (aI G k) (rP j) j)(cm:∀ j c,l4 j 49=true->oV j=.cT c->qS (fI dP P w K mg base N (gG i) (aH (cK i)) (T.a i) bG A outer s H E).jG (aI G k) c (rP j) j)(ck:∀ j c,l4 j 49=true->oV j=.init c->∀{n:Str}(hn:n=⟨c.toArray⟩:=by kernel_rfl),zM (fI dP P w K mg base N (gG i) (aH (cK i)) (T.a i) bG A outer s H E).jG (aI G k) c n j)(nd:N.Nodup),
 vY (fI dP P w K mg base N (gG i) (aH (cK i)) (T.a i) bG A outer s H E).jG (aI G k) G.sub (fH (cK i)) fn.body):OT P w base T k i :=
 RQ (fn:=fn) (T.fn i (Nat.ble_eq.mp hi)) S hG hp hl fun bG A outer s H E hr=>hb bG A outer s H E hr (kC G (az k)) (DQ hr) (vO (X:=(fI dP P w K mg base N (gG i) (aH (cK i)) (T.a i) bG A outer s H E).jG) T IH rfl rfl rfl rfl rfl hr) (wB (X:=(fI dP P w K mg base N (gG i) (aH (cK i)) (T.a i) bG A outer s H E).jG) T IH rfl rfl rfl rfl rfl hr) (@G3 P w K mg base k T IH (fI dP P w K mg base N (gG i) (aH (cK i)) (T.a i) bG A outer s H E).jG rfl rfl rfl rfl rfl hr) S.nd
abbrev Jw (P:bu)(w:de)(K:aa)(mg:Str->Option ae)(base:Heap)(k:Nat):Prop:=∀ f Tx,LT f=some Tx->oJ P w K mg base (2*k) (aI G k) f
theorem Px (i:Nat){k:Nat}{fn:Fn}{N:List Str}(T:TT K mg)(IH:IT P w base T k)(IL:Jw P w K mg base k)(hi:l4 i 49=true)(S:nN N (nX i) (aH (cK i)))(hG:G.fns i=some fn)(hp:fn.np=(nX i).length)(hl:fn.nl=N.length)
 (hb:∀(bG:ae)(A:cb)(outer:List Env)(s:ag)(H:Hp)(E:L2.XK)(hr:dC (2*k+1) (A.deeper (mi (gG i) (aH (cK i)) s.heap.objs.size (T.a i) bG)))(m:bZ (aI G k) (aI G k))(u:(A.deeper (mi (gG i) (aH (cK i)) s.heap.objs.size (T.a i) bG)).units+180<wy)
 (c:∀ j,l4 j 49=true->oV j=.top->oA (fI dP P w K mg base N (gG i) (aH (cK i)) (T.a i) bG A outer s H E).jG (aI G k) (rP j) j)(cm:∀ j c,l4 j 49=true->oV j=.cT c->qS (fI dP P w K mg base N (gG i) (aH (cK i)) (T.a i) bG A outer s H E).jG (aI G k) c (rP j) j)(ck:∀ j c,l4 j 49=true->oV j=.init c->∀{n:Str}(hn:n=⟨c.toArray⟩:=by kernel_rfl),zM (fI dP P w K mg base N (gG i) (aH (cK i)) (T.a i) bG A outer s H E).jG (aI G k) c n j)(nd:N.Nodup)(L:UT (fI dP P w K mg base N (gG i) (aH (cK i)) (T.a i) bG A outer s H E).jG (aI G k)),
 vY (fI dP P w K mg base N (gG i) (aH (cK i)) (T.a i) bG A outer s H E).jG (aI G k) G.sub (fH (cK i)) fn.body):OT P w base T k i :=
 RQ (fn:=fn) (T.fn i (Nat.ble_eq.mp hi)) S hG hp hl fun bG A outer s H E hr=>hb bG A outer s H E hr (kC G (az k)) (DQ hr) (vO (X:=(fI dP P w K mg base N (gG i) (aH (cK i)) (T.a i) bG A outer s H E).jG) T IH rfl rfl rfl rfl rfl hr) (wB (X:=(fI dP P w K mg base N (gG i) (aH (cK i)) (T.a i) bG A outer s H E).jG) T IH rfl rfl rfl rfl rfl hr) (@G3 P w K mg base k T IH (fI dP P w K mg base N (gG i) (aH (cK i)) (T.a i) bG A outer s H E).jG rfl rfl rfl rfl rfl hr) S.nd ⟨2*k,IL,hr.mono (by omega)⟩
theorem Hk (i:Nat){k:Nat}{fn:Fn}{N:List Str}(T:TT K mg)(IH:IT P w base T k){cc:Addr}(hcd:(T.fd i).code=.ref cc)(hi:l4 i 49=true)(S:nN N (nX i) (aH (cK i)))(hG:G.fns i=some fn)(hp:fn.np=(nX i).length)(hl:fn.nl=N.length)
 (hb:∀(A:cb)(outer:List Env)(s:ag)(H:Hp)(E:L2.XK)(hr:dC (2*k+1) (A.deeper (mi (gG i) (aH (cK i)) s.heap.objs.size (T.a i) (.ref cc))))(m:bZ (aI G k) (aI G k))(u:(A.deeper (mi (gG i) (aH (cK i)) s.heap.objs.size (T.a i) (.ref cc))).units+180<wy)
 (c:∀ j,l4 j 49=true->oV j=.top->oA (fI dP P w K mg base N (gG i) (aH (cK i)) (T.a i) (.ref cc) A outer s H E).jG (aI G k) (rP j) j)(cm:∀ j c,l4 j 49=true->oV j=.cT c->qS (fI dP P w K mg base N (gG i) (aH (cK i)) (T.a i) (.ref cc) A outer s H E).jG (aI G k) c (rP j) j)(ck:∀ j c,l4 j 49=true->oV j=.init c->∀{n:Str}(hn:n=⟨c.toArray⟩:=by kernel_rfl),zM (fI dP P w K mg base N (gG i) (aH (cK i)) (T.a i) (.ref cc) A outer s H E).jG (aI G k) c n j)(nd:N.Nodup),
 vY (fI dP P w K mg base N (gG i) (aH (cK i)) (T.a i) (.ref cc) A outer s H E).jG (aI G k) G.sub (fH (cK i)) fn.body):OT P w base T k i :=
 Fj (fn:=fn) (T.fn i (Nat.ble_eq.mp hi)) hcd S hG hp hl fun A outer s H E hr=>hb A outer s H E hr (kC G (az k)) (DQ hr) (vO (X:=(fI dP P w K mg base N (gG i) (aH (cK i)) (T.a i) (.ref cc) A outer s H E).jG) T IH rfl rfl rfl rfl rfl hr) (wB (X:=(fI dP P w K mg base N (gG i) (aH (cK i)) (T.a i) (.ref cc) A outer s H E).jG) T IH rfl rfl rfl rfl rfl hr) (@G3 P w K mg base k T IH (fI dP P w K mg base N (gG i) (aH (cK i)) (T.a i) (.ref cc) A outer s H E).jG rfl rfl rfl rfl rfl hr) S.nd
section
variable {k:Nat}(T:TT K mg)(Z:Zt K mg)(IH:IT P w base T k)
include T Z IH
theorem Qd:OT P w base T k 0 :=
 dS 0 (fn:=IC) (N:=["thing"]) T IH rfl ⟨rfl,rfl,rfl,by decide +kernel,rfl,by decide +kernel,by decide +kernel⟩ rfl rfl rfl fun bG A outer s H E hr m u c cm ck nd=>by
 exact(cc (fJ m (zC (zN m (wG (tp (E9 (t:=.str) U5 Z.b_isinstance Z.b_str (jv 0)))) (zA (fD (o:=.in_) u (jv 0) (jg Z.g_NO_NAMES))))) (cc (cI m jb)
 c0) c0)
 (cc (cI m (oN (Gq (o:=.le) (o':=.le) u ji (eE cU dZ Z.b_len (ja (jv 0) an)) (jg Z.g_LONGEST_NAME)) (oE (eE (jF hr.hd) oW Z.b_all (ja (mJ m (own:=["sign"]) (cn:=[]) (aJ:=[]) (one:=true) (jX (on:=(aH (cK 0)).names) (N:=["thing"]) (by decide +kernel)) (iv (jv 0)) (fun _ _ _ _=>(b1 (gn (show(["sign"]:List Str).Nodup by decide +kernel)))) (fun _ _ _ _=>qn) (fun _ _ _ _=>(zB (o:=.in_) u (jv 0) (jg Z.g_LETTERS)))) an)))))
 c0))
theorem Rr:OT P w base T k 1 :=
 dS 1 (fn:=B6) (N:=["names","thing"]) T IH rfl ⟨rfl,rfl,rfl,by decide +kernel,rfl,by decide +kernel,by decide +kernel⟩ rfl rfl rfl fun bG A outer s H E hr m u c cm ck nd=>by
 exact(cc (cI m (cC (c 2 rfl rfl) (ja (jv 0) (ja (jv 1) (ja (jg Z.g_DEEPEST) an)))))
 c0)
noncomputable abbrev N2:List Str:=["names","thing","deepest"]
theorem Se:OT P w base T k 2 :=
 dS 2 (fn:=qB) (N:=N2) T IH rfl ⟨rfl,rfl,rfl,by decide +kernel,rfl,by decide +kernel,by decide +kernel⟩ rfl rfl rfl fun bG A outer s H E hr m u c cm ck nd=>by
 exact(cc (fJ m (zC (zN m (fD (o:=.lt) u (cD 2) ji) (zN m (wG (tp (E9 (t:=.tuple) gW Z.b_isinstance Z.b_tuple (jv 1)))) (zN m (fD (o:=.lt) u (eE cU dZ Z.b_len (ja (jv 1) an)) ji) (zA (wG (tp (E9 (t:=.str) U5 Z.b_isinstance Z.b_str (bU (jv 1) ji))))))))) (cc (cI m jb)
 c0) c0)
 (cc (fJ m (fD (o:=.eq) u (bU (jv 1) ji) js) (cc (cI m (oN (zB (o:=.eq) u (eE cU dZ Z.b_len (ja (jv 1) an)) ji) (oN (cC (c 0 rfl rfl) (ja (bU (jv 1) ji) an)) (oE (zB (o:=.in_) u (bU (jv 1) ji) (cD 0))))))
 c0) c0)
 (cc (fJ m (zC (zN m (fD (o:=.kX) u (bU (jv 1) ji) (jg Z.g_SAYINGS_WITHIN)) (zA (fD (o:=.ne) u (eE cU dZ Z.b_len (ja (jv 1) an)) (dB (op:=.add) ji (bU (jg Z.g_SAYINGS_WITHIN) (bU (jv 1) ji))))))) (cc (cI m jb)
 c0) c0)
 (cc (cI m (eE (jF hr.hd) oW Z.b_all (ja (mJ m (own:=["part"]) (cn:=["names","deepest"]) (aJ:=[0,2]) (one:=true) (jX (on:=(aH (cK 2)).names) (N:=N2) (by decide +kernel)) (iv (OC (jv 1) (os ji) on)) (fun _ _ _ _=>(b1 (gn (show(["part","names","deepest"]:List Str).Nodup by decide +kernel)))) (fun _ _ _ _=>qn) (fun _ _ _ _=>(cC ((c 2 rfl rfl).wI) (ja (cD 1) (ja (jv 0) (ja (dB (op:=.sub) (cD 2) ji) an)))))) an)))
 c0))))
theorem Sg:OT P w base T k 3 :=
 dS 3 (fn:=tH) (N:=["saying"]) T IH rfl ⟨rfl,rfl,rfl,by decide +kernel,rfl,by decide +kernel,by decide +kernel⟩ rfl rfl rfl fun bG A outer s H E hr m u c cm ck nd=>by
 exact(cc (fJ m (fD (o:=.eq) u (bU (jv 0) ji) js) (cc (cI m (jt m an))
 c0) c0)
 (cc (cI m (OC (jv 0) (os ji) on))
 c0))
theorem Pz:OT P w base T k 4 :=
 dS 4 (fn:=CO) (N:=["sayings","pieces","ahead","saying"]) T IH rfl ⟨rfl,rfl,rfl,by decide +kernel,rfl,by decide +kernel,by decide +kernel⟩ rfl rfl rfl fun bG A outer s H E hr m u c cm ck nd=>by
 exact(cc (sn (i:=1) m nd (jl an))
 (cc (sn (i:=2) m nd (Pt Z.b_list Z.b_reversed (ja (jv 0) an)))
 (cc (sw m (tp (jv 2)) (cc (sn (i:=3) m nd (Te (jv 2) ))
 (cc (fJ m (zC (Fb m (fD (o:=.in_) u (bU (jv 3) ji) (jg Z.g_PAST_WORDS)) (zA (fD (o:=.kX) u (jv 3) (jv 1))))) (cc (sx m (sJ (jv 1) (ja (jv 3) an)))
 c0) c0)
 (cc (sx m (Tp (jv 2) (ja (Pt Z.b_list Z.b_reversed (ja (cC (c 3 rfl rfl) (ja (jv 3) an)) an)) an)))
 c0))))
 (cc (cI m (jv 1))
 c0))))
theorem Qm:OT P w base T k 5 :=
 dS 5 (fn:=L4) (N:=["thing","fewest","most"]) T IH rfl ⟨rfl,rfl,rfl,by decide +kernel,rfl,by decide +kernel,by decide +kernel⟩ rfl rfl rfl fun bG A outer s H E hr m u c cm ck nd=>by
 exact(cc (cI m (oN (E9 (t:=.tuple) gW Z.b_isinstance Z.b_tuple (jv 0)) (oE (Gq (o:=.le) (o':=.le) u (jv 1) (eE cU dZ Z.b_len (ja (jv 0) an)) (jv 2)))))
 c0)
noncomputable abbrev N6:List Str:=["foe","friend","names"]
theorem Sk:OT P w base T k 6 :=
 dS 6 (fn:=B9) (N:=N6) T IH rfl ⟨rfl,rfl,rfl,by decide +kernel,rfl,by decide +kernel,by decide +kernel⟩ rfl rfl rfl fun bG A outer s H E hr m u c cm ck nd=>by
 exact(cc (fJ m (zC (zN m (wG (tp (cC (c 5 rfl rfl) (ja (jv 0) (ja ji (ja (jg Z.g_MOST_LAMPS) an)))))) (zA (wG (tp (cC (c 5 rfl rfl) (ja (jv 1) (ja ji (ja (jg Z.g_MOST_LAMPS) an))))))))) (cc (cI m jb)
 c0) c0)
 (cc (sn (i:=2) m nd (dB (op:=.add) (jv 0) (jv 1)))
 (cc (cI m (oN (eE (jF hr.hd) oW Z.b_all (ja (mJ m (own:=["name"]) (cn:=[]) (aJ:=[]) (one:=true) (jX (on:=(aH (cK 6)).names) (N:=N6) (by decide +kernel)) (iv (jv 2)) (fun _ _ _ _=>(b1 (gn (show(["name"]:List Str).Nodup by decide +kernel)))) (fun _ _ _ _=>qn) (fun _ _ _ _=>(cC ((c 0 rfl rfl).wI) (ja (jv 0) an)))) an)) (oE (zB (o:=.eq) u (Tc Z.b_len Z.b_set (ja (jv 2) an)) (eE cU dZ Z.b_len (ja (jv 2) an))))))
 c0)))
noncomputable abbrev N7:List Str:=["names","things","most"]
theorem Si:OT P w base T k 7 :=
 dS 7 (fn:=yP) (N:=N7) T IH rfl ⟨rfl,rfl,rfl,by decide +kernel,rfl,by decide +kernel,by decide +kernel⟩ rfl rfl rfl fun bG A outer s H E hr m u c cm ck nd=>by
 exact(cc (cI m (oN (cC (c 5 rfl rfl) (ja (jv 1) (ja ji (ja (jv 2) an)))) (oE (eE (jF hr.hd) oW Z.b_all (ja (mJ m (own:=["thing"]) (cn:=["names"]) (aJ:=[0]) (one:=true) (jX (on:=(aH (cK 7)).names) (N:=N7) (by decide +kernel)) (iv (jv 1)) (fun _ _ _ _=>(b1 (gn (show(["thing","names"]:List Str).Nodup by decide +kernel)))) (fun _ _ _ _=>qn) (fun _ _ _ _=>(cC ((c 1 rfl rfl).wI) (ja (cD 1) (ja (jv 0) an))))) an)))))
 c0)
theorem Qr:OT P w base T k 8 :=
 dS 8 (fn:=yM) (N:=["names","saying"]) T IH rfl ⟨rfl,rfl,rfl,by decide +kernel,rfl,by decide +kernel,by decide +kernel⟩ rfl rfl rfl fun bG A outer s H E hr m u c cm ck nd=>by
 exact(cc (fJ m (fD (o:=.eq) u (bU (jv 1) ji) js) (cc (cI m jb)
 c0) c0)
 (cc (fJ m (fD (o:=.eq) u (bU (jv 1) ji) js) (cc (cI m (zB (o:=.in_) u (bU (jv 1) ji) (cD 0)))
 c0) c0)
 (cc (cI m (eE (HC hr.hd) UA Z.b_any (ja (mJ m (own:=["part"]) (cn:=["names"]) (aJ:=[0]) (one:=true) (jX (on:=(aH (cK 8)).names) (N:=["names","saying"]) (by decide +kernel)) (iv (cC (c 3 rfl rfl) (ja (jv 1) an))) (fun _ _ _ _=>(b1 (gn (show(["part","names"]:List Str).Nodup by decide +kernel)))) (fun _ _ _ _=>qn) (fun _ _ _ _=>(cC ((c 8 rfl rfl).wI) (ja (cD 1) (ja (jv 0) an))))) an)))
 c0)))
noncomputable abbrev N9:List Str:=["names","friend","things"]
theorem Rj:OT P w base T k 9 :=
 dS 9 (fn:=wJ) (N:=N9) T IH rfl ⟨rfl,rfl,rfl,by decide +kernel,rfl,by decide +kernel,by decide +kernel⟩ rfl rfl rfl fun bG A outer s H E hr m u c cm ck nd=>by
 exact(cc (cI m (oN (cC (c 7 rfl rfl) (ja (jv 0) (ja (jv 2) (ja (jg Z.g_MOST_PROMISES) an)))) (oE (Y2 (eE (HC hr.hd) UA Z.b_any (ja (mJ m (own:=["thing"]) (cn:=["friend"]) (aJ:=[1]) (one:=true) (jX (on:=(aH (cK 9)).names) (N:=N9) (by decide +kernel)) (iv (jv 2)) (fun _ _ _ _=>(b1 (gn (show(["thing","friend"]:List Str).Nodup by decide +kernel)))) (fun _ _ _ _=>qn) (fun _ _ _ _=>(cC ((c 8 rfl rfl).wI) (ja (cD 1) (ja (jv 0) an))))) an))))))
 c0)
theorem Of:OT P w base T k 10 :=
 dS 10 (fn:=DO) (N:=["thing"]) T IH rfl ⟨rfl,rfl,rfl,by decide +kernel,rfl,by decide +kernel,by decide +kernel⟩ rfl rfl rfl fun bG A outer s H E hr m u c cm ck nd=>by
 exact(cc (cI m (oN (E9 (t:=.int) Ey Z.b_isinstance Z.b_int (jv 0)) (oN (Y2 (E9 (t:=.bool) NZ Z.b_isinstance Z.b_bool (jv 0))) (oE (Gq (o:=.le) (o':=.le) u ji (jv 0) (jg Z.g_HIGHEST_PRICE))))))
 c0)
theorem Ng:OT P w base T k 11 :=
 dS 11 (fn:=G9) (N:=["names","thing"]) T IH rfl ⟨rfl,rfl,rfl,by decide +kernel,rfl,by decide +kernel,by decide +kernel⟩ rfl rfl rfl fun bG A outer s H E hr m u c cm ck nd=>by
 exact(cc (cI m (oN (cC (c 5 rfl rfl) (ja (jv 1) (ja ji (ja ji an)))) (oN (cC (c 10 rfl rfl) (ja (bU (jv 1) ji) an)) (oE (cC (c 1 rfl rfl) (ja (jv 0) (ja (bU (jv 1) ji) an)))))))
 c0)
theorem Ou:OT P w base T k 12 :=
 dS 12 (fn:=AG) (N:=["names","things"]) T IH rfl ⟨rfl,rfl,rfl,by decide +kernel,rfl,by decide +kernel,by decide +kernel⟩ rfl rfl rfl fun bG A outer s H E hr m u c cm ck nd=>by
 exact(cc (cI m (oN (cC (c 5 rfl rfl) (ja (jv 1) (ja ji (ja (jg Z.g_MOST_WISHES) an)))) (oE (eE (jF hr.hd) oW Z.b_all (ja (mJ m (own:=["thing"]) (cn:=["names"]) (aJ:=[0]) (one:=true) (jX (on:=(aH (cK 12)).names) (N:=["names","things"]) (by decide +kernel)) (iv (jv 1)) (fun _ _ _ _=>(b1 (gn (show(["thing","names"]:List Str).Nodup by decide +kernel)))) (fun _ _ _ _=>qn) (fun _ _ _ _=>(cC ((c 11 rfl rfl).wI) (ja (cD 1) (ja (jv 0) an))))) an)))))
 c0)
noncomputable abbrev Pj:List Str:=["promises","musts","wishes"]
theorem Lo:OT P w base T k 13 :=
 dS 13 (fn:=zI) (N:=Pj) T IH rfl ⟨rfl,rfl,rfl,by decide +kernel,rfl,by decide +kernel,by decide +kernel⟩ rfl rfl rfl fun bG A outer s H E hr m u c cm ck nd=>by
 exact(cc (cI m (dB (op:=.add) (dB (op:=.add) (sN EI BD Z.b_list (ja (jv 0) an)) (sN EI BD Z.b_list (ja (jv 1) an))) (mJ m (own:=["wish"]) (cn:=[]) (aJ:=[]) (one:=true) (jX (on:=(aH (cK 13)).names) (N:=Pj) (by decide +kernel)) (iv (jv 2)) (fun _ _ _ _=>(b1 (gn (show(["wish"]:List Str).Nodup by decide +kernel)))) (fun _ _ _ _=>qn) (fun _ _ _ _=>(bU (jv 0) ji)))))
 c0)
theorem Lm:OT P w base T k 14 :=
 dS 14 (fn:=IM) (N:=["thing","friend","names","promises","musts","wishes"]) T IH rfl ⟨rfl,rfl,rfl,by decide +kernel,rfl,by decide +kernel,by decide +kernel⟩ rfl rfl rfl fun bG A outer s H E hr m u c cm ck nd=>by
 exact(cc (fJ m (zC (zN m (wG (tp (cC (c 5 rfl rfl) (ja (jv 0) (ja ji (ja ji an)))))) (zA (wG (tp (cC (c 6 rfl rfl) (ja (bU (jv 0) ji) (ja (bU (jv 0) ji) an)))))))) (cc (cI m jb)
 c0) c0)
 (cc (sn (i:=1) m nd (bU (jv 0) ji))
 (cc (sn (i:=2) m nd (dB (op:=.add) (bU (jv 0) ji) (jv 1)))
 (cc (sn (i:=3) m nd (bU (jv 0) ji))
 (cc (sn (i:=4) m nd (bU (jv 0) ji))
 (cc (sn (i:=5) m nd (bU (jv 0) ji))
 (cc (fJ m (zC (zN m (wG (tp (cC (c 9 rfl rfl) (ja (jv 2) (ja (jv 1) (ja (jv 3) an)))))) (zA (wG (tp (cC (c 7 rfl rfl) (ja (jv 2) (ja (jv 4) (ja (jg Z.g_MOST_MUSTS) an))))))))) (cc (cI m jb)
 c0) c0)
 (cc (cI m (oN (cC (c 12 rfl rfl) (ja (jv 2) (ja (jv 5) an))) (oE (zB (o:=.le) u (eE cU dZ Z.b_len (ja (cC (c 4 rfl rfl) (ja (cC (c 13 rfl rfl) (ja (jv 3) (ja (jv 4) (ja (jv 5) an)))) an)) an)) (jg Z.g_MOST_PIECES)))))
 c0))))))))
theorem Na:OT P w base T k 15 :=
 dS 15 (fn:=HA) (N:=["book"]) T IH rfl ⟨rfl,rfl,rfl,by decide +kernel,rfl,by decide +kernel,by decide +kernel⟩ rfl rfl rfl fun bG A outer s H E hr m u c cm ck nd=>by
 exact(cc (fJ m (wG (tp (cC (c 14 rfl rfl) (ja (jv 0) an)))) (cc (Pp m)
 c0) c0)
 (cc (cI m (jv 0))
 c0))
theorem Lb:OT P w base T k 16 :=
 dS 16 (fn:=B7) (N:=["word","parts"]) T IH rfl ⟨rfl,rfl,rfl,by decide +kernel,rfl,by decide +kernel,by decide +kernel⟩ rfl rfl rfl fun bG A outer s H E hr m u c cm ck nd=>by
 exact(cc (fJ m (fD (o:=.eq) u (jv 0) js) (cc (cI m (Y2 (bU (jv 1) ji)))
 c0) c0)
 (cc (fJ m (fD (o:=.eq) u (jv 0) js) (cc (cI m (oN (bU (jv 1) ji) (oE (bU (jv 1) ji))))
 c0) c0)
 (cc (fJ m (fD (o:=.eq) u (jv 0) js) (cc (cI m (Y3 (bU (jv 1) ji) (oE (bU (jv 1) ji))))
 c0) c0)
 (cc (fJ m (fD (o:=.eq) u (jv 0) js) (cc (cI m (Y3 (bU (jv 1) ji) (oE (Y2 (bU (jv 1) ji)))))
 c0) c0)
 (cc (fJ m (fD (o:=.eq) u (jv 0) js) (cc (cI m (zB (o:=.eq) u (bU (jv 1) ji) (bU (jv 1) ji)))
 c0) c0)
 (cc (cI m (zB (o:=.eq) u (jv 0) js))
 c0))))))
theorem Nj:OT P w base T k 17 :=
 dS 17 (fn:=AH) (N:=["word","remembered","parts"]) T IH rfl ⟨rfl,rfl,rfl,by decide +kernel,rfl,by decide +kernel,by decide +kernel⟩ rfl rfl rfl fun bG A outer s H E hr m u c cm ck nd=>by
 exact(cc (fJ m (fD (o:=.eq) u (jv 0) js) (cc (cI m (jv 1))
 c0) c0)
 (cc (fJ m (fD (o:=.eq) u (jv 0) js) (cc (cI m (Y3 (jv 1) (oE (bU (jv 2) ji))))
 c0) c0)
 (cc (fJ m (fD (o:=.eq) u (jv 0) js) (cc (cI m (oN (jv 1) (oE (bU (jv 2) ji))))
 c0) c0)
 (cc (cI m (Y3 (bU (jv 2) ji) (oE (oN (jv 1) (oE (bU (jv 2) ji))))))
 c0))))
noncomputable abbrev Dn:List Str:=["self","names","sayings","saying"]
theorem Kw:OT P w base T k 18 :=
 dS 18 (fn:=tI) (N:=Dn) T IH rfl ⟨rfl,rfl,rfl,by decide +kernel,rfl,by decide +kernel,by decide +kernel⟩ rfl rfl rfl fun bG A outer s H E hr m u c cm ck nd=>by
 exact(cc (yU m (W "Table") Z.c_Table Z.a_Table_names (cD 0) (jv 1))
 (cc (yU m (W "Table") Z.c_Table Z.a_Table_pieces (cD 0) (cC (c 4 rfl rfl) (ja (jv 2) an)))
 (cc (yU m (W "Table") Z.c_Table Z.a_Table_rows (cD 0) (jl an))
 (cc (yU m (W "Table") Z.c_Table Z.a_Table_row_of (cD 0) Tf)
 (cc (B5 (i:=3) m nd (iv (jv 2)) (cc (sx m (pE (mm:=W "enter") (cm 19 (W "Table") rfl rfl) (cD 0) (ja (jv 3) an)))
 c0))
 (cc (yU m (W "Table") Z.c_Table Z.a_Table_first_memory (cD 0) (sN gI gW Z.b_tuple (ja (mJ m (own:=["piece"]) (cn:=[]) (aJ:=[]) (one:=true) (jX (on:=(aH (cK 18)).names) (N:=Dn) (by decide +kernel)) (iv (fO (W "Table") Z.c_Table Z.a_Table_pieces (cD 0))) (fun _ _ _ _=>(b1 (gn (show(["piece"]:List Str).Nodup by decide +kernel)))) (fun _ _ _ _=>qn) (fun _ _ _ _=>(zB (o:=.eq) u (bU (jv 0) ji) js))) an)))
 (cc (yU m (W "Table") Z.c_Table Z.a_Table_remembered_rows (cD 0) (mJ m (own:=["piece"]) (cn:=["self"]) (aJ:=[0]) (one:=true) (jX (on:=(aH (cK 18)).names) (N:=Dn) (by decide +kernel)) (iv (fO (W "Table") Z.c_Table Z.a_Table_pieces (cD 0))) (fun _ _ _ _=>(b1 (gn (show(["piece", "self"]:List Str).Nodup by decide +kernel)))) (fun _ _ _ _=>qn) (fun _ _ _ _=>(pE (mm:=W "remembered_row") ((cm 21 (W "Table") rfl rfl).wI) (cD 1) (ja (jv 0) an)))))
 c0)))))))
noncomputable abbrev Pf:List Str:=["self","saying","part","parts"]
theorem Ls:OT P w base T k 19 :=
 dS 19 (fn:=yZ) (N:=Pf) T IH rfl ⟨rfl,rfl,rfl,by decide +kernel,rfl,by decide +kernel,by decide +kernel⟩ rfl rfl rfl fun bG A outer s H E hr m u c cm ck nd=>by
 exact(cc (fJ m (Tt u (jv 1) (fO (W "Table") Z.c_Table Z.a_Table_row_of (cD 0))) (cc Tv
 c0) c0)
 (cc (B5 (i:=2) m nd (iv (cC (c 3 rfl rfl) (ja (jv 1) an))) (cc (sx m (pE (mm:=W "enter") (cm 19 (W "Table") rfl rfl) (cD 0) (ja (jv 2) an)))
 c0))
 (cc (R6 (i:=3) m nd (own:=["part"]) (cn:=["self"]) (aJ:=[0]) (one:=true) (jX (on:=(aH (cK 19)).names) (N:=Pf) (by decide +kernel)) (iv (cC (c 3 rfl rfl) (ja (jv 1) an))) (fun _ _ _ _=>(b1 (gn (show(["part","self"]:List Str).Nodup by decide +kernel)))) (fun _ _ _ _=>qn) (fun _ _ _ _=>(MR u (fO (W "Table") Z.c_Table Z.a_Table_row_of (cD 1)) (jv 0))))
 (cc (Pm m u (fO (W "Table") Z.c_Table Z.a_Table_row_of (cD 0)) (jv 1) (eE cU dZ Z.b_len (ja (fO (W "Table") Z.c_Table Z.a_Table_rows (cD 0)) an)))
 (cc (sx m (sJ (fO (W "Table") Z.c_Table Z.a_Table_rows (cD 0)) (ja (jt m (ja (bU (jv 1) ji) (ja (pE (mm:=W "place_of") (cm 20 (W "Table") rfl rfl) (cD 0) (ja (jv 1) an)) (ja (jv 3) an)))) an)))
 c0)))))
theorem Nh:OT P w base T k 20 :=
 dS 20 (fn:=sY) (N:=["self","saying"]) T IH rfl ⟨rfl,rfl,rfl,by decide +kernel,rfl,by decide +kernel,by decide +kernel⟩ rfl rfl rfl fun bG A outer s H E hr m u c cm ck nd=>by
 exact(cc (fJ m (fD (o:=.eq) u (bU (jv 1) ji) js) (cc (cI m (WD m u (fO (W "Table") Z.c_Table Z.a_Table_names (jv 0)) (ja (bU (jv 1) ji) an)))
 c0) c0)
 (cc (fJ m (fD (o:=.in_) u (bU (jv 1) ji) (jg Z.g_PAST_WORDS)) (cc (cI m (WD m u (fO (W "Table") Z.c_Table Z.a_Table_pieces (jv 0)) (ja (jv 1) an)))
 c0) c0)
 (cc (cI m jn)
 c0)))
theorem Km:OT P w base T k 21 :=
 dS 21 (fn:=mT) (N:=["self","piece"]) T IH rfl ⟨rfl,rfl,rfl,by decide +kernel,rfl,by decide +kernel,by decide +kernel⟩ rfl rfl rfl fun bG A outer s H E hr m u c cm ck nd=>by
 exact(cc (fJ m (fD (o:=.eq) u (bU (jv 1) ji) js) (cc (cI m (MR u (fO (W "Table") Z.c_Table Z.a_Table_row_of (jv 0)) (bU (jv 1) ji)))
 c0) c0)
 (cc (cI m (MR u (fO (W "Table") Z.c_Table Z.a_Table_row_of (jv 0)) (jv 1)))
 c0))
noncomputable abbrev Pl:List Str:=["self","memory","setting","held","word","place","part_rows","parts"]
theorem Mt:OT P w base T k 22 :=
 dS 22 (fn:=tX) (N:=Pl) T IH rfl ⟨rfl,rfl,rfl,by decide +kernel,rfl,by decide +kernel,by decide +kernel⟩ rfl rfl rfl fun bG A outer s H E hr m u c cm ck nd=>by
 exact(cc (IQ (i:=3) m nd (jl an))
 (cc (sf m (iv (fO (W "Table") Z.c_Table Z.a_Table_rows (jv 0))) (gt (gc (gn (i:=4) nd) (gc (gn (i:=5) nd) (gc (gn (i:=6) nd) nn)))) (cc (R6 (i:=7) m nd (own:=["row"]) (cn:=["held"]) (aJ:=[3]) (one:=true) (jX (on:=(aH (cK 22)).names) (N:=Pl) (by decide +kernel)) (iv (jv 6)) (fun _ _ _ _=>(b1 (gn (show(["row","held"]:List Str).Nodup by decide +kernel)))) (fun _ _ _ _=>qn) (fun _ _ _ _=>(bU (cD 1) (jv 0))))
 (cc (fJ m (fD (o:=.eq) u (jv 4) js) (cc (sx m (sJ (cD 3) (ja (bU (jv 2) (jv 5)) an)))
 c0) (cc (fJ m (fD (o:=.in_) u (jv 4) (jg Z.g_PAST_WORDS)) (cc (sx m (sJ (cD 3) (ja (cC (c 17 rfl rfl) (ja (jv 4) (ja (bU (jv 1) (jv 5)) (ja (jv 7) an)))) an)))
 c0) (cc (sx m (sJ (cD 3) (ja (cC (c 16 rfl rfl) (ja (jv 4) (ja (jv 7) an))) an)))
 c0))
 c0))
 c0)))
 (cc (cI m (cD 3))
 c0)))
theorem Nc:OT P w base T k 23 :=
 dS 23 (fn:=nV) (N:=["self","held"]) T IH rfl ⟨rfl,rfl,rfl,by decide +kernel,rfl,by decide +kernel,by decide +kernel⟩ rfl rfl rfl fun bG A outer s H E hr m u c cm ck nd=>by
 exact(cc (cI m (sN gI gW Z.b_tuple (ja (mJ m (own:=["row"]) (cn:=["held"]) (aJ:=[1]) (one:=true) (jX (on:=(aH (cK 23)).names) (N:=["self", "held"]) (by decide +kernel)) (iv (fO (W "Table") Z.c_Table Z.a_Table_remembered_rows (jv 0))) (fun _ _ _ _=>(b1 (gn (show(["row","held"]:List Str).Nodup by decide +kernel)))) (fun _ _ _ _=>qn) (fun _ _ _ _=>(bU (cD 1) (jv 0)))) an)))
 c0)
theorem Kt:OT P w base T k 24 :=
 dS 24 (fn:=sV) (N:=["self","book"]) T IH rfl ⟨rfl,rfl,rfl,by decide +kernel,rfl,by decide +kernel,by decide +kernel⟩ rfl rfl rfl fun bG A outer s H E hr m u c cm ck nd=>by
 exact(cc (yU m (W "Rules") Z.c_Rules Z.a_Rules_table (cD 0) (N8 (ck 18 (W "Table") rfl rfl) (ja (dB (op:=.add) (bU (jv 1) ji) (bU (jv 1) ji)) (ja (cC (c 13 rfl rfl) (ja (bU (jv 1) ji) (ja (bU (jv 1) ji) (ja (bU (jv 1) ji) an)))) an))))
 (cc (yU m (W "Rules") Z.c_Rules Z.a_Rules_promise_rows (cD 0) (mJ m (own:=["saying"]) (cn:=["self"]) (aJ:=[0]) (one:=true) (jX (on:=(aH (cK 24)).names) (N:=["self", "book"]) (by decide +kernel)) (iv (bU (jv 1) ji)) (fun _ _ _ _=>(b1 (gn (show(["saying", "self"]:List Str).Nodup by decide +kernel)))) (fun _ _ _ _=>qn) (fun _ _ _ _=>(MR u (fO (W "Table") Z.c_Table Z.a_Table_row_of (fO (W "Rules") Z.c_Rules Z.a_Rules_table (cD 1))) (jv 0)))))
 (cc (yU m (W "Rules") Z.c_Rules Z.a_Rules_must_rows (cD 0) (mJ m (own:=["saying"]) (cn:=["self"]) (aJ:=[0]) (one:=true) (jX (on:=(aH (cK 24)).names) (N:=["self", "book"]) (by decide +kernel)) (iv (bU (jv 1) ji)) (fun _ _ _ _=>(b1 (gn (show(["saying", "self"]:List Str).Nodup by decide +kernel)))) (fun _ _ _ _=>qn) (fun _ _ _ _=>(MR u (fO (W "Table") Z.c_Table Z.a_Table_row_of (fO (W "Rules") Z.c_Rules Z.a_Rules_table (cD 1))) (jv 0)))))
 (cc (yU m (W "Rules") Z.c_Rules Z.a_Rules_priced_rows (cD 0) (mJ m (own:=["wish"]) (cn:=["self"]) (aJ:=[0]) (one:=true) (jX (on:=(aH (cK 24)).names) (N:=["self", "book"]) (by decide +kernel)) (iv (bU (jv 1) ji)) (fun _ _ _ _=>(b1 (gn (show(["wish", "self"]:List Str).Nodup by decide +kernel)))) (fun _ _ _ _=>qn) (fun _ _ _ _=>(jt m (ja (bU (jv 0) ji) (ja (MR u (fO (W "Table") Z.c_Table Z.a_Table_row_of (fO (W "Rules") Z.c_Rules Z.a_Rules_table (cD 1))) (bU (jv 0) ji)) an))))))
 c0))))
theorem Pa:OT P w base T k 25 :=
 dS 25 (fn:=rO) (N:=["self","held"]) T IH rfl ⟨rfl,rfl,rfl,by decide +kernel,rfl,by decide +kernel,by decide +kernel⟩ rfl rfl rfl fun bG A outer s H E hr m u c cm ck nd=>by
 exact(cc (cI m (eE (jF hr.hd) oW Z.b_all (ja (mJ m (own:=["row"]) (cn:=["held"]) (aJ:=[1]) (one:=true) (jX (on:=(aH (cK 25)).names) (N:=["self", "held"]) (by decide +kernel)) (iv (fO (W "Rules") Z.c_Rules Z.a_Rules_promise_rows (jv 0))) (fun _ _ _ _=>(b1 (gn (show(["row","held"]:List Str).Nodup by decide +kernel)))) (fun _ _ _ _=>qn) (fun _ _ _ _=>(bU (cD 1) (jv 0)))) an)))
 c0)
theorem Mz:OT P w base T k 26 :=
 dS 26 (fn:=oB) (N:=["self","held"]) T IH rfl ⟨rfl,rfl,rfl,by decide +kernel,rfl,by decide +kernel,by decide +kernel⟩ rfl rfl rfl fun bG A outer s H E hr m u c cm ck nd=>by
 exact(cc (cI m (eE (jF hr.hd) oW Z.b_all (ja (mJ m (own:=["row"]) (cn:=["held"]) (aJ:=[1]) (one:=true) (jX (on:=(aH (cK 26)).names) (N:=["self", "held"]) (by decide +kernel)) (iv (fO (W "Rules") Z.c_Rules Z.a_Rules_must_rows (jv 0))) (fun _ _ _ _=>(b1 (gn (show(["row","held"]:List Str).Nodup by decide +kernel)))) (fun _ _ _ _=>qn) (fun _ _ _ _=>(bU (cD 1) (jv 0)))) an)))
 c0)
theorem Ki:OT P w base T k 27 :=
 dS 27 (fn:=tU) (N:=["self","held"]) T IH rfl ⟨rfl,rfl,rfl,by decide +kernel,rfl,by decide +kernel,by decide +kernel⟩ rfl rfl rfl fun bG A outer s H E hr m u c cm ck nd=>by
 exact(cc (cI m (eE (RP hr.hd) Dk Z.b_sum (ja (mJ m (own:=["price", "row"]) (cn:=["held"]) (aJ:=[1]) (one:=false) (jX (on:=(aH (cK 27)).names) (N:=["self", "held"]) (by decide +kernel)) (iv (fO (W "Rules") Z.c_Rules Z.a_Rules_priced_rows (jv 0))) (fun _ _ _ _=>(bt (gc (gn (i:=0) (show(["price","row","held"]:List Str).Nodup by decide +kernel)) (gc (gn (i:=1) (show(["price","row","held"]:List Str).Nodup by decide +kernel)) nn)))) (fun _ _ _ _=>(qc (wG (tp (bU (cD 2) (jv 1)))) qn)) (fun _ _ _ _=>(jv 0))) an)))
 c0)
theorem Me:OT P w base T k 28 :=
 dS 28 (fn:=AB) (N:=["thing","lamps"]) T IH rfl ⟨rfl,rfl,rfl,by decide +kernel,rfl,by decide +kernel,by decide +kernel⟩ rfl rfl rfl fun bG A outer s H E hr m u c cm ck nd=>by
 exact(cc (cI m (oN (E9 (t:=.tuple) gW Z.b_isinstance Z.b_tuple (jv 0)) (oN (zB (o:=.eq) u (eE cU dZ Z.b_len (ja (jv 0) an)) (jv 1)) (oE (eE (jF hr.hd) oW Z.b_all (ja (mJ m (own:=["part"]) (cn:=[]) (aJ:=[]) (one:=true) (jX (on:=(aH (cK 28)).names) (N:=["thing","lamps"]) (by decide +kernel)) (iv (jv 0)) (fun _ _ _ _=>(b1 (gn (show(["part"]:List Str).Nodup by decide +kernel)))) (fun _ _ _ _=>qn) (fun _ _ _ _=>(E9 (t:=.bool) NZ Z.b_isinstance Z.b_bool (jv 0)))) an))))))
 c0)
noncomputable abbrev Pd:List Str:=["book","play","lamps"]
theorem Od:OT P w base T k 29 :=
 dS 29 (fn:=vZ) (N:=Pd) T IH rfl ⟨rfl,rfl,rfl,by decide +kernel,rfl,by decide +kernel,by decide +kernel⟩ rfl rfl rfl fun bG A outer s H E hr m u c cm ck nd=>by
 exact(cc (IQ (i:=2) m nd (dB (op:=.add) (eE cU dZ Z.b_len (ja (bU (jv 0) ji) an)) (eE cU dZ Z.b_len (ja (bU (jv 0) ji) an))))
 (cc (fJ m (zC (zN m (wG (tp (E9 (t:=.list) BD Z.b_isinstance Z.b_list (jv 1)))) (zA (wG (tp (eE (jF hr.hd) oW Z.b_all (ja (mJ m (own:=["setting"]) (cn:=["lamps"]) (aJ:=[2]) (one:=true) (jX (on:=(aH (cK 29)).names) (N:=Pd) (by decide +kernel)) (iv (jv 1)) (fun _ _ _ _=>(b1 (gn (show(["setting","lamps"]:List Str).Nodup by decide +kernel)))) (fun _ _ _ _=>qn) (fun _ _ _ _=>(cC ((c 28 rfl rfl).wI) (ja (jv 0) (ja (cD 1) an))))) an))))))) (cc (Pp m)
 c0) c0)
 (cc (cI m (jv 1))
 c0)))
theorem Oz(IL:Jw P w K mg base k):OT P w base T k 30 :=
 Px 30 (fn:=vT) (N:=["table","play","tell","told","memory","setting","held"]) T IH IL rfl ⟨rfl,rfl,rfl,by decide +kernel,rfl,by decide +kernel,by decide +kernel⟩ rfl rfl rfl fun bG A outer s H E hr m u c cm ck nd L=>by
 exact(cc (sn (i:=3) m nd (jl an))
 (cc (sn (i:=4) m nd (fO (W "Table") Z.c_Table Z.a_Table_first_memory (jv 0)))
 (cc (B5 (i:=5) m nd (iv (jv 1)) (cc (sn (i:=6) m nd (pE (mm:=W "held_at") (cm 22 (W "Table") rfl rfl) (jv 0) (ja (jv 4) (ja (jv 5) an))))
 (cc (sx m (sJ (jv 3) (ja (Tz 2 L (ja (jv 6) an)) an)))
 (cc (sn (i:=4) m nd (pE (mm:=W "memory_after") (cm 23 (W "Table") rfl rfl) (jv 0) (ja (jv 6) an)))
 c0))))
 (cc (cI m (jv 3))
 c0))))
theorem Ox:OT P w base T k 31 :=
 dS 31 (fn:=oU) (N:=["kept"]) T IH rfl ⟨rfl,rfl,rfl,by decide +kernel,rfl,by decide +kernel,by decide +kernel⟩ rfl rfl rfl fun bG A outer s H E hr m u c cm ck nd=>by
 exact(cc (fJ m (fD (o:=.in_) u jb (jv 0)) (cc (cI m (WD m u (jv 0) (ja jb an)))
 c0) c0)
 (cc (cI m jn)
 c0))
noncomputable abbrev Iw:List Str:=["book","play","rules","kept"]
theorem Kq(B:tN mg base)(TC:∀ i,i<49->∀ c,OU i=some c->(T.fd i).code=.ref c):OT P w base T k 32 :=
 Hk 32 (fn:=wR) (N:=Iw) T IH (TC 32 (by decide) _ rfl) rfl ⟨rfl,rfl,rfl,by decide +kernel,rfl,by decide +kernel,by decide +kernel⟩ rfl rfl rfl fun A outer s H E hr m u c cm ck nd=>by
 exact(cc (sx m (cC (c 15 rfl rfl) (ja (jv 0) an)))
 (cc (sx m (cC (c 29 rfl rfl) (ja (jv 0) (ja (jv 1) an))))
 (cc (IQ (i:=2) m nd (N8 (ck 24 (W "Rules") rfl rfl) (ja (jv 0) an)))
 (cc (sn (i:=3) m nd (Po eR (c 30 rfl rfl) (fO (W "Rules") Z.c_Rules Z.a_Rules_table (cD 2)) (jv 1) B rfl rfl (fun _=>rfl)))
 (cc (cI m (jt m (ja (cC (c 31 rfl rfl) (ja (mJ m (own:=["turn"]) (cn:=[]) (aJ:=[]) (one:=true) (jX (on:=(aH (cK 32)).names) (N:=Iw) (by decide +kernel)) (iv (jv 3)) (fun _ _ _ _=>(b1 (gn (show(["turn"]:List Str).Nodup by decide +kernel)))) (fun _ _ _ _=>qn) (fun _ _ _ _=>(bU (jv 0) ji))) an)) (ja (cC (c 31 rfl rfl) (ja (mJ m (own:=["turn"]) (cn:=[]) (aJ:=[]) (one:=true) (jX (on:=(aH (cK 32)).names) (N:=Iw) (by decide +kernel)) (iv (jv 3)) (fun _ _ _ _=>(b1 (gn (show(["turn"]:List Str).Nodup by decide +kernel)))) (fun _ _ _ _=>qn) (fun _ _ _ _=>(bU (jv 0) ji))) an)) an))))
 c0)))))
theorem Oa(B:tN mg base)(TC:∀ i,i<49->∀ c,OU i=some c->(T.fd i).code=.ref c):OT P w base T k 33 :=
 Hk 33 (fn:=MG) (N:=["book","play","rules"]) T IH (TC 33 (by decide) _ rfl) rfl ⟨rfl,rfl,rfl,by decide +kernel,rfl,by decide +kernel,by decide +kernel⟩ rfl rfl rfl fun A outer s H E hr m u c cm ck nd=>by
 exact(cc (sx m (cC (c 15 rfl rfl) (ja (jv 0) an)))
 (cc (sx m (cC (c 29 rfl rfl) (ja (jv 0) (ja (jv 1) an))))
 (cc (IQ (i:=2) m nd (N8 (ck 24 (W "Rules") rfl rfl) (ja (jv 0) an)))
 (cc (cI m (Po iK (c 30 rfl rfl) (fO (W "Rules") Z.c_Rules Z.a_Rules_table (cD 2)) (jv 1) B rfl rfl (fun _=>rfl)))
 c0))))
theorem Kv:OT P w base T k 34 :=
 dS 34 (fn:=tY) (N:=["book","play","table","memory","setting"]) T IH rfl ⟨rfl,rfl,rfl,by decide +kernel,rfl,by decide +kernel,by decide +kernel⟩ rfl rfl rfl fun bG A outer s H E hr m u c cm ck nd=>by
 exact(cc (sx m (cC (c 15 rfl rfl) (ja (jv 0) an)))
 (cc (sx m (cC (c 29 rfl rfl) (ja (jv 0) (ja (jv 1) an))))
 (cc (sn (i:=2) m nd (fO (W "Rules") Z.c_Rules Z.a_Rules_table (N8 (ck 24 (W "Rules") rfl rfl) (ja (jv 0) an))))
 (cc (sn (i:=3) m nd (fO (W "Table") Z.c_Table Z.a_Table_first_memory (jv 2)))
 (cc (B5 (i:=4) m nd (iv (jv 1)) (cc (sn (i:=3) m nd (pE (mm:=W "memory_after") (cm 23 (W "Table") rfl rfl) (jv 2) (ja (pE (mm:=W "held_at") (cm 22 (W "Table") rfl rfl) (jv 2) (ja (jv 3) (ja (jv 4) an))) an)))
 c0))
 (cc (cI m (jv 3))
 c0))))))
theorem Nl:OT P w base T k 35 :=
 dS 35 (fn:=yQ) (N:=["lamps","settings","place","longer","setting"]) T IH rfl ⟨rfl,rfl,rfl,by decide +kernel,rfl,by decide +kernel,by decide +kernel⟩ rfl rfl rfl fun bG A outer s H E hr m u c cm ck nd=>by
 exact(cc (sn (i:=1) m nd (jl (ja (jt m an) an)))
 (cc (B5 (i:=2) m nd (SA m Z.b_range (ja (eE cU dZ Z.b_len (ja (jv 0) an)) an)) (cc (sn (i:=3) m nd (jl an))
 (cc (B5 (i:=4) m nd (iv (jv 1)) (cc (sx m (sJ (jv 3) (ja (dB (op:=.add) (jv 4) (jt m (ja jb an))) an)))
 (cc (sx m (sJ (jv 3) (ja (dB (op:=.add) (jv 4) (jt m (ja jb an))) an)))
 c0)))
 (cc (sn (i:=1) m nd (jv 3))
 c0))))
 (cc (cI m (jv 1))
 c0)))
theorem Pb:OT P w base T k 36 :=
 dS 36 (fn:=oF) (N:=["self","first"]) T IH rfl ⟨rfl,rfl,rfl,by decide +kernel,rfl,by decide +kernel,by decide +kernel⟩ rfl rfl rfl fun bG A outer s H E hr m u c cm ck nd=>by
 exact(cc (yU m (W "Numbering") Z.c_Numbering Z.a_Numbering_met (jv 0) (jl (ja (jv 1) an)))
 (cc (yU m (W "Numbering") Z.c_Numbering Z.a_Numbering_numbers_met (jv 0) (Tr u (jv 1) ji))
 c0))
theorem Nq:OT P w base T k 37 :=
 dS 37 (fn:=nO) (N:=["self","thing"]) T IH rfl ⟨rfl,rfl,rfl,by decide +kernel,rfl,by decide +kernel,by decide +kernel⟩ rfl rfl rfl fun bG A outer s H E hr m u c cm ck nd=>by
 exact(cc (fJ m (Tj u (jv 1) (fO (W "Numbering") Z.c_Numbering Z.a_Numbering_numbers_met (jv 0))) (cc (Pm m u (fO (W "Numbering") Z.c_Numbering Z.a_Numbering_numbers_met (jv 0)) (jv 1) (eE cU dZ Z.b_len (ja (fO (W "Numbering") Z.c_Numbering Z.a_Numbering_met (jv 0)) an)))
 (cc (sx m (sJ (fO (W "Numbering") Z.c_Numbering Z.a_Numbering_met (jv 0)) (ja (jv 1) an)))
 c0)) c0)
 (cc (cI m (MR u (fO (W "Numbering") Z.c_Numbering Z.a_Numbering_numbers_met (jv 0)) (jv 1)))
 c0))
noncomputable abbrev Pg:List Str:=["book","rules","memory","friend"]
theorem Nk:OT P w base T k 38 :=
 dS 38 (fn:=vS) (N:=Pg) T IH rfl ⟨rfl,rfl,rfl,by decide +kernel,rfl,by decide +kernel,by decide +kernel⟩ rfl rfl rfl fun bG A outer s H E hr m u c cm ck nd=>by
 exact(cc (IQ (i:=3) m nd (bU (cC (c 35 rfl rfl) (ja (bU (jv 0) ji) an)) ji))
 (cc (cI m (mJ m (own:=["foe"]) (cn:=["rules","memory","friend"]) (aJ:=[1,2,3]) (one:=true) (jX (on:=(aH (cK 38)).names) (N:=Pg) (by decide +kernel)) (iv (cC (c 35 rfl rfl) (ja (bU (jv 0) ji) an))) (fun _ _ _ _=>(b1 (gn (show(["foe","rules","memory","friend"]:List Str).Nodup by decide +kernel)))) (fun _ _ _ _=>(qc (tp (pE (mm:=W "foe_keeps") ((cm 25 (W "Rules") rfl rfl).wI) (cD 1) (ja (pE (mm:=W "held_at") ((cm 22 (W "Table") rfl rfl).wI) (fO (W "Rules") Z.c_Rules Z.a_Rules_table (cD 1)) (ja (cD 2) (ja (dB (op:=.add) (jv 0) (cD 3)) an))) an))) qn)) (fun _ _ _ _=>(jv 0))))
 c0))
theorem Nu:OT P w base T k 39 :=
 dS 39 (fn:=zU) (N:=["book","rules","numbering","memory","foe","answers","friend","held","node"]) T IH rfl ⟨rfl,rfl,rfl,by decide +kernel,rfl,by decide +kernel,by decide +kernel⟩ rfl rfl rfl fun bG A outer s H E hr m u c cm ck nd=>by
 exact(cc (sn (i:=5) m nd (jl an))
 (cc (B5 (i:=6) m nd (iv (cC (c 35 rfl rfl) (ja (bU (jv 0) ji) an))) (cc (sn (i:=7) m nd (pE (mm:=W "held_at") (cm 22 (W "Table") rfl rfl) (fO (W "Rules") Z.c_Rules Z.a_Rules_table (jv 1)) (ja (jv 3) (ja (dB (op:=.add) (jv 4) (jv 6)) an))))
 (cc (fJ m (tp (pE (mm:=W "friend_keeps") (cm 26 (W "Rules") rfl rfl) (jv 1) (ja (jv 7) an))) (cc (sn (i:=8) m nd (pE (mm:=W "number_of") (cm 37 (W "Numbering") rfl rfl) (jv 2) (ja (pE (mm:=W "memory_after") (cm 23 (W "Table") rfl rfl) (fO (W "Rules") Z.c_Rules Z.a_Rules_table (jv 1)) (ja (jv 7) an)) an)))
 (cc (sx m (sJ (jv 5) (ja (jt m (ja (jv 6) (ja (pE (mm:=W "loss_at") (cm 27 (W "Rules") rfl rfl) (jv 1) (ja (jv 7) an)) (ja (jv 8) an)))) an)))
 c0)) c0)
 c0)))
 (cc (cI m (sN gI gW Z.b_tuple (ja (jv 5) an)))
 c0)))
theorem Ke:OT P w base T k 40 :=
 dS 40 (fn:=U8) (N:=["book","rules","numbering","nodes","memory","moves","foe"]) T IH rfl ⟨rfl,rfl,rfl,by decide +kernel,rfl,by decide +kernel,by decide +kernel⟩ rfl rfl rfl fun bG A outer s H E hr m u c cm ck nd=>by
 exact(cc (sx m (cC (c 15 rfl rfl) (ja (jv 0) an)))
 (cc (sn (i:=1) m nd (N8 (ck 24 (W "Rules") rfl rfl) (ja (jv 0) an)))
 (cc (sn (i:=2) m nd (N8 (ck 36 (W "Numbering") rfl rfl) (ja (fO (W "Table") Z.c_Table Z.a_Table_first_memory (fO (W "Rules") Z.c_Rules Z.a_Rules_table (jv 1))) an)))
 (cc (sn (i:=3) m nd (jl an))
 (cc (sw m (fD (o:=.lt) u (eE cU dZ Z.b_len (ja (jv 3) an)) (eE cU dZ Z.b_len (ja (fO (W "Numbering") Z.c_Numbering Z.a_Numbering_met (jv 2)) an))) (cc (sn (i:=4) m nd (bU (fO (W "Numbering") Z.c_Numbering Z.a_Numbering_met (jv 2)) (eE cU dZ Z.b_len (ja (jv 3) an))))
 (cc (sn (i:=5) m nd (jl an))
 (cc (B5 (i:=6) m nd (iv (cC (c 38 rfl rfl) (ja (jv 0) (ja (jv 1) (ja (jv 4) an))))) (cc (sx m (sJ (jv 5) (ja (jt m (ja (jv 6) (ja (cC (c 39 rfl rfl) (ja (jv 0) (ja (jv 1) (ja (jv 2) (ja (jv 4) (ja (jv 6) an)))))) an))) an)))
 c0))
 (cc (sx m (sJ (jv 3) (ja (jt m (ja (jv 4) (ja (sN gI gW Z.b_tuple (ja (jv 5) an)) an))) an)))
 c0)))))
 (cc (cI m (jv 3))
 c0))))))
theorem Lv:OT P w base T k 41 :=
 dS 41 (fn:=vL) (N:=["_law_script","_law_k"]) T IH rfl ⟨rfl,rfl,rfl,by decide +kernel,rfl,by decide +kernel,by decide +kernel⟩ rfl rfl rfl fun bG A outer s H E hr m u c cm ck nd=>by
 exact(cc (fJ m (fD (o:=.lt) u (jv 1) (eE cU dZ Z.b_len (ja (jv 0) an))) (cc (cI m (bU (jv 0) (jv 1)))
 c0) c0)
 (cc (fJ m (fD (o:=.eq) u (jv 0) (jl an)) (cc (cI m ji)
 c0) c0)
 (cc (cI m (dB (op:=.add) (dB (op:=.mul) (bU (jv 0) (dB (op:=.mod) (jv 1) (eE cU dZ Z.b_len (ja (jv 0) an)))) ji) (jv 1)))
 c0)))
theorem Mm:OT P w base T k 42 :=
 dS 42 (fn:=AK) (N:=["_law_script","_law_k","_law_many","_law_drawn"]) T IH rfl ⟨rfl,rfl,rfl,by decide +kernel,rfl,by decide +kernel,by decide +kernel⟩ rfl rfl rfl fun bG A outer s H E hr m u c cm ck nd=>by
 exact(cc (sn (i:=3) m nd (dB (op:=.mod) (dB (op:=.mul) (dB (op:=.add) (dB (op:=.add) (cC (c 41 rfl rfl) (ja (jv 0) (ja (jv 1) an))) (dB (op:=.mul) ji (jv 1))) ji) ji) ji))
 (cc (cI m (dB (op:=.mod) (dB (op:=.mod) (dB (op:=.add) (dB (op:=.add) (dB (op:=.mul) (jv 3) (jv 3)) (dB (op:=.mul) ji (jv 3))) (jv 1)) ji) (jv 2)))
 c0))
theorem Ku:OT P w base T k 43 :=
 dS 43 (fn:=CM) (N:=["_law_script","_law_m","_law_many"]) T IH rfl ⟨rfl,rfl,rfl,by decide +kernel,rfl,by decide +kernel,by decide +kernel⟩ rfl rfl rfl fun bG A outer s H E hr m u c cm ck nd=>by
 exact(cc (sg m (dB (op:=.add) (bU (jv 1) ji) ji) (gi (jv 1) ji))
 (cc (cI m (cC (c 42 rfl rfl) (ja (jv 0) (ja (bU (jv 1) ji) (ja (jv 2) an)))))
 c0))
theorem Oe:OT P w base T k 44 :=
 dS 44 (fn:=AE) (N:=["_law_script","_law_m","_law_some","_law_turn","_law_row","_law_foe","_law_friend"]) T IH rfl ⟨rfl,rfl,rfl,by decide +kernel,rfl,by decide +kernel,by decide +kernel⟩ rfl rfl rfl fun bG A outer s H E hr m u c cm ck nd=>by
 exact(cc (sn (i:=2) m nd (jl (ja js (ja js (ja js (ja js (ja js (ja js (ja js (ja js an))))))))))
 (cc (sn (i:=3) m nd (cC (c 43 rfl rfl) (ja (jv 0) (ja (jv 1) (ja ji an)))))
 (cc (sn (i:=4) m nd (dB (op:=.add) (OC (jv 2) (os (jv 3)) on) (OC (jv 2) on (os (jv 3)))))
 (cc (sn (i:=5) m nd (dB (op:=.add) ji (cC (c 43 rfl rfl) (ja (jv 0) (ja (jv 1) (ja ji an))))))
 (cc (sn (i:=6) m nd (dB (op:=.add) ji (cC (c 43 rfl rfl) (ja (jv 0) (ja (jv 1) (ja ji an))))))
 (cc (cI m (jt m (ja (sN gI gW Z.b_tuple (ja (OC (jv 4) on (os (jv 5))) an)) (ja (sN gI gW Z.b_tuple (ja (OC (jv 4) (os (jv 5)) (os (dB (op:=.add) (jv 5) (jv 6)))) an)) an))))
 c0))))))
theorem Ld:OT P w base T k 45 :=
 dS 45 (fn:=yO) (N:=["_law_script","_law_m","_law_names_here","_law_deep","_law_left","_law_way","_law_one"]) T IH rfl ⟨rfl,rfl,rfl,by decide +kernel,rfl,by decide +kernel,by decide +kernel⟩ rfl rfl rfl fun bG A outer s H E hr m u c cm ck nd=>by
 exact(cc (sn (i:=5) m nd (cC (c 43 rfl rfl) (ja (jv 0) (ja (jv 1) (ja ji an)))))
 (cc (fJ m (zC (zN m (fD (o:=.eq) u (jv 3) ji) (zA (fD (o:=.lt) u (jv 5) ji)))) (cc (cI m (jt m (ja js (ja (bU (jv 2) (cC (c 43 rfl rfl) (ja (jv 0) (ja (jv 1) (ja (eE cU dZ Z.b_len (ja (jv 2) an)) an))))) an))))
 c0) c0)
 (cc (fJ m (fD (o:=.eq) u (jv 5) ji) (cc (cI m (jt m (ja (bU (jl (ja js (ja js an))) (cC (c 43 rfl rfl) (ja (jv 0) (ja (jv 1) (ja ji an))))) an)))
 c0) c0)
 (cc (fJ m (zC (Fb m (fD (o:=.gt) u (jv 5) ji) (zA (fD (o:=.gt) u (bU (jv 4) ji) ji)))) (cc (sg m (dB (op:=.sub) (bU (jv 4) ji) ji) (gi (jv 4) ji))
 (cc (sn (i:=6) m nd (cC (c 45 rfl rfl) (ja (jv 0) (ja (jv 1) (ja (jv 2) (ja (dB (op:=.sub) (jv 3) ji) (ja (jv 4) an)))))))
 (cc (fJ m (fD (o:=.eq) u (jv 5) ji) (cc (cI m (jt m (ja js (ja (jv 6) (ja (cC (c 45 rfl rfl) (ja (jv 0) (ja (jv 1) (ja (jv 2) (ja (dB (op:=.sub) (jv 3) ji) (ja (jv 4) an)))))) an)))))
 c0) c0)
 (cc (cI m (jt m (ja (bU (jl (ja js (ja js (ja js an)))) (dB (op:=.sub) (jv 5) ji)) (ja (jv 6) an))))
 c0)))) c0)
 (cc (sn (i:=6) m nd (cC (c 45 rfl rfl) (ja (jv 0) (ja (jv 1) (ja (jv 2) (ja (dB (op:=.sub) (jv 3) ji) (ja (jv 4) an)))))))
 (cc (fJ m (zC (zN m (fD (o:=.eq) u (jv 5) ji) (zA (fD (o:=.gt) u (jv 5) ji)))) (cc (cI m (jt m (ja js (ja (jv 6) an))))
 c0) c0)
 (cc (cI m (jt m (ja (bU (jl (ja js (ja js (ja js (ja js an))))) (dB (op:=.sub) (jv 5) ji)) (ja (jv 6) (ja (cC (c 45 rfl rfl) (ja (jv 0) (ja (jv 1) (ja (jv 2) (ja (dB (op:=.sub) (jv 3) ji) (ja (jv 4) an)))))) an)))))
 c0)))))))
theorem Ma:OT P w base T k 46 :=
 dS 46 (fn:=vW) (N:=["_law_script","_law_m","_law_foe","_law_names_here","_law_left","_law_one","_law_other"]) T IH rfl ⟨rfl,rfl,rfl,by decide +kernel,rfl,by decide +kernel,by decide +kernel⟩ rfl rfl rfl fun bG A outer s H E hr m u c cm ck nd=>by
 exact(cc (sn (i:=5) m nd (cC (c 45 rfl rfl) (ja (jv 0) (ja (jv 1) (ja (jv 2) (ja ji (ja (jl (ja ji an)) an)))))))
 (cc (fJ m (zC (Fb m (fD (o:=.gt) u (bU (jv 4) ji) ji) (zA (fD (o:=.eq) u (cC (c 43 rfl rfl) (ja (jv 0) (ja (jv 1) (ja ji an)))) ji)))) (cc (sg m (dB (op:=.sub) (bU (jv 4) ji) ji) (gi (jv 4) ji))
 (cc (sn (i:=6) m nd (cC (c 45 rfl rfl) (ja (jv 0) (ja (jv 1) (ja (jv 3) (ja ji (ja (jl (ja ji an)) an)))))))
 (cc (cI m (jt m (ja (bU (jl (ja js (ja js (ja js an)))) (cC (c 43 rfl rfl) (ja (jv 0) (ja (jv 1) (ja ji an))))) (ja (jt m (ja js (ja (jv 6) an))) (ja (jv 5) an)))))
 c0))) c0)
 (cc (cI m (jv 5))
 c0)))
noncomputable abbrev Gy:List Str:=["_law_script","_law_at","_law_pieces","_law_musts","_law_m","_law_foe","_law_friend","_law_names_here","_law_left","_law_wishes","_law_k","_law_price","_law_some","_law_known"]
theorem Ky:OT P w base T k 47 :=
 dS 47 (fn:=CJ) (N:=Gy) T IH rfl ⟨rfl,rfl,rfl,by decide +kernel,rfl,by decide +kernel,by decide +kernel⟩ rfl rfl rfl fun bG A outer s H E hr m u c cm ck nd=>by
 exact(cc (IQ (i:=4) m nd (jl (ja (jv 1) an)))
 (cc (sg m (cC (c 44 rfl rfl) (ja (cD 0) (ja (cD 4) an))) (gt (gc (Tu (i:=5) nd) (gc (gn (i:=6) nd) nn))))
 (cc (IQ (i:=7) m nd (dB (op:=.add) (cD 5) (jv 6)))
 (cc (IQ (i:=8) m nd (jl (ja (cC (c 43 rfl rfl) (ja (cD 0) (ja (cD 4) (ja (dB (op:=.add) (jv 2) ji) an)))) an)))
 (cc (sn (i:=9) m nd (jl an))
 (cc (B5 (i:=10) m nd (SA m Z.b_range (ja (dB (op:=.add) ji (cC (c 43 rfl rfl) (ja (cD 0) (ja (cD 4) (ja ji an))))) an)) (cc (sn (i:=11) m nd (dB (op:=.add) ji (cC (c 43 rfl rfl) (ja (cD 0) (ja (cD 4) (ja (bU (jl (ja ji (ja ji (ja ji an)))) (cC (c 43 rfl rfl) (ja (cD 0) (ja (cD 4) (ja ji an))))) an))))))
 (cc (sx m (sJ (jv 9) (ja (jt m (ja (jv 11) (ja (cC (c 45 rfl rfl) (ja (cD 0) (ja (cD 4) (ja (cD 7) (ja ji (ja (cD 8) an)))))) an))) an)))
 c0)))
 (cc (R6 (i:=12) m nd (own:=["_law_k"]) (cn:=["_law_script","_law_m","_law_names_here","_law_left"]) (aJ:=[0,4,7,8]) (one:=true) (jX (on:=(aH (cK 47)).names) (N:=Gy) (by decide +kernel)) (SA m Z.b_range (ja (cC (c 43 rfl rfl) (ja (cD 0) (ja (cD 4) (ja (dB (op:=.add) (jv 3) ji) an)))) an)) (fun _ _ _ _=>(b1 (gn (show(["_law_k","_law_script","_law_m","_law_names_here","_law_left"]:List Str).Nodup by decide +kernel)))) (fun _ _ _ _=>qn) (fun _ _ _ _=>(cC ((c 45 rfl rfl).wI) (ja (cD 1) (ja (cD 2) (ja (cD 3) (ja ji (ja (cD 4) an))))))))
 (cc (R6 (i:=13) m nd (own:=["_law_k"]) (cn:=["_law_script","_law_m","_law_foe","_law_names_here","_law_left"]) (aJ:=[0,4,5,7,8]) (one:=true) (jX (on:=(aH (cK 47)).names) (N:=Gy) (by decide +kernel)) (SA m Z.b_range (ja (cC (c 43 rfl rfl) (ja (cD 0) (ja (cD 4) (ja ji an)))) an)) (fun _ _ _ _=>(b1 (gn (show(["_law_k","_law_script","_law_m","_law_foe","_law_names_here","_law_left"]:List Str).Nodup by decide +kernel)))) (fun _ _ _ _=>qn) (fun _ _ _ _=>(cC ((c 46 rfl rfl).wI) (ja (cD 1) (ja (cD 2) (ja (cD 3) (ja (cD 4) (ja (cD 5) an))))))))
 (cc (cI m (jt m (ja (cD 5) (ja (jv 6) (ja (sN gI gW Z.b_tuple (ja (jv 13) an)) (ja (sN gI gW Z.b_tuple (ja (jv 12) an)) (ja (sN gI gW Z.b_tuple (ja (jv 9) an)) an)))))))
 c0)))))))))
noncomputable abbrev Pc:List Str:=["_law_script","_law_book_here","_law_nodes","_law_seed","_law_node","_law_play","_law_lost","_law_turn","_law_moves","_law_drawn","_law_foe","_law_answers","_law_friend","_law_loss","_law_to"]
theorem Ln:OT P w base T k 48 :=
 dS 48 (fn:=YT) (N:=Pc) T IH rfl ⟨rfl,rfl,rfl,by decide +kernel,rfl,by decide +kernel,by decide +kernel⟩ rfl rfl rfl fun bG A outer s H E hr m u c cm ck nd=>by
 exact(cc (sn (i:=1) m nd (cC (c 47 rfl rfl) (ja (jv 0) (ja ji (ja ji (ja ji an))))))
 (cc (sn (i:=2) m nd (cC (c 40 rfl rfl) (ja (jv 1) an)))
 (cc (sn (i:=3) m nd (cC (c 42 rfl rfl) (ja (jv 0) (ja ji (ja (dB (op:=.pow) ji ji) an)))))
 (cc (sn (i:=4) m nd ji)
 (cc (sn (i:=5) m nd (jl an))
 (cc (sn (i:=6) m nd (jl an))
 (cc (B5 (i:=7) m nd (SA m Z.b_range (ja ji an)) (cc (R6 (i:=8) m nd (own:=["_law_move"]) (cn:=[]) (aJ:=[]) (one:=true) (jX (on:=(aH (cK 48)).names) (N:=Pc) (by decide +kernel)) (iv (bU (bU (jv 2) (jv 4)) ji)) (fun _ _ _ _=>(b1 (gn (show(["_law_move"]:List Str).Nodup by decide +kernel)))) (fun _ _ _ _=>(qc (fD (o:=.ne) u (bU (jv 0) ji) (jt m an)) qn)) (fun _ _ _ _=>(jv 0)))
 (cc (fJ m (fD (o:=.ne) u (jv 8) (jl an)) (cc (sn (i:=9) m nd (dB (op:=.mod) (dB (op:=.mul) (dB (op:=.add) (dB (op:=.add) (jv 3) (dB (op:=.mul) (dB (op:=.mul) ji (jv 7)) (jv 7))) (dB (op:=.mul) ji (jv 7))) ji) ji))
 (cc (sg m (bU (jv 8) (dB (op:=.mod) (dB (op:=.fdiv) (jv 9) ji) (eE cU dZ Z.b_len (ja (jv 8) an)))) (gt (gc (gn (i:=10) nd) (gc (gn (i:=11) nd) nn))))
 (cc (sg m (bU (jv 11) (dB (op:=.mod) (dB (op:=.fdiv) (jv 9) ji) (eE cU dZ Z.b_len (ja (jv 11) an)))) (gt (gc (gn (i:=12) nd) (gc (gn (i:=13) nd) (gc (gn (i:=14) nd) nn)))))
 (cc (sx m (sJ (jv 5) (ja (dB (op:=.add) (jv 10) (jv 12)) an)))
 (cc (sx m (sJ (jv 6) (ja (jv 13) an)))
 (cc (sn (i:=4) m nd (jv 14))
 (cc (fJ m (fD (o:=.ne) u (bU (bU (jv 2) (jv 4)) ji) (cC (c 34 rfl rfl) (ja (jv 1) (ja (jv 5) an)))) (cc (cI m jb)
 c0) c0)
 c0))))))) c0)
 c0)))
 (cc (cI m (oN (zB (o:=.eq) u (cC (c 33 rfl rfl) (ja (jv 1) (ja (jv 5) an))) (jv 6)) (oE (zB (o:=.eq) u (cC (c 32 rfl rfl) (ja (jv 1) (ja (jv 5) an))) (jt m (ja jn (ja jn an)))))))
 c0))))))))
theorem Nt:oJ P w K mg base (2*k+1+1) (aI G (k+1)) 49 :=
 OL (T:=eR) (n:=2) (x:=(.tup [(.mcl (W "Rules") (W "foe_keeps") jP (.v 0) [(.v 1)]),(.mcl (W "Rules") (W "friend_keeps") gY (.v 0) [(.v 1)])])) rfl LP rfl rfl (fun _ _ _ _ us hl=>match us,hl with|[_],_=>rfl) fun clos a c' A outer s H hr=>by
 have m:=kC G (az k)
 have u:=DQ hr
 have c:=vO (X:=MK P w K mg base eR clos a c' A outer s H) T IH rfl rfl rfl rfl rfl hr
 have cm:=wB (X:=MK P w K mg base eR clos a c' A outer s H) T IH rfl rfl rfl rfl rfl hr
 exact(jt m (ja (pE (mm:=W "foe_keeps") (cm 25 (W "Rules") rfl rfl) (Dx 0) (ja (jv 1) an)) (ja (pE (mm:=W "friend_keeps") (cm 26 (W "Rules") rfl rfl) (Dx 0) (ja (jv 1) an)) an)))
theorem Lj:oJ P w K mg base (2*k+1+1) (aI G (k+1)) 50 :=
 OL (T:=iK) (n:=2) (x:=(.mcl (W "Rules") (W "loss_at") lJ (.v 0) [(.v 1)])) rfl LP rfl rfl (fun _ _ _ _ us hl=>match us,hl with|[_],_=>rfl) fun clos a c' A outer s H hr=>by
 have m:=kC G (az k)
 have u:=DQ hr
 have c:=vO (X:=MK P w K mg base iK clos a c' A outer s H) T IH rfl rfl rfl rfl rfl hr
 have cm:=wB (X:=MK P w K mg base iK clos a c' A outer s H) T IH rfl rfl rfl rfl rfl hr
 exact(pE (mm:=W "loss_at") (cm 27 (W "Rules") rfl rfl) (Dx 0) (ja (jv 1) an))
theorem Ta:∀ f Tx,LT f=some Tx->oJ P w K mg base (2*k+1+1) (aI G (k+1)) f:=by
 intro f Tx h
 unfold LT at h
 split at h
 ·exact Nt T Z IH
 ·exact Lj T Z IH
 ·cases h
end
theorem Th {k:Nat}(T:TT K mg)(Z:Zt K mg)(B:tN mg base)(TC:∀ i,i<49->∀ c,OU i=some c->(T.fd i).code=.ref c)(IH:IT P w base T k)(IL:Jw P w K mg base k):∀ i,i<49->OT P w base T k i
 |0,_=>Qd T Z IH
 |1,_=>Rr T Z IH
 |2,_=>Se T Z IH
 |3,_=>Sg T Z IH
 |4,_=>Pz T Z IH
 |5,_=>Qm T Z IH
 |6,_=>Sk T Z IH
 |7,_=>Si T Z IH
 |8,_=>Qr T Z IH
 |9,_=>Rj T Z IH
 |10,_=>Of T Z IH
 |11,_=>Ng T Z IH
 |12,_=>Ou T Z IH
 |13,_=>Lo T Z IH
 |14,_=>Lm T Z IH
 |15,_=>Na T Z IH
 |16,_=>Lb T Z IH
 |17,_=>Nj T Z IH
 |18,_=>Kw T Z IH
 |19,_=>Ls T Z IH
 |20,_=>Nh T Z IH
 |21,_=>Km T Z IH
 |22,_=>Mt T Z IH
 |23,_=>Nc T Z IH
 |24,_=>Kt T Z IH
 |25,_=>Pa T Z IH
 |26,_=>Mz T Z IH
 |27,_=>Ki T Z IH
 |28,_=>Me T Z IH
 |29,_=>Od T Z IH
 |30,_=>Oz T Z IH IL
 |31,_=>Ox T Z IH
 |32,_=>Kq T Z IH B TC
 |33,_=>Oa T Z IH B TC
 |34,_=>Kv T Z IH
 |35,_=>Nl T Z IH
 |36,_=>Pb T Z IH
 |37,_=>Nq T Z IH
 |38,_=>Nk T Z IH
 |39,_=>Nu T Z IH
 |40,_=>Ke T Z IH
 |41,_=>Lv T Z IH
 |42,_=>Mm T Z IH
 |43,_=>Ku T Z IH
 |44,_=>Oe T Z IH
 |45,_=>Ld T Z IH
 |46,_=>Ma T Z IH
 |47,_=>Ky T Z IH
 |48,_=>Ln T Z IH
 |n+49,h=>absurd h (by omega)
end
theorem XY:∀(ns:List Int)(st:aB),ns.length<=63->(∀ p∈[(eQ,272),(iH,277)],∃ P,st P=some (.cod p.1))->aI G 16 YQ [.bO (ns.map .int)] st (fun d _=>d=.bl true) fun _ _=>False:=fun ns st _ hc =>
 Mr (k:=0) (G:=G) (κ1:=iH) (κ2:=eQ) (il:=YQ) (ibo:=CA) (iga:=R4) (im:=tD) (imb:=uA) (ils:=LQ) (ibr:=vR) (inm:=zS) (dM:=gH) (is:=gT) (ipr:=vN) (ic:=wO) (ibk:=AI) (ich:=qD) (icp:=mI) (ist:=zL) (iri:=iN) (ini:=oQ) (ifs:=wD) (ian:=AA) (iti:=sW) (io:=oH) (iz:=pV) (ie:=rL) (irr:=mO) (iw:=iQ) (ipo:=sX) (kA:=rF) (ino:=nF) (ima:=hZ) (eV:=jD) (iph:=AL) (inh:=CF) (itd:=pM) (ilx:=sG) (ilo:=lJ) (ibl:=mP) (ifk:=jP) (imk:=gY) (ift:=kT)
 (hc (iH,277) (by simp)) (hc (eQ,272) (by simp)) rfl rfl rfl rfl rfl rfl rfl rfl rfl
 (fun b B hs hd hc k st Q E hQ=>QG (G:=G) (ir:=nB) (iS:=AO) (fR:=lP) (iy:=uZ) (ia:=qX) (iap:=wV) (io:=oH) (il:=CS) (iaw:=zT) (ipi:=pV) (ip:=E6) (iw:=IW) (ibk:=AI) (ih:=iQ) (ib:=rB) rfl rfl rfl rfl rfl rfl rfl rfl rfl rfl rfl rfl rfl rfl rfl B hs hd hc hQ)
 rfl rfl rfl rfl rfl rfl rfl rfl rfl rfl rfl rfl rfl rfl rfl rfl rfl rfl rfl rfl rfl rfl rfl rfl rfl rfl rfl rfl rfl rfl
theorem CQ {α:Type}{P:List α->Prop}(h:∀ a0,P [a0]):∀ us:List α,us.length=1->P us
 |[a0],_=>h a0
theorem ln2 {α:Type}{P:List α->Prop}(h:∀ a0 a1,P [a0,a1]):∀ us:List α,us.length=2->P us
 |[a0,a1],_=>h a0 a1
theorem yX {α:Type}{P:List α->Prop}(h:∀ a0 a1 a2,P [a0,a1,a2]):∀ us:List α,us.length=3->P us
 |[a0,a1,a2],_=>h a0 a1 a2
theorem Uc {α:Type}{P:List α->Prop}(h:∀ a0 a1 a2 a3,P [a0,a1,a2,a3]):∀ us:List α,us.length=4->P us
 |[a0,a1,a2,a3],_=>h a0 a1 a2 a3
theorem Ij {α:Type}{P:List α->Prop}(h:∀ a0 a1 a2 a3 a4,P [a0,a1,a2,a3,a4]):∀ us:List α,us.length=5->P us
 |[a0,a1,a2,a3,a4],_=>h a0 a1 a2 a3 a4
theorem Pr:∀ i,i<49->GH (rP i) (gG i) (nX i) (cK i)
 |0,_=>fun _ _ _ _ _ _=>CQ fun _=>rfl
 |1,_=>fun _ _ _ _ _ _=>ln2 fun _ _=>rfl
 |2,_=>fun _ _ _ _ _ _=>yX fun _ _ _=>rfl
 |3,_=>fun _ _ _ _ _ _=>CQ fun _=>rfl
 |4,_=>fun _ _ _ _ _ _=>CQ fun _=>rfl
 |5,_=>fun _ _ _ _ _ _=>yX fun _ _ _=>rfl
 |6,_=>fun _ _ _ _ _ _=>ln2 fun _ _=>rfl
 |7,_=>fun _ _ _ _ _ _=>yX fun _ _ _=>rfl
 |8,_=>fun _ _ _ _ _ _=>ln2 fun _ _=>rfl
 |9,_=>fun _ _ _ _ _ _=>yX fun _ _ _=>rfl
 |10,_=>fun _ _ _ _ _ _=>CQ fun _=>rfl
 |11,_=>fun _ _ _ _ _ _=>ln2 fun _ _=>rfl
 |12,_=>fun _ _ _ _ _ _=>ln2 fun _ _=>rfl
 |13,_=>fun _ _ _ _ _ _=>yX fun _ _ _=>rfl
 |14,_=>fun _ _ _ _ _ _=>CQ fun _=>rfl
 |15,_=>fun _ _ _ _ _ _=>CQ fun _=>rfl
 |16,_=>fun _ _ _ _ _ _=>ln2 fun _ _=>rfl
 |17,_=>fun _ _ _ _ _ _=>yX fun _ _ _=>rfl
 |18,_=>fun _ _ _ _ _ _=>yX fun _ _ _=>rfl
 |19,_=>fun _ _ _ _ _ _=>ln2 fun _ _=>rfl
 |20,_=>fun _ _ _ _ _ _=>ln2 fun _ _=>rfl
 |21,_=>fun _ _ _ _ _ _=>ln2 fun _ _=>rfl
 |22,_=>fun _ _ _ _ _ _=>yX fun _ _ _=>rfl
 |23,_=>fun _ _ _ _ _ _=>ln2 fun _ _=>rfl
 |24,_=>fun _ _ _ _ _ _=>ln2 fun _ _=>rfl
 |25,_=>fun _ _ _ _ _ _=>ln2 fun _ _=>rfl
 |26,_=>fun _ _ _ _ _ _=>ln2 fun _ _=>rfl
 |27,_=>fun _ _ _ _ _ _=>ln2 fun _ _=>rfl
 |28,_=>fun _ _ _ _ _ _=>ln2 fun _ _=>rfl
 |29,_=>fun _ _ _ _ _ _=>ln2 fun _ _=>rfl
 |30,_=>fun _ _ _ _ _ _=>yX fun _ _ _=>rfl
 |31,_=>fun _ _ _ _ _ _=>CQ fun _=>rfl
 |32,_=>fun _ _ _ _ _ _=>ln2 fun _ _=>rfl
 |33,_=>fun _ _ _ _ _ _=>ln2 fun _ _=>rfl
 |34,_=>fun _ _ _ _ _ _=>ln2 fun _ _=>rfl
 |35,_=>fun _ _ _ _ _ _=>CQ fun _=>rfl
 |36,_=>fun _ _ _ _ _ _=>ln2 fun _ _=>rfl
 |37,_=>fun _ _ _ _ _ _=>ln2 fun _ _=>rfl
 |38,_=>fun _ _ _ _ _ _=>yX fun _ _ _=>rfl
 |39,_=>fun _ _ _ _ _ _=>Ij fun _ _ _ _ _=>rfl
 |40,_=>fun _ _ _ _ _ _=>CQ fun _=>rfl
 |41,_=>fun _ _ _ _ _ _=>ln2 fun _ _=>rfl
 |42,_=>fun _ _ _ _ _ _=>yX fun _ _ _=>rfl
 |43,_=>fun _ _ _ _ _ _=>yX fun _ _ _=>rfl
 |44,_=>fun _ _ _ _ _ _=>ln2 fun _ _=>rfl
 |45,_=>fun _ _ _ _ _ _=>Ij fun _ _ _ _ _=>rfl
 |46,_=>fun _ _ _ _ _ _=>Ij fun _ _ _ _ _=>rfl
 |47,_=>fun _ _ _ _ _ _=>Uc fun _ _ _ _=>rfl
 |48,_=>fun _ _ _ _ _ _=>CQ fun _=>rfl
 |n+49,h=>absurd h (by omega)
noncomputable abbrev FF (K:aa)(mg:Str->Option ae)(i:Nat):=wL K mg (rP i) (gG i) (cK i) (oV i) (OU i)
theorem Tw {K:aa}{mg:Str->Option ae}(F0:FF K mg 0)(F1:FF K mg 1)(F2:FF K mg 2)(F3:FF K mg 3)(F4:FF K mg 4)(F5:FF K mg 5)(F6:FF K mg 6)(F7:FF K mg 7)(F8:FF K mg 8)(F9:FF K mg 9)(F10:FF K mg 10)(F11:FF K mg 11)(F12:FF K mg 12)(F13:FF K mg 13)(F14:FF K mg 14)(F15:FF K mg 15)(F16:FF K mg 16)(F17:FF K mg 17)(F18:FF K mg 18)(F19:FF K mg 19)(F20:FF K mg 20)(F21:FF K mg 21)(F22:FF K mg 22)(F23:FF K mg 23)(F24:FF K mg 24)(F25:FF K mg 25)(F26:FF K mg 26)(F27:FF K mg 27)(F28:FF K mg 28)(F29:FF K mg 29)(F30:FF K mg 30)(F31:FF K mg 31)(F32:FF K mg 32)(F33:FF K mg 33)(F34:FF K mg 34)(F35:FF K mg 35)(F36:FF K mg 36)(F37:FF K mg 37)(F38:FF K mg 38)(F39:FF K mg 39)(F40:FF K mg 40)(F41:FF K mg 41)(F42:FF K mg 42)(F43:FF K mg 43)(F44:FF K mg 44)(F45:FF K mg 45)(F46:FF K mg 46)(F47:FF K mg 47)(F48:FF K mg 48):∀ i,i<49->wL K mg (rP i) (gG i) (cK i) (oV i) (OU i)
 |0,_=>F0
 |1,_=>F1
 |2,_=>F2
 |3,_=>F3
 |4,_=>F4
 |5,_=>F5
 |6,_=>F6
 |7,_=>F7
 |8,_=>F8
 |9,_=>F9
 |10,_=>F10
 |11,_=>F11
 |12,_=>F12
 |13,_=>F13
 |14,_=>F14
 |15,_=>F15
 |16,_=>F16
 |17,_=>F17
 |18,_=>F18
 |19,_=>F19
 |20,_=>F20
 |21,_=>F21
 |22,_=>F22
 |23,_=>F23
 |24,_=>F24
 |25,_=>F25
 |26,_=>F26
 |27,_=>F27
 |28,_=>F28
 |29,_=>F29
 |30,_=>F30
 |31,_=>F31
 |32,_=>F32
 |33,_=>F33
 |34,_=>F34
 |35,_=>F35
 |36,_=>F36
 |37,_=>F37
 |38,_=>F38
 |39,_=>F39
 |40,_=>F40
 |41,_=>F41
 |42,_=>F42
 |43,_=>F43
 |44,_=>F44
 |45,_=>F45
 |46,_=>F46
 |47,_=>F47
 |48,_=>F48
 |n+49,h=>absurd h (by omega)
theorem all_mk {P:bu}{w:de}{K:aa}{mg:Str->Option ae}{fa:Addr}(hfa:mg "law" = some (.ref fa))(Z:Zt K mg)(F:∀ i,i<49->wL K mg (rP i) (gG i) (cK i) (oV i) (OU i)):
 ∃ fd:gu,(∀(s:ag)(u:ae),yr s fd ⟨[u],[]⟩ [("_law_script", u)])/\∀ base:Heap,K.In base->base.Ns cu mg->tN mg base->fS P w K mg base dP (2*16) fa fd ["_law_script"] (gA K (aI G 16) 48):=by
 obtain⟨_,d,_⟩:=F 0 (by decide)
 obtain⟨T,TC⟩:=KU 49 Pr F d
 have e:=hfa.symm.trans (show mg "law" = some (.ref (T.a 48))from T.mg 48 (by decide))
 cases e
 exact⟨T.fd 48,QS (T.fn 48 (by decide)) (Pr 48 (by decide)),fun base _ _ B=>(FP T (fun k IH IL=>⟨Th T Z B TC IH IL,Ta T Z IH⟩) 16).1 48 (by decide)⟩
end L3
open PySem PySem.W PyProof.Rows
local macro_rules|`(tactic| walk_at"ft")=>`(tactic| (refine' L3.uB.Hq (L3.Kn (by assumption) (by assumption) ?a ?l ?c ?k);(case a=>k_is);(case l=>k_is);(case c=>k_is);(case k=>k_is)))
local macro_rules|`(tactic| walk_at"fi")=>`(tactic| (refine' L3.uB.Hq (L3.Lc (by assumption) (by assumption) ?cl ?mk ?kp ?a ?fn ?l ?cc ?k);(case cl=>k_is);(case mk=>k_is);(case kp=>k_is);(case a=>k_is);(case fn=>k_is);(case l=>k_is);(case cc=>k_is);(case k=>k_is)))
local macro_rules|`(tactic| walk_at"fm")=>`(tactic| (refine' L3.uB.Hq (L3.Nr (by assumption) (by assumption) ?cl ?pg ?hd ?po ?sa ?a ?fn ?l ?cc ?k);(case cl=>k_is);(case pg=>k_is);(case hd=>k_is);(case po=>k_is);(case sa=>k_is);(case a=>k_is);(case fn=>k_is);(case l=>k_is);(case cc=>k_is);(case k=>k_is)))
local macro_rules|`(tactic| walk_at"fc")=>`(tactic| (refine' L3.Gv ?cl ?pg ?hd ?po ?sa;(case cl=>k_is);(case pg=>k_is);(case hd=>k_is);(case po=>k_is);(case sa=>k_is)))
local macro_rules|`(tactic| walk_at"fa")=>`(tactic| (refine' L3.Gs ?cl ?na;(case cl=>k_is);(case na=>k_is)))
local macro_rules|`(tactic| walk_at"fn")=>`(tactic| (refine' PySem.W.mg_none_of (by assumption) (by assumption) ?x;(case x=>k_is)))
local macro_rules|`(tactic| walk_at"fg")=>`(tactic| (refine' L3.Hb (by assumption) (by assumption) ?a;(case a=>k_is)))
namespace PySem.W.Fast
def tw2422599642148776667:Unit:=()
def tw15678461468602986843:Unit:=()
def tw15947967403080229750:Unit:=()
def tw11125741346471667468:Unit:=()
def tw11883328633038205382:Unit:=()
def tw3873176771654184728:Unit:=()
def tw17894069513112356851:Unit:=()
def tw14203824578328428090:Unit:=()
def tw6530808861159939940:Unit:=()
def tw17492813095876126415:Unit:=()
def tw12856529103969165949:Unit:=()
def tw14815705370377552572:Unit:=()
def tw5456811443336996859:Unit:=()
def tw10613004213626745766:Unit:=()
def tw11162650122847241129:Unit:=()
def tw6622146378820271213:Unit:=()
def tw17704632889350743613:Unit:=()
def tw11630804727355531608:Unit:=()
def tw12848184889624001344:Unit:=()
def tw1358729538041858321:Unit:=()
def tw15610176225583896872:Unit:=()
def tw6093178082080963937:Unit:=()
def tw13682194722288214612:Unit:=()
def tw2887800088044318761:Unit:=()
def tw8620430381626392361:Unit:=()
def tw6055517202307359659:Unit:=()
def tw18043604508937344887:Unit:=()
def tw14761817867417412584:Unit:=()
def tw12745108119759745478:Unit:=()
def tw14908684024934542537:Unit:=()
def tw5741334734999000984:Unit:=()
def tw8468478320703496055:Unit:=()
def tw633186652594852893:Unit:=()
def tw2336502471658849509:Unit:=()
def tw813724563284536984:Unit:=()
def tw17559672234396561960:Unit:=()
def tw4501639953059061418:Unit:=()
def tw8088991494975241926:Unit:=()
def tw9021083492995356299:Unit:=()
def tw10888962755267665159:Unit:=()
def tw14899967003219567538:Unit:=()
def tw780065236592757592:Unit:=()
def tw8376418011049290548:Unit:=()
def tw17979512440968462853:Unit:=()
def tw13346642926349301287:Unit:=()
def tw9419887540178322405:Unit:=()
def tw2803044235552559417:Unit:=()
def tw4717684941546002836:Unit:=()
def tw12042504400835768966:Unit:=()
def tw1652393520532734884:Unit:=()
def tw11166774469391515140:Unit:=()
def tw13870249154261136765:Unit:=()
def tw17536866414315670330:Unit:=()
def tw4609832878052745568:Unit:=()
def tw2521563442000861534:Unit:=()
def tw17766439803937563115:Unit:=()
def tw1627987464567424651:Unit:=()
def tw11426528475175065731:Unit:=()
def tw11978437969637490589:Unit:=()
def tw15109255344581808908:Unit:=()
def tw3090407427440054390:Unit:=()
def tw11477841695860105456:Unit:=()
def tw7699035126775640947:Unit:=()
def tw18067919072616732510:Unit:=()
def tw585016287925821293:Unit:=()
def tw11516629466090228440:Unit:=()
def tw3098481072920857114:Unit:=()
def tw10976237401319528083:Unit:=()
def tw5859544861367850613:Unit:=()
def tw7219330839129466205:Unit:=()
def tw4881011894523946674:Unit:=()
def tw13109802836118813199:Unit:=()
def tw12846210140608562032:Unit:=()
def tw1509376631305876244:Unit:=()
def tw802870970168053629:Unit:=()
def tw13330755552838900909:Unit:=()
def tw6271126920401171558:Unit:=()
def tw12515269340981237726:Unit:=()
def tw8327266823682598354:Unit:=()
def tw7399623787756838028:Unit:=()
def tw4831255846707996887:Unit:=()
def tw9180910221095930845:Unit:=()
def tw1388129688388320828:Unit:=()
def tw9425776633385312730:Unit:=()
def tw10071496954467110319:Unit:=()
def tw4313077358950162571:Unit:=()
def tw11282563765879316038:Unit:=()
def tw18385905278356719794:Unit:=()
def tw1217892321039172740:Unit:=()
def tw5774974591995606170:Unit:=()
def tw3056075647727308688:Unit:=()
def tw12305538634402518206:Unit:=()
def tw16183790552368880251:Unit:=()
def tw8584000667487312370:Unit:=()
def tw7085808119319513894:Unit:=()
def tw1036951999636985309:Unit:=()
def tw13810127178919091956:Unit:=()
def tw13652752280707844395:Unit:=()
def tw6180234981370546622:Unit:=()
def tw7541177071722846808:Unit:=()
def tw4723348109059231183:Unit:=()
def tw11972101302884909010:Unit:=()
end PySem.W.Fast
set_option maxRecDepth 100000 in
set_option maxHeartbeats 0 in
theorem PySem.Challenge.cw_leastloss_k09_whole_game_walked_holds : PySem.Challenge.rw_leastloss_k09_whole_game_walked.Holds := by
 w_on;o_law;k_head;(case hw=>w_witness2)
 k_fill
 refine L3.Nz (tabs:=[(L3.eQ,272),(L3.iH,277)]) (l:=PySem.Challenge.rw_leastloss_k09_whole_game_walked) (x :="_law_script") (r:=2*16) (k:=16) (f:=48) (G:=L3.G) ⟨rfl,by decide,by decide⟩ L3.XY (by decide) rfl rfl (fun w h Y=>PySem.W.km_in_of Y) (fun w h Y=>List.forall_mem_cons.mpr ⟨PySem.W.km_tabs_of Y 272 (by decide),List.forall_mem_cons.mpr ⟨PySem.W.km_tabs_of Y 277 (by decide),fun _ h=>nomatch h⟩⟩) ?t2 ?t3 ?F
 case t2=>intro w;refine List.forall_mem_cons.mpr ⟨?_,List.forall_mem_cons.mpr ⟨?_,fun _ h=>nomatch h⟩⟩<;>kernel_rfl
 case t3=>intro w;refine List.forall_mem_cons.mpr ⟨?_,List.forall_mem_cons.mpr ⟨?_,fun _ h=>nomatch h⟩⟩<;>kernel_rfl
 case F =>
 intro w mg fa h KX G hmg
 refine L3.all_mk hmg ?Z (L3.Tw ?F0 ?F1 ?F2 ?F3 ?F4 ?F5 ?F6 ?F7 ?F8 ?F9 ?F10 ?F11 ?F12 ?F13 ?F14 ?F15 ?F16 ?F17 ?F18 ?F19 ?F20 ?F21 ?F22 ?F23 ?F24 ?F25 ?F26 ?F27 ?F28 ?F29 ?F30 ?F31 ?F32 ?F33 ?F34 ?F35 ?F36 ?F37 ?F38 ?F39 ?F40 ?F41 ?F42 ?F43 ?F44 ?F45 ?F46 ?F47 ?F48)
 case Z =>
  refine⟨?b_isinstance,?b_str,?b_len,?b_all,?b_tuple,?b_list,?b_reversed,?b_set,?b_any,?b_int,?b_bool,?b_sum,?b_range,?g_NO_NAMES,?g_LONGEST_NAME,?g_LETTERS,?g_DEEPEST,?g_SAYINGS_WITHIN,?g_PAST_WORDS,?g_MOST_LAMPS,?g_MOST_PROMISES,?g_HIGHEST_PRICE,?g_MOST_WISHES,?g_MOST_MUSTS,?g_MOST_PIECES,?c_Table,?c_Rules,?c_Numbering,?a_Table_names,?a_Table_pieces,?a_Table_rows,?a_Table_row_of,?a_Table_first_memory,?a_Table_remembered_rows,?a_Rules_table,?a_Rules_promise_rows,?a_Rules_must_rows,?a_Rules_priced_rows,?a_Numbering_met,?a_Numbering_numbers_met⟩
  case b_isinstance=>walk_at"fn"
  case b_str=>walk_at"fn"
  case b_len=>walk_at"fn"
  case b_all=>walk_at"fn"
  case b_tuple=>walk_at"fn"
  case b_list=>walk_at"fn"
  case b_reversed=>walk_at"fn"
  case b_set=>walk_at"fn"
  case b_any=>walk_at"fn"
  case b_int=>walk_at"fn"
  case b_bool=>walk_at"fn"
  case b_sum=>walk_at"fn"
  case b_range=>walk_at"fn"
  case g_NO_NAMES=>refine' L3.SQ KX G ?NO_NAMESa ?NO_NAMESl ?NO_NAMESf ?NO_NAMESz;(case NO_NAMESa=>k_is);(case NO_NAMESl=>k_is);(case NO_NAMESf=>kernel_rfl);(case NO_NAMESz=>kernel_rfl)
  case g_LONGEST_NAME=>walk_at"fg"
  case g_LETTERS=>refine' L3.Eb KX G ?LETTERSa ?LETTERSe;(case LETTERSa=>k_is);(case LETTERSe=>rfl)
  case g_DEEPEST=>walk_at"fg"
  case g_SAYINGS_WITHIN=>refine' L3.Hg KX G ?SAYINGS_WITHINa ?SAYINGS_WITHINl ?SAYINGS_WITHINf;(case SAYINGS_WITHINa=>k_is);(case SAYINGS_WITHINl=>k_is);(case SAYINGS_WITHINf=>kernel_rfl)
  case g_PAST_WORDS=>refine' L3.SQ KX G ?PAST_WORDSa ?PAST_WORDSl ?PAST_WORDSf ?PAST_WORDSz;(case PAST_WORDSa=>k_is);(case PAST_WORDSl=>k_is);(case PAST_WORDSf=>kernel_rfl);(case PAST_WORDSz=>kernel_rfl)
  case g_MOST_LAMPS=>walk_at"fg"
  case g_MOST_PROMISES=>walk_at"fg"
  case g_HIGHEST_PRICE=>walk_at"fg"
  case g_MOST_WISHES=>walk_at"fg"
  case g_MOST_MUSTS=>walk_at"fg"
  case g_MOST_PIECES=>walk_at"fg"
  case c_Table=>walk_at"fc"
  case c_Rules=>walk_at"fc"
  case c_Numbering=>walk_at"fc"
  case a_Table_names=>walk_at"fa"
  case a_Table_pieces=>walk_at"fa"
  case a_Table_rows=>walk_at"fa"
  case a_Table_row_of=>walk_at"fa"
  case a_Table_first_memory=>walk_at"fa"
  case a_Table_remembered_rows=>walk_at"fa"
  case a_Rules_table=>walk_at"fa"
  case a_Rules_promise_rows=>walk_at"fa"
  case a_Rules_must_rows=>walk_at"fa"
  case a_Rules_priced_rows=>walk_at"fa"
  case a_Numbering_met=>walk_at"fa"
  case a_Numbering_numbers_met=>walk_at"fa"
 case F0=>walk_at"ft"
 case F1=>walk_at"ft"
 case F2=>walk_at"ft"
 case F3=>walk_at"ft"
 case F4=>walk_at"ft"
 case F5=>walk_at"ft"
 case F6=>walk_at"ft"
 case F7=>walk_at"ft"
 case F8=>walk_at"ft"
 case F9=>walk_at"ft"
 case F10=>walk_at"ft"
 case F11=>walk_at"ft"
 case F12=>walk_at"ft"
 case F13=>walk_at"ft"
 case F14=>walk_at"ft"
 case F15=>walk_at"ft"
 case F16=>walk_at"ft"
 case F17=>walk_at"ft"
 case F18=>walk_at"fi"
 case F19=>walk_at"fm"
 case F20=>walk_at"fm"
 case F21=>walk_at"fm"
 case F22=>walk_at"fm"
 case F23=>walk_at"fm"
 case F24=>walk_at"fi"
 case F25=>walk_at"fm"
 case F26=>walk_at"fm"
 case F27=>walk_at"fm"
 case F28=>walk_at"ft"
 case F29=>walk_at"ft"
 case F30=>walk_at"ft"
 case F31=>walk_at"ft"
 case F32=>refine' L3.RZ KX G ?a32 ?l32 ?c32 ?k32;(case a32=>k_is);(case l32=>k_is);(case c32=>k_is);(case k32=>k_is)
 case F33=>refine' L3.RZ KX G ?a33 ?l33 ?c33 ?k33;(case a33=>k_is);(case l33=>k_is);(case c33=>k_is);(case k33=>k_is)
 case F34=>walk_at"ft"
 case F35=>walk_at"ft"
 case F36=>walk_at"fi"
 case F37=>walk_at"fm"
 case F38=>walk_at"ft"
 case F39=>walk_at"ft"
 case F40=>walk_at"ft"
 case F41=>walk_at"ft"
 case F42=>walk_at"ft"
 case F43=>walk_at"ft"
 case F44=>walk_at"ft"
 case F45=>walk_at"ft"
 case F46=>walk_at"ft"
 case F47=>walk_at"ft"
 case F48=>walk_at"ft"
